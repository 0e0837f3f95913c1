/- The contracts of the document's own sums. -/
import Derived.Test.YtjbodokligpcaaaGreatRows
import Derived.Test.YtjbodokligpcaaaGreatBase
import Derived.Test.YtjbodokligpcaaaGreatCrcM
import Derived.WalkSpells
namespace Go.Proofs.YtjbodokligpcaaaGreat
open Go.RowKit

theorem csteps_succ (n x : Nat) : csteps (n + 1) x = cstep (csteps n x) := by
  rw [csteps_add]; rfl

theorem crun_take (x : Nat) (l : List Nat) (k : Nat) (h : k < l.length) : crun x (l.take (k + 1)) = ctake (crun x (l.take k)) (l.getD k 0) := by
  rw [List.take_succ_eq_append_getElem h, crun_append, List.getD_eq_getElem?_getD, List.getElem?_eq_getElem h]
  rfl

theorem byte_get {l : List Nat} (h : ∀ y ∈ l, y < 256) (k : Nat) : l.getD k 0 < 256 := by
  by_cases hp : k < l.length
  · rw [List.getD_eq_getElem?_getD, List.getElem?_eq_getElem hp]; exact h _ (List.getElem_mem hp)
  · rw [List.getD_eq_getElem?_getD, List.getElem?_eq_none (by omega)]; decide

theorem wf_u32 {n : Int} (h : (Lit.int .u32 n).wf = true) : 0 ≤ n ∧ n < 4294967296 := by
  have h1 : IntKind.u32.min = 0 := rfl
  have h2 : IntKind.u32.max = 4294967295 := rfl
  simp only [Lit.wf, Bool.and_eq_true, decide_eq_true_eq] at h
  omega

/-- A number of 32 bits. -/
def U32 (n : Nat) : Prop := n < 4294967296

set_option maxHeartbeats 400000 in
set_option maxRecDepth 100000 in
theorem refExtend_any (s : Nat) (v : Value) (l : List Nat) (w : World) (hs : U32 s) (hr : Reads w .u8 v l) (hl : ∀ y ∈ l, y < 256) :
    Calls Tryz.prog 77 #[.int .u32 (s : Int), v] w fun e w' => e = .returned (.int .u32 (crcx s l : Nat)) ∧ w = w' := by
  obtain ⟨ao, cap, rfl, h1, h2, h3⟩ := hr.val
  go_enter Tryz.func77, Tryz.ntmps77
  go_wp2
  go_loopw [5, 6] (fun x i wr => ∃ (k : Nat) (y : Nat), k ≤ l.length ∧ i = .int .i64 (k : Int) ∧ x = .int .u32 (y : Int) ∧ y = crun (s ^^^ 4294967295) (l.take k) ∧ w = wr)
    (fun _ i _ => l.length - (intOf i).toNat)
  case atStart => exact ⟨0, s ^^^ 4294967295, by omega, rfl, by rw [show (4294967295 : Int) = ((4294967295 : Nat) : Int) from rfl, u32_xor_nat _ _ hs (by decide)], rfl, rfl⟩
  case round =>
    obtain ⟨k, y, hk, rfl, rfl, hy, rfl⟩ := hrel
    by_cases hlt : k < l.length
    · obtain ⟨b, off, rfl, hblk, hc⟩ := hr.at hlt
      have hcell := hc k hlt
      have hbyte := byte_get hl k
      have hnext := crun_take (s ^^^ 4294967295) l k hlt
      generalize l.getD k 0 = c at hcell hbyte hnext
      rw [← hy] at hnext
      have hy32 : U32 y := hy ▸ crun_lt _ (Nat.xor_lt_two_pow (n := 32) hs (by decide)) (fun z hz => hl z (List.mem_of_mem_take hz))
      have HY := Lib.hid hy; clear hy
      have HN := Lib.hid hnext; clear hnext
      have hx32 : U32 (y ^^^ c) := Nat.xor_lt_two_pow (n := 32) hy32 (by omega)
      have hcm : (c : Int) % 4294967296 = (c : Int) := by omega
      have hxor := u32_xor_nat y c hy32 (by omega)
      clear hc
      have hlti : (k : Int) < l.length := by omega
      have hkw : Hid (wrap64 ((k : Int) + 1) = (k : Int) + 1) := Lib.hid (IntWalk.wrap64_in _ (by have : maxLen = 9223372036854775807 := rfl; omega))
      go_wp2
      go_loopw [5, 7] (fun x j wr2 => ∃ (m z : Nat), m ≤ 8 ∧ j = .int .i64 (m : Int) ∧ x = .int .u32 (z : Int) ∧ z = csteps m (y ^^^ c) ∧ w = wr2)
        (fun _ j _ => 8 - (intOf j).toNat)
      case atStart => exact ⟨0, y ^^^ c, by omega, rfl, by first | rfl | rw [hcm, hxor] | rw [hxor], rfl, rfl⟩
      case round =>
        obtain ⟨m, z, hm, rfl, rfl, hz, rfl⟩ := hrel
        have hz32 : U32 z := hz ▸ csteps_lt m hx32
        have HZ := Lib.hid hz; clear hz
        by_cases hm8 : m < 8
        · have hmi : (m : Int) < 8 := by omega
          have HS : Hid (cstep z = csteps (m + 1) (y ^^^ c)) := Lib.hid (by rw [csteps_succ, HZ.out])
          rcases Nat.mod_two_eq_zero_or_one z with hp | hp
          · have hpi : ((z : Int) % 2 == 1) = false := by rw [beq_eq_false_iff_ne]; omega
            have hst : cstep z = z / 2 := by unfold cstep; rw [if_neg (by omega)]
            go_wp2
            go_roundw
            case rel => exact ⟨m + 1, z / 2, by omega, by go_num, by rw [show (z : Int) / 2 % 4294967296 = ((z / 2 : Nat) : Int) from by unfold U32 at hz32; omega], by rw [← hst]; exact HS.out, trivial⟩
            case measure => simp [intOf]; omega
          · have hpi : ((z : Int) % 2 == 1) = true := by rw [beq_iff_eq]; omega
            have hst : cstep z = z / 2 ^^^ 2197175160 := by unfold cstep; rw [if_pos (by omega)]
            go_wp2
            go_roundw
            case rel => exact ⟨m + 1, z / 2 ^^^ 2197175160, by omega, by go_num, by rw [show (z : Int) / 2 % 4294967296 = ((z / 2 : Nat) : Int) from by unfold U32 at hz32; omega, show (2197175160 : Int) = ((2197175160 : Nat) : Int) from rfl, u32_xor_nat _ _ (by unfold U32 at hz32; omega) (by decide)], by rw [← hst]; exact HS.out, trivial⟩
            case measure => simp [intOf]; omega
        · obtain rfl : m = 8 := by omega
          go_wp2
          go_roundw
          case rel => exact ⟨k + 1, z, by omega, by rw [hkw.out]; rfl, rfl, by rw [HN.out, HZ.out]; rfl, trivial⟩
          case measure => rw [hkw.out]; simp [intOf]; omega
    · obtain rfl : k = l.length := by omega
      have hy32 : U32 y := hy ▸ crun_lt _ (Nat.xor_lt_two_pow (n := 32) hs (by decide)) (fun z hz => hl z (List.mem_of_mem_take hz))
      rw [List.take_length] at hy
      have HE : Hid (crcx s l = y ^^^ 4294967295) := Lib.hid (by rw [hy]; rfl)
      clear hy
      go_wp2
      go_ret
      refine ⟨congrArg (fun n => Ending.returned (Value.int .u32 n)) ?_, rfl⟩
      rw [HE.out, show (4294967295 : Int) = ((4294967295 : Nat) : Int) from rfl, u32_xor_nat _ _ hy32 (by decide)]

set_option maxHeartbeats 400000 in
set_option maxRecDepth 100000 in
theorem refSum_any (v : Value) (l : List Nat) (w : World) (hr : Reads w .u8 v l) (hl : ∀ y ∈ l, y < 256) :
    Calls Tryz.prog 55 #[v] w fun e w' => e = .returned (.int .u32 (crcx 0 l : Nat)) ∧ w = w' := by
  go_enter Tryz.func55, Tryz.ntmps55
  go_wp2_with fail
  refine (refExtend_any 0 v l w (by unfold U32; decide) hr hl).mono ?_
  rintro e w1 ⟨rfl, rfl⟩
  go_wp2
  go_ret
  exact ⟨rfl, rfl⟩

/-- A literal of numbers is the call's own. -/
theorem owns_lit (w : World) (base : Nat) (e : TypeId) (k : IntKind) (l : List Nat) (cs : Array Value) (hc : cs.toList = vals k l) (hb : base ≤ w.heap.size) (hm : l.length ≤ maxLen) :
    Owns (w.alloc (.cells cs e)) base e k (.slice (some ⟨w.heap.size, 0, none⟩) l.length l.length) l := by
  have h := World.ownsRow_lit (e := e) (size := 1) w cs l.length hb hm (by have := congrArg List.length hc; simpa [vals_length] using this)
  rw [hc] at h
  exact h

theorem four_vals (x : Nat) : [Value.int .u8 ((x : Int) / 16777216 % 256), .int .u8 ((x : Int) / 65536 % 256), .int .u8 ((x : Int) / 256 % 256), .int .u8 ((x : Int) % 256)] = vals .u8 (four x) := by
  simp [vals, four]

set_option maxHeartbeats 400000 in
set_option maxRecDepth 100000 in
theorem refFour_any (x : Nat) (w : World) :
    Calls Tryz.prog 54 #[.int .u32 (x : Int)] w fun e w' => ∃ v', e = .returned v' ∧ Owns w' w.heap.size 5 .u8 v' (four x) ∧ Below w.heap.size w w' := by
  go_enter Tryz.func54, Tryz.ntmps54
  go_wp2
  go_ret
  exact ⟨_, rfl, owns_lit w _ _ _ (four x) _ (four_vals x) (Nat.le_refl _) (by simp [four, maxLen]), (Below.refl _ _).alloc (Nat.le_refl _) _⟩

end Go.Proofs.YtjbodokligpcaaaGreat
