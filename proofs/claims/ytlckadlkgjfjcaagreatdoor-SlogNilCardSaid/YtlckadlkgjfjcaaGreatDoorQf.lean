/- The contracts of what puts numbers: putGroups, bytes.Clone, Put, PutText, PutList. · The contracts of the document's own bytes (the reference package), and of the comparison of bytes. · The contracts of Take and of the document's Take. · The contract of the document's own Take. -/
import Derived.Test.YtlckadlkgjfjcaaGreatDoorRows
import Derived.Test.YtlckadlkgjfjcaaGreatDoorBase
import Derived.Test.YtlckadlkgjfjcaaGreatDoorEnP
import Derived.Test.YtlckadlkgjfjcaaGreatDoorDaP
import Derived.WalkSpells
import Derived.Deep.QuietTactic
import Derived.BigQuiet
import Derived.Deep.RegionWith
namespace Go.Proofs.YtlckadlkgjfjcaaGreatDoor
open Go.RowKit

set_option maxHeartbeats 400000 in
set_option maxRecDepth 100000 in
theorem putGroups_any (base : Nat) (v : Value) (xs : List Nat) (n : Nat) (w : World) (hown : Owns w base 5 .u8 v xs) (hbase : base ≤ w.heap.size)
    (hn : U64 n) (hx : xs.length ≤ 100000000000000) :
    Calls Tryz.prog 211 #[v, .int .u64 (n : Int)] w fun e w' => ∃ v', e = .returned v' ∧ Owns w' base 5 .u8 v' (xs ++ enc n) ∧ Below base w w' := by
  go_enter Tryz.func211, Tryz.ntmps211
  go_wp2
  go_loopw [0, 1] (fun v i wr => ∃ (m : Nat) (done : List Nat), U64 m ∧ i = .int .u64 (m : Int) ∧ enc n = done ++ enc m ∧ Owns wr base 5 .u8 v (xs ++ done) ∧ Below base w wr)
    (fun _ i _ => (intOf i).toNat)
  case atStart => exact ⟨n, [], hn, rfl, rfl, by simpa using hown, Below.refl _ _⟩
  case round =>
    obtain ⟨m, done, hm, rfl, he, ho, hb⟩ := hrel
    have HE := Lib.hid he; clear he
    by_cases hlt : 128 ≤ (m : Int)
    · have hlen := enc_len10 hn
      have hdl : done.length < 10 := by have := congrArg List.length HE.out; have := enc_pos m; simp at *; omega
      go_wp2_with (at_builtin; go_must (refine wpList_app _ rfl _ _ 22 rfl base 5 (.int .u8 0) 1 Tryz.underlying22 Tryz.info5 rfl .u8 _ (xs ++ done) rfl (ho.alloc _) _ [m % 128 + 128] rfl ?r (by decide) ?c1 ?c3 ?_))
      case r => rw [or128]; exact reads_new _ _ _ _
      case c1 => (try simp); omega
      case c3 => have := hb.size; simp; omega
      intro v' w1 ho1 hg
      go_wp2
      go_roundw
      case rel =>
        refine ⟨m / 128, done ++ [m % 128 + 128], hm.div _, rfl, ?_, ?_, ?_⟩
        · rw [HE.out, enc_big (by omega)]; simp
        · exact ho1
        · have hs := hb.size
          exact (hb.alloc (by omega) _).grown hg (by simp; omega) (fun j hj => (ho.lt j hj).1)
      case measure => simp [intOf]; omega
    · have hlen := enc_len10 hn
      have hdl : done.length < 10 := by have := congrArg List.length HE.out; have := enc_pos m; simp at *; omega
      have hmm : (m : Int) % 256 = (m : Int) := by omega
      go_wp2_with (at_builtin; go_must (refine wpList_app _ rfl _ _ 22 rfl base 5 (.int .u8 0) 1 Tryz.underlying22 Tryz.info5 rfl .u8 _ (xs ++ done) rfl (ho.alloc _) _ [m] rfl ?r (by decide) ?c1 ?c3 ?_))
      case r => exact reads_new _ _ _ _
      case c1 => (try simp); omega
      case c3 => have := hb.size; simp; omega
      intro v' w1 ho1 hg
      go_wp2
      go_ret
      refine ⟨_, rfl, ?_, ?_⟩
      · rw [HE.out, enc_small (by omega)]; exact ho1
      · have hs := hb.size
        exact (hb.alloc (by omega) _).grown hg (by simp; omega) (fun j hj => (ho.lt j hj).1)

set_option maxHeartbeats 400000 in
set_option maxRecDepth 100000 in
theorem put_any (v nv : Value) (xs ns : List Nat) (w : World) (hr : Reads w .u8 v xs) (hn : Reads w .u64 nv ns) (hu : ∀ n ∈ ns, U64 n) (hx : xs.length + 10 * ns.length ≤ 90000000000000) :
    Calls Tryz.prog 143 #[v, nv] w fun e w' => ∃ v', e = .returned v' ∧ Owns w' w.heap.size 5 .u8 v' (xs ++ encs ns) ∧ Below w.heap.size w w' := by
  obtain ⟨ao, cap, rfl, h1, h2, h3⟩ := hn.val
  have HN := Lib.hid hn; clear hn h3
  go_enter Tryz.func143, Tryz.ntmps143
  go_wp2_with fail
  refine (clone_any v xs w hr (by omega)).mono ?_
  rintro e w1 ⟨v1, rfl, ho, hb⟩
  go_wp2
  go_loopw [5, 6, 11] (fun v j i wr => ∃ k : Nat, k ≤ ns.length ∧ i = .int .i64 (k : Int) ∧ Owns wr w.heap.size 5 .u8 v (xs ++ encs (ns.take k)) ∧ Below w.heap.size w wr)
    (fun _ _ i _ => ns.length - (intOf i).toNat)
  case atStart => exact ⟨0, Nat.zero_le _, rfl, by simpa [encs] using ho, hb⟩
  case round =>
    obtain ⟨k, hk, rfl, ho1, hb1⟩ := hrel
    by_cases hlt : k < ns.length
    · obtain ⟨b, off, rfl, hbl, hc⟩ := HN.out.at hlt
      have hcc := (hb1.cell (p := ⟨b, off + k, none⟩) hbl).trans (hc k hlt)
      have hts := take_snoc ns k hlt
      have hxm := hu _ (getD_mem ns k hlt)
      have hel := encs_len (l := ns.take k) fun n hn => hu n (List.mem_of_mem_take hn)
      have hel2 : (ns.take k).length ≤ k := List.length_take_le _ _
      generalize ns.getD k 0 = x at hcc hts hxm
      have HT := Lib.hid hts
      clear hts hc
      go_wp2_with fail
      refine (putGroups_any w.heap.size _ _ x _ ho1 hb1.size hxm (by simp; omega)).mono ?_
      rintro e w2 ⟨v2, rfl, ho2, hb2⟩
      go_wp2
      go_roundw
      case rel => exact ⟨k + 1, by omega, by go_num, by rw [HT.out, encs_snoc, ← List.append_assoc]; exact ho2, hb1.trans hb2⟩
      case measure => simp [intOf]; omega
    · go_wp2
      go_ret
      obtain rfl : k = ns.length := by omega
      exact ⟨_, rfl, by simpa using ho1, hb1⟩

/-- One number, in a row that the call has just made. -/
theorem reads_lit (w : World) (k : IntKind) (e : TypeId) (n : Nat) : Reads (w.alloc (.cells #[.int k (n : Int)] e)) k (.slice (some ⟨w.heap.size, 0, none⟩) 1 1) [n] := reads_new w k e n

theorem u64_of_le {n : Nat} (h : n ≤ 100000000000000) : U64 n := by unfold U64; omega

set_option maxHeartbeats 400000 in
set_option maxRecDepth 100000 in
theorem putText_any (v tv : Value) (xs ts : List Nat) (w : World) (hr : Reads w .u8 v xs) (ht : Reads w .u8 tv ts) (hx : xs.length + ts.length ≤ 80000000000000) :
    Calls Tryz.prog 212 #[v, tv] w fun e w' => ∃ v', e = .returned v' ∧ Owns w' w.heap.size 5 .u8 v' (xs ++ enc ts.length ++ ts) ∧ Below w.heap.size w w' := by
  obtain ⟨ao, cap, rfl, h1, h2, h3⟩ := ht.val
  have HT := Lib.hid ht; clear ht h3
  have hu : U64 ts.length := u64_of_le (by omega)
  have hl := enc_len10 hu
  go_enter Tryz.func212, Tryz.ntmps212
  go_wp2_with fail
  refine (put_any v _ xs [ts.length] _ (hr.below ((Below.refl _ _).alloc (Nat.le_refl _) _) (Nat.le_refl _)) (reads_lit _ _ _ _) (by simpa using hu) (by simp; omega)).mono ?_
  rintro e w1 ⟨v1, rfl, ho, hb⟩
  simp only [World.size_alloc] at ho hb
  have hb0 : Below w.heap.size w w1 := ((Below.refl _ _).alloc (Nat.le_refl _) _).trans (hb.mono (by simp))
  have ho' : Owns w1 w.heap.size 5 .u8 v1 (xs ++ enc ts.length) := by have := ho.mono (base' := w.heap.size) (by simp); simpa [encs] using this
  go_wp2_with (at_builtin; go_must (refine wpList_app _ rfl _ _ 22 rfl w.heap.size 5 (.int .u8 0) 1 Tryz.underlying22 Tryz.info5 rfl .u8 _ (xs ++ enc ts.length) rfl ho' _ ts rfl (HT.out.below hb0 (Nat.le_refl _)) (by decide) ?c1 ?c3 ?_))
  case c1 => (try simp); omega
  case c3 => exact hb0.size
  intro v' w2 ho2 hg
  go_wp2
  go_ret
  exact ⟨_, rfl, by simpa using ho2, hb0.grown hg hb0.size (fun j hj => (ho'.lt j hj).1)⟩


end Go.Proofs.YtlckadlkgjfjcaaGreatDoor

namespace Go.Proofs.YtlckadlkgjfjcaaGreatDoor
open Go.RowKit

theorem U64.int {n : Nat} (h : U64 n) : (n : Int) ≤ 18446744073709551615 := by unfold U64 at h; omega

end Go.Proofs.YtlckadlkgjfjcaaGreatDoor

namespace Go.Proofs.YtlckadlkgjfjcaaGreatDoor
open Go.RowKit

set_option maxHeartbeats 400000 in
set_option maxRecDepth 100000 in
theorem ends_yes (k x : Nat) (w : World) (h1 : k = 0 ∨ x ≠ 0) (h2 : k = 9 → x ≤ 1) :
    Calls Tryz.prog 329 #[.int .i64 (k : Int), .int .u8 (x : Int)] w fun e w' => e = .returned (.bool true) ∧ w = w' := by
  by_cases h9 : k = 9
  · have hx := h2 h9
    obtain rfl : x = 1 := by omega
    subst h9
    go_enter Tryz.func329, Tryz.ntmps329
    go_wp2
    go_ret
    exact ⟨rfl, rfl⟩
  · have t1 : ((k : Int) == 9) = false := by rw [beq_eq_false_iff_ne]; omega
    clear h2
    by_cases h0 : k = 0
    · subst h0
      go_enter Tryz.func329, Tryz.ntmps329
      go_wp2
      go_ret
      exact ⟨rfl, rfl⟩
    · have t2 : ((k : Int) == 0) = false := by rw [beq_eq_false_iff_ne]; omega
      have t3 : ((x : Int) != 0) = true := by rw [bne_iff_ne]; omega
      clear h1
      go_enter Tryz.func329, Tryz.ntmps329
      go_wp2
      go_ret
      exact ⟨rfl, rfl⟩

set_option maxHeartbeats 400000 in
set_option maxRecDepth 100000 in
theorem ends_no (k x : Nat) (w : World) (h : ¬ ((k = 0 ∨ x ≠ 0) ∧ (k = 9 → x ≤ 1))) :
    Calls Tryz.prog 329 #[.int .i64 (k : Int), .int .u8 (x : Int)] w fun e w' => e = .returned (.bool false) ∧ w = w' := by
  by_cases h9 : k = 9 ∧ 1 < x
  · obtain ⟨rfl, hx⟩ := h9
    go_enter Tryz.func329, Tryz.ntmps329
    go_wp2
    go_ret
    exact ⟨rfl, rfl⟩
  · have hx0 : x = 0 := by omega
    have hk0 : ((k : Int) == 0) = false := by rw [beq_eq_false_iff_ne]; omega
    subst hx0
    clear h h9
    by_cases h9 : k = 9
    · subst h9
      go_enter Tryz.func329, Tryz.ntmps329
      go_wp2
      go_ret
      exact ⟨rfl, rfl⟩
    · have t1 : ((k : Int) == 9) = false := by rw [beq_eq_false_iff_ne]; omega
      go_enter Tryz.func329, Tryz.ntmps329
      go_wp2
      go_ret
      exact ⟨rfl, rfl⟩

/-- What Take hands back beside the number and its size. -/
def formIf (ok : Bool) : Value := if ok then .nilIface else .iface 41 (.int .i64 2)

/-- What Take hands back. -/
def Took (b : List Nat) (w : World) (e : Ending) (w' : World) : Prop :=
  ∃ (n k : Nat) (ok : Bool), e = .returned (.tuple #[.int .u64 (n : Int), .int .i64 (k : Int), formIf ok]) ∧ Taken b n k (ok = true) ∧ w = w'

set_option maxHeartbeats 1000000 in
set_option maxRecDepth 100000 in
theorem take_any (v : Value) (b : List Nat) (w : World) (hr : Reads w .u8 v b) (hb : ∀ y ∈ b, y < 256) :
    Calls Tryz.prog 300 #[v] w (Took b w) := by
  obtain ⟨ao, cap, rfl, h1, h2, h3⟩ := hr.val
  have HR := Lib.hid hr; clear hr h3
  have hbl : b.length ≤ 9223372036854775807 := by unfold maxLen at h2; omega
  clear h1 h2
  go_enter Tryz.func300, Tryz.ntmps300
  go_wp2
  all_goals
    go_loop [5, 6, 10] (fun a j i => ∃ (k : Nat) (acc : Int), k ≤ min b.length 10 ∧ i = .int .i64 (k : Int) ∧ a = .int .u64 acc ∧ (k ≤ 9 → acc = (val (b.take k) : Nat)) ∧ ∀ j, j < k → 128 ≤ b.getD j 0)
      (fun _ _ i => min b.length 10 - (intOf i).toNat)
    case atStart => exact ⟨0, 0, Nat.zero_le _, rfl, rfl, fun _ => rfl, by omega⟩
    case round =>
      obtain ⟨k, acc, hk, rfl, rfl, ha, hge⟩ := hrel
      by_cases hlt : k < min b.length 10
      · obtain ⟨bl, off, rfl, hbw, hc⟩ := HR.out.at (i := k) (by omega)
        have hcc := hc k (by omega)
        have hx256 := hb _ (getD_mem b k (by omega))
        generalize hxe : b.getD k 0 = x at hcc hx256
        have HA := Lib.hid ha
        have HG := Lib.hid hge
        have HX := Lib.hid hxe
        clear ha hge hc hxe
        have hor := fun (hk9 : k ≤ 9) (h9 : k = 9 → x ≤ 1) => or_step k x (val (b.take k)) hk9 hx256 (by have := val_lt (b.take k); rwa [List.length_take, Nat.min_eq_left (by omega)] at this) h9
        have HO := Lib.hid hor
        clear hor
        have hts : ∀ (h : k < b.length), val (b.take (k + 1)) = val (b.take k) + 128 ^ k * (x % 128) := fun h => by rw [take_snoc b k h, val_snoc, HX.out, List.length_take, Nat.min_eq_left (by omega)]
        have HT := Lib.hid hts
        clear hts
        by_cases hx : (128 : Int) ≤ (x : Int)
        · go_wp2_with fail
          go_round
          case rel =>
            refine ⟨k + 1, _, by omega, by go_num, rfl, ?_, ?_⟩
            · intro h9
              rw [HA.out (by omega), HO.out (by omega) (by omega), HT.out (by omega)]
            · intro j hj
              rcases Nat.lt_or_ge j k with h | h
              · exact HG.out j h
              · obtain rfl : j = k := by omega
                rw [HX.out]; omega
          case measure => simp [intOf]; omega
        · have hst := taken_stop (b := b) (k := k) (by omega) (by omega) HG.out hb (by rw [HX.out]; omega)
          rw [HX.out] at hst
          have HS := Lib.hid hst
          clear hst
          by_cases hends : (k = 0 ∨ x ≠ 0) ∧ (k = 9 → x ≤ 1)
          · have HE := Lib.hid hends
            clear hends
            go_wp2_with (go_at_call 329; refine (ends_yes k x _ HE.out.1 HE.out.2).mono ?_; rintro e w' ⟨rfl, rfl⟩)
            go_ret3
            obtain ⟨s1, s2, s3⟩ := HS.out.1 HE.out
            refine ⟨_, k + 1, true, ?_, .inl ⟨rfl, s1, s2, s3.symm⟩, rfl⟩
            rw [HA.out (by omega)]
            rw [HT.out (by omega), ← HO.out (by omega) (HE.out.2)]
            rfl
          · have HE := Lib.hid hends
            clear hends
            go_wp2_with (go_at_call 329; refine (ends_no k x _ HE.out).mono ?_; rintro e w' ⟨rfl, rfl⟩)
            go_ret3
            exact ⟨0, 0, false, rfl, .inr ⟨by simp, rfl, rfl, HS.out.2 HE.out⟩, rfl⟩
      · have HG := Lib.hid hge
        clear hge ha
        go_wp2
        go_ret3
        exact ⟨0, 0, false, rfl, .inr ⟨by simp, rfl, rfl, taken_none (by omega) HG.out⟩, rfl⟩
end Go.Proofs.YtlckadlkgjfjcaaGreatDoor

namespace Go.Proofs.YtlckadlkgjfjcaaGreatDoor
open Go.RowKit

end Go.Proofs.YtlckadlkgjfjcaaGreatDoor
