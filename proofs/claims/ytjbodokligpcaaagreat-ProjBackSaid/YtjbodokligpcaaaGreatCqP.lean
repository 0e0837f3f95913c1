/- What a maker takes in, byte by byte, and its table. · A maker at a block, and what its parts do: count, takeAll, extend. · A maker's table is made once, and used: takeAll, extend. · The fixed fact at the head of the crc statements: the chapter's example. · What is sealed, and opened, by a maker. -/
import Derived.Test.YtjbodokligpcaaaGreatOnP
import Derived.Test.YtjbodokligpcaaaGreatCrcR
import Derived.Deep.RegionHeld3
import Derived.StillTailTactics
import Derived.Test.YtjbodokligpcaaaGreatByteA
import Derived.Lib.SlBytesConst
import Derived.Test.YtjbodokligpcaaaGreatCloneA
import Derived.Test.YtjbodokligpcaaaGreatNumA
namespace Go.Proofs.YtjbodokligpcaaaGreat
open Go.RowKit

set_option maxHeartbeats 400000 in
set_option maxRecDepth 100000 in
theorem takeIn_any (x c : Nat) (w : World) (hx : U32 x) (hc : c < 256) :
    Calls Tryz.prog 112 #[.int .u32 (x : Int), .int .u8 (c : Int)] w fun e w' => e = .returned (.int .u32 (ctake x c : Nat)) ∧ w = w' := by
  have hx32 : U32 (x ^^^ c) := Nat.xor_lt_two_pow (n := 32) hx (by omega)
  have hcm : (c : Int) % 4294967296 = (c : Int) := by omega
  have hxor := u32_xor_nat x c hx (by omega)
  go_enter Tryz.func112, Tryz.ntmps112
  go_wp2
  go_loopw [0, 5, 10] (fun x0 _ j wr2 => ∃ (m z : Nat), m ≤ 8 ∧ j = .int .i64 (m : Int) ∧ x0 = .int .u32 (z : Int) ∧ z = csteps m (x ^^^ c) ∧ w = wr2)
    (fun _ _ j _ => 8 - (intOf j).toNat)
  case atStart => exact ⟨0, x ^^^ c, by omega, rfl, by first | rfl | rw [hcm, hxor] | rw [hxor], rfl, rfl⟩
  case round =>
    obtain ⟨m, z, hm, rfl, rfl, hz, rfl⟩ := hrel
    have hz32 : U32 z := hz ▸ csteps_lt m hx32
    have HZ := Lib.hid hz; clear hz
    by_cases hm8 : m < 8
    · have hmi : (m : Int) < 8 := by omega
      have HS : Hid (cstep z = csteps (m + 1) (x ^^^ c)) := Lib.hid (by rw [csteps_succ, HZ.out])
      rcases Nat.mod_two_eq_zero_or_one z with hp | hp
      · have hpi : bits .and .u32 (z : Int) 1 = ((0 : Nat) : Int) := (u32_and_nat z 1 hz32 (by decide)).trans (by rw [Nat.and_one_is_mod, hp])
        have hst : cstep z = z / 2 := by unfold cstep; rw [if_neg (by omega)]
        go_wp2
        go_roundw
        case rel => exact ⟨m + 1, z / 2, by omega, by go_num, by rw [show (z : Int) / 2 = ((z / 2 : Nat) : Int) from by omega], by rw [← hst]; exact HS.out, trivial⟩
        case measure => simp [intOf]; omega
      · have hpi : bits .and .u32 (z : Int) 1 = ((1 : Nat) : Int) := (u32_and_nat z 1 hz32 (by decide)).trans (by rw [Nat.and_one_is_mod, hp])
        have hst : cstep z = z / 2 ^^^ 2197175160 := by unfold cstep; rw [if_pos (by omega)]
        go_wp2
        go_roundw
        case rel => exact ⟨m + 1, z / 2 ^^^ 2197175160, by omega, by go_num, by rw [show (z : Int) / 2 = ((z / 2 : Nat) : Int) from by omega, show (2197175160 : Int) = ((2197175160 : Nat) : Int) from rfl, u32_xor_nat _ _ (by unfold U32 at hz32; omega) (by decide)], by rw [← hst]; exact HS.out, trivial⟩
        case measure => simp [intOf]; omega
    · obtain rfl : m = 8 := by omega
      go_wp2
      go_ret
      exact ⟨congrArg (fun n : Nat => Ending.returned (Value.int .u32 n)) (by rw [HZ.out]; rfl), rfl⟩

/-- What is left of a maker's table: the places from i on are a number each, those ahead are made. -/
structure Tab (w : World) (p i : Nat) : Prop where
  made : ∀ j, j < i → w.cell? ⟨p, 3 + j, none⟩ = some (.int .u32 (ctake 0 j : Nat))
  more : ∀ j, j < 256 → ∃ x, w.cell? ⟨p, 3 + j, none⟩ = some (.int .u32 x)

theorem Tab.next {w : World} {p k : Nat} (h : Tab w p k) (hk : k < 256) {x : Int} (hx : w.cell? ⟨p, 3 + k, none⟩ = some (.int .u32 x)) : Tab (w.setCell ⟨p, 3 + k, none⟩ (.int .u32 (ctake 0 k : Nat))).drew p (k + 1) := by
  constructor
  · intro j hj
    rw [World.cell?_drew]
    by_cases he : j = k
    · subst he
      exact World.cell?_setCell_same _ _ _ hx
    · rw [World.cell?_setCell_other _ _ _ _ (by simp <;> omega)]
      exact h.made j (by omega)
  · intro j hj
    rw [World.cell?_drew]
    by_cases he : j = k
    · subst he
      exact ⟨_, World.cell?_setCell_same _ _ _ hx⟩
    · rw [World.cell?_setCell_other _ _ _ _ (by simp <;> omega)]
      exact h.more j hj

theorem grownC_set {w w' : World} {p : Nat} (h : w.grownBy w' (some p)) (o : Nat) (v : Value) : w.grownBy (w'.setCell ⟨p, o, none⟩ v).drew (some p) :=
  ⟨h.os, h.tape, h.output, by simpa [World.setCell, World.drew] using h.size, fun k hk hne => by
    have hb := h.block k hk hne
    rw [← hb]
    simp only [World.drew, World.setCell, Array.getElem?_modify]
    rw [if_neg (fun he => hne (by rw [← he]))]⟩

set_option maxHeartbeats 400000 in
set_option maxRecDepth 100000 in
theorem makeTable_any (p : Nat) (w : World) (ht : Tab w p 0) (hf : ∀ k, w.frozen? ⟨p, k, none⟩ = false) :
    Calls Tryz.prog 114 #[.pointer (some ⟨p, 0, none⟩)] w fun e w' => e = .returned (.tuple #[]) ∧ Tab w' p 256 ∧ w.grownBy w' (some p) ∧ (∀ k, w'.frozen? ⟨p, k, none⟩ = false) ∧ (∀ k, k < 3 ∨ 259 ≤ k → w'.cell? ⟨p, k, none⟩ = w.cell? ⟨p, k, none⟩) := by
  go_enter Tryz.func114, Tryz.ntmps114
  go_wp2
  go_loopw [2, 3] (fun _ i wr => ∃ (k : Nat), k ≤ 256 ∧ i = .int .i64 (k : Int) ∧ Tab wr p k ∧ w.grownBy wr (some p) ∧ (∀ k, wr.frozen? ⟨p, k, none⟩ = false) ∧ (∀ k, k < 3 ∨ 259 ≤ k → wr.cell? ⟨p, k, none⟩ = w.cell? ⟨p, k, none⟩))
    (fun _ i _ => 256 - (intOf i).toNat)
  case atStart => exact ⟨0, by omega, rfl, ht, World.grownBy.refl _ _, hf, fun _ _ => rfl⟩
  case round =>
    obtain ⟨k, hk, rfl, htk, hg, hfr, hs⟩ := hrel
    by_cases hlt : k < 256
    · have hlti : (k : Int) < 256 := by omega
      have h0 := fun j (hj : j < 256) => htk.more j hj
      obtain ⟨x0, hx0⟩ := htk.more k hlt
      have hfk := hfr (3 + k)
      have hkm : IntKind.u8.wrap (k : Int) = (k : Int) := by show (k : Int) % 256 = k; omega
      go_wp2_with fail
      refine wp_region_still_tail 8 (by kernel_rfl) (by kernel_rfl) ?_
      simp only [List.take_succ_cons, List.take_zero, List.drop_succ_cons, List.drop_zero]
      repeat still_step
      still_call ((takeIn_any 0 k _ (by unfold U32; decide) hlt).mono (fun e w'' h => ⟨h.1, h.2.symm⟩))
      repeat still_step
      refine wpStill_nil ?_
      go_wp2
      go_roundw
      case rel =>
        refine ⟨k + 1, by omega, by go_num, htk.next hlt hx0, grownC_set hg _ _, ?_, ?_⟩
        · intro j
          rw [World.frozen?_drew, World.frozen?_setCell]
          exact hfr j
        · intro j hj
          rw [World.cell?_drew, World.cell?_setCell_other _ _ _ _ (by simp <;> omega)]
          exact hs j hj
      case measure => simp [intOf]; omega
    · obtain rfl : k = 256 := by omega
      go_wp2
      go_end0
      exact ⟨rfl, htk, hg, hfr, hs⟩

end Go.Proofs.YtjbodokligpcaaaGreat

namespace Go.Proofs.YtjbodokligpcaaaGreat
open Go.RowKit

/-- A maker at block p that made n sums: its table is not made yet, or made. -/
structure Mk (w : World) (p n : Nat) : Prop where
  lt : p < w.heap.size
  free : ∀ k, w.frozen? ⟨p, k, none⟩ = false
  kind : ∀ k y, w.cell? ⟨p, k, none⟩ = some y → ∃ kk x, y = .int kk x ∧ kk ≠ .u8
  lock : w.cell? ⟨p, 1, none⟩ = some (.int .i32 0)
  asked : w.cell? ⟨p, 259, none⟩ = some (.int .i64 (n : Int))
  tab : (w.cell? ⟨p, 0, none⟩ = some (.int .u32 0) ∧ Tab w p 0) ∨ (w.cell? ⟨p, 0, none⟩ = some (.int .u32 1) ∧ Tab w p 256)

theorem Mk.drew {w : World} {p n : Nat} (h : Mk w p n) : Mk w.drew p n := ⟨h.lt, h.free, h.kind, h.lock, h.asked, h.tab.imp (fun t => ⟨t.1, ⟨t.2.made, t.2.more⟩⟩) (fun t => ⟨t.1, ⟨t.2.made, t.2.more⟩⟩)⟩

theorem frozen_of {w w' : World} {p k : Nat} (h : w'.heap[p]? = w.heap[p]?) : w'.frozen? ⟨p, k, none⟩ = w.frozen? ⟨p, k, none⟩ := by
  unfold World.frozen?; rw [h]

/-- A maker stays where its block stays. -/
theorem Mk.keep {w w' : World} {p n : Nat} (h : Mk w p n) (hb : w'.heap[p]? = w.heap[p]?) (hs : w.heap.size ≤ w'.heap.size) : Mk w' p n := by
  have hc : ∀ k, w'.cell? ⟨p, k, none⟩ = w.cell? ⟨p, k, none⟩ := fun k => by unfold World.cell?; rw [hb]
  have ht : ∀ i, Tab w p i → Tab w' p i := fun i t => ⟨fun j hj => (hc _).trans (t.made j hj), fun j hj => (t.more j hj).imp fun x hx => (hc _).trans hx⟩
  exact ⟨Nat.lt_of_lt_of_le h.lt hs, fun k => (frozen_of hb).trans (h.free k), fun k y hy => h.kind k y ((hc k).symm.trans hy), (hc 1).trans h.lock, (hc 259).trans h.asked,
    h.tab.imp (fun t => ⟨(hc 0).trans t.1, ht 0 t.2⟩) (fun t => ⟨(hc 0).trans t.1, ht 256 t.2⟩)⟩

theorem Mk.alloc {w : World} {p n : Nat} (h : Mk w p n) (o : Obj) : Mk (w.alloc o) p n :=
  h.keep (Below.heap_alloc _ _ _ h.lt) (by simp)

theorem Mk.below {B : Nat} {w w' : World} {p n : Nat} (h : Mk w p n) (hb : Below B w w') (hB : p < B) : Mk w' p n := h.keep (hb.block p hB) hb.size

theorem u8_of_kind {w : World} {p n b o : Nat} {x : Int} (h : Mk w p n) (hc : w.cell? ⟨b, o, none⟩ = some (.int .u8 x)) : b ≠ p := by
  rintro rfl
  obtain ⟨kk, y, he, hne⟩ := h.kind _ _ hc
  cases he
  exact hne rfl

set_option maxRecDepth 100000 in
theorem zero_tab : ((List.range 256).all fun j => match Tryz.zeroCells144[3 + j]? with | some (.int .u32 _) => true | _ => false) = true := by kernel_rfl
set_option maxRecDepth 100000 in
theorem zero_kind : (Tryz.zeroCells144.all fun v => match v with | .int .u8 _ => false | .int _ _ => true | _ => false) = true := by kernel_rfl

set_option maxRecDepth 100000 in
theorem newC_any (w : World) : Calls Tryz.prog 74 #[] w fun e w' => ∃ p, e = .returned (.pointer (some ⟨p, 0, none⟩)) ∧ w.heap.size ≤ p ∧ Mk w' p 0 ∧ Below w.heap.size w w' := by
  go_enter Tryz.func74, Tryz.ntmps74
  go_wp2
  go_ret
  refine ⟨w.heap.size, rfl, Nat.le_refl _, ?_, (Below.refl _ _).alloc (Nat.le_refl _) _⟩
  have hc : ∀ k, (w.alloc (.cells Tryz.zeroCells144 144 (0, 0))).cell? ⟨w.heap.size, k, none⟩ = Tryz.zeroCells144[k]? := fun k => World.cell?_alloc_mark _ _ _ _ _
  refine ⟨by simp, fun k => by simp, ?_, (hc 1).trans (by kernel_rfl), (hc 259).trans (by kernel_rfl), .inl ⟨(hc 0).trans (by kernel_rfl), ⟨fun j hj => by omega, fun j hj => ?_⟩⟩⟩
  · intro k y hy
    rw [hc] at hy
    have hm := Array.all_eq_true_iff_forall_mem.1 zero_kind y (Array.mem_of_getElem? hy)
    split at hm
    · cases hm
    · next kk x hne => exact ⟨_, _, rfl, fun he => by subst he; exact hne rfl⟩
    · cases hm
  · have hj' := List.all_eq_true.1 zero_tab j (List.mem_range.2 hj)
    rw [hc]
    split at hj'
    · next x he => exact ⟨_, he⟩
    · cases hj'

set_option maxRecDepth 100000 in
theorem count_nil (w : World) : Calls Tryz.prog 98 #[.pointer none] w fun e w' => e = .returned (.tuple #[]) ∧ w = w' := by
  go_enter Tryz.func98, Tryz.ntmps98
  go_wp2
  go_end0
  exact ⟨rfl, rfl⟩

theorem Mk.counted {w : World} {p n : Nat} (h : Mk w p n) : Mk (w.setCell ⟨p, 259, none⟩ (.int .i64 ((n + 1 : Nat) : Int))) p (n + 1) := by
  have ho : ∀ k, k ≠ 259 → (w.setCell ⟨p, 259, none⟩ (.int .i64 ((n + 1 : Nat) : Int))).cell? ⟨p, k, none⟩ = w.cell? ⟨p, k, none⟩ := fun k hk => World.cell?_setCell_other _ _ _ _ (by simp <;> omega)
  have hs : (w.setCell ⟨p, 259, none⟩ (.int .i64 ((n + 1 : Nat) : Int))).cell? ⟨p, 259, none⟩ = some (.int .i64 ((n + 1 : Nat) : Int)) := World.cell?_setCell_same _ _ _ h.asked
  have ht : ∀ i, i ≤ 256 → Tab w p i → Tab (w.setCell ⟨p, 259, none⟩ (.int .i64 ((n + 1 : Nat) : Int))) p i := fun i hi t => ⟨fun j hj => (ho _ (by omega)).trans (t.made j hj), fun j hj => (t.more j hj).imp fun x hx => (ho _ (by omega)).trans hx⟩
  refine ⟨by simpa using h.lt, fun k => by rw [World.frozen?_setCell]; exact h.free k, fun k y hy => ?_, (ho 1 (by omega)).trans h.lock, hs, h.tab.imp (fun t => ⟨(ho 0 (by omega)).trans t.1, ht 0 (by omega) t.2⟩) (fun t => ⟨(ho 0 (by omega)).trans t.1, ht 256 (by omega) t.2⟩)⟩
  by_cases hk : k = 259
  · subst hk
    rw [hs] at hy
    cases hy
    exact ⟨_, _, rfl, by decide⟩
  · rw [ho k hk] at hy
    exact h.kind k y hy

theorem grownC_put (w : World) (p o : Nat) (v : Value) : w.grownBy (w.setCell ⟨p, o, none⟩ v) (some p) :=
  have h := grownC_set (World.grownBy.refl w (some p)) o v
  ⟨h.os, h.tape, h.output, h.size, h.block⟩

set_option maxRecDepth 100000 in
theorem count_any (p n : Nat) (w : World) (h : Mk w p n) (hn : n < 1000000) :
    Calls Tryz.prog 98 #[.pointer (some ⟨p, 0, none⟩)] w fun e w' => e = .returned (.tuple #[]) ∧ Mk w' p (n + 1) ∧ w.grownBy w' (some p) := by
  go_enter Tryz.func98, Tryz.ntmps98
  go_wp2_with fail
  refine (add_any ⟨p, 259, none⟩ (n : Int) 1 w h.asked (h.free _) (by omega) (by decide)).mono ?_
  rintro e w' ⟨rfl, rfl⟩
  go_wp2
  go_end0
  exact ⟨rfl, h.counted, grownC_put _ _ _ _⟩

set_option maxHeartbeats 400000 in
set_option maxRecDepth 100000 in
theorem takeAll_nil (x : Nat) (v : Value) (l : List Nat) (w : World) (hx : U32 x) (hr : Reads w .u8 v l) (hl : ∀ y ∈ l, y < 256) :
    Calls Tryz.prog 111 #[.pointer none, .int .u32 (x : Int), v] w fun e w' => e = .returned (.int .u32 (crun x l : Nat)) ∧ w = w' := by
  obtain ⟨ao, cap, rfl, h1, h2, h3⟩ := hr.val
  go_enter Tryz.func111, Tryz.ntmps111
  go_wp2
  go_loopw [1, 8, 15] (fun x0 _ i wr => ∃ (k : Nat) (y : Nat), k ≤ l.length ∧ i = .int .i64 (k : Int) ∧ x0 = .int .u32 (y : Int) ∧ y = crun x (l.take k) ∧ w = wr)
    (fun _ _ i _ => l.length - (intOf i).toNat)
  case atStart => exact ⟨0, x, by omega, rfl, rfl, rfl, rfl⟩
  case round =>
    obtain ⟨k, y, hk, rfl, rfl, hy, rfl⟩ := hrel
    have hy32 : U32 y := hy ▸ crun_lt _ hx (fun z hz => hl z (List.mem_of_mem_take hz))
    by_cases hlt : k < l.length
    · obtain ⟨b, off, rfl, hblk, hc⟩ := hr.at hlt
      have hcell := hc k hlt
      have hbyte := byte_get hl k
      have hnext := crun_take x l k hlt
      generalize l.getD k 0 = c at hcell hbyte hnext
      rw [← hy] at hnext
      have HN := Lib.hid hnext; clear hnext
      have HY := Lib.hid hy; clear hy
      clear hc
      have hlti : (k : Int) < l.length := by omega
      have hkw : Hid (wrap64 ((k : Int) + 1) = (k : Int) + 1) := Lib.hid (IntWalk.wrap64_in _ (by have : maxLen = 9223372036854775807 := rfl; omega))
      go_wp2_with fail
      refine (takeIn_any y c _ hy32 hbyte).mono ?_
      rintro e w' ⟨rfl, rfl⟩
      go_wp2
      go_roundw
      case rel => exact ⟨k + 1, _, by omega, by rw [hkw.out]; rfl, rfl, by rw [HN.out], trivial⟩
      case measure => rw [hkw.out]; simp [intOf]; omega
    · obtain rfl : k = l.length := by omega
      rw [List.take_length] at hy
      have HY := Lib.hid hy; clear hy
      go_wp2
      go_ret
      exact ⟨congrArg (fun n : Nat => Ending.returned (Value.int .u32 n)) HY.out, rfl⟩

end Go.Proofs.YtjbodokligpcaaaGreat

namespace Go.Proofs.YtjbodokligpcaaaGreat
open Go.RowKit

/-- Who asks first makes the table; who asks later finds it. -/
theorem once_any (p n : Nat) (w : World) (h : Mk w p n) :
    Calls Tryz.prog 113 #[.pointer (some ⟨p, 0, none⟩), .func (.func 114) #[.pointer (some ⟨p, 0, none⟩)] #[]] w fun e w' => e = .returned (.tuple #[]) ∧ Mk w' p n ∧ Tab w' p 256 ∧ w.grownBy w' (some p) := by
  rcases h.tab with ⟨h0, ht⟩ | ⟨h0, ht⟩
  · have hl1 : ∀ k, k ≠ 1 → (w.setCell ⟨p, 1, none⟩ (.int .i32 1)).cell? ⟨p, k, none⟩ = w.cell? ⟨p, k, none⟩ := fun k hk => World.cell?_setCell_other _ _ _ _ (by simp <;> omega)
    have hl2 : (w.setCell ⟨p, 1, none⟩ (.int .i32 1)).cell? ⟨p, 1, none⟩ = some (.int .i32 1) := World.cell?_setCell_same _ _ _ h.lock
    have hT : Tab (w.setCell ⟨p, 1, none⟩ (.int .i32 1)) p 0 := ⟨fun j hj => by omega, fun j hj => (ht.more j hj).imp fun x hx => (hl1 _ (by omega)).trans hx⟩
    refine (do_first p 0 114 #[.pointer (some ⟨p, 0, none⟩)] (fun args w => by kernel_rfl)
      (fun w' => Tab w' p 256 ∧ (w.setCell ⟨p, 1, none⟩ (.int .i32 1)).grownBy w' (some p) ∧ (∀ k, w'.frozen? ⟨p, k, none⟩ = false) ∧ (∀ k, k < 3 ∨ 259 ≤ k → w'.cell? ⟨p, k, none⟩ = (w.setCell ⟨p, 1, none⟩ (.int .i32 1)).cell? ⟨p, k, none⟩))
      w ⟨h0, h.lock, h.free _, h.free _⟩ ((makeTable_any p _ hT (fun k => by rw [World.frozen?_setCell]; exact h.free k)).mono ?_)).mono ?_
    · rintro e w1 ⟨rfl, t1, g1, f1, s1⟩
      exact ⟨rfl, ⟨(s1 0 (by omega)).trans ((hl1 0 (by omega)).trans h0), (s1 1 (by omega)).trans hl2, f1 _, f1 _⟩, t1, g1, f1, s1⟩
    · rintro e w3 ⟨rfl, w2, ⟨t2, g2, f2, s2⟩, u2, rfl⟩
      have c0 : ∀ k, k ≠ 0 → k ≠ 1 → ((w2.drew.setCell ⟨p, 0, none⟩ (.int .u32 1)).setCell ⟨p, 0 + 1, none⟩ (.int .i32 0)).cell? ⟨p, k, none⟩ = w2.cell? ⟨p, k, none⟩ := fun k hk hk1 => by
        rw [World.cell?_setCell_other _ _ _ _ (by simp <;> omega), World.cell?_setCell_other _ _ _ _ (by simp <;> omega), World.cell?_drew]
      have z0 : ((w2.drew.setCell ⟨p, 0, none⟩ (.int .u32 1)).setCell ⟨p, 0 + 1, none⟩ (.int .i32 0)).cell? ⟨p, 0, none⟩ = some (.int .u32 1) := by
        rw [World.cell?_setCell_other _ _ _ _ (by simp)]
        exact World.cell?_setCell_same _ _ _ ((World.cell?_drew _ _).trans u2.done)
      have z1 : ((w2.drew.setCell ⟨p, 0, none⟩ (.int .u32 1)).setCell ⟨p, 0 + 1, none⟩ (.int .i32 0)).cell? ⟨p, 1, none⟩ = some (.int .i32 0) :=
        World.cell?_setCell_same _ ⟨p, 0 + 1, none⟩ _ ((World.cell?_setCell_other _ _ _ _ (by simp)).trans ((World.cell?_drew _ _).trans u2.lock))
      have T : Tab ((w2.drew.setCell ⟨p, 0, none⟩ (.int .u32 1)).setCell ⟨p, 0 + 1, none⟩ (.int .i32 0)) p 256 :=
        ⟨fun j hj => (c0 _ (by omega) (by omega)).trans (t2.made j hj), fun j hj => (t2.more j hj).imp fun x hx => (c0 _ (by omega) (by omega)).trans hx⟩
      have G : w.grownBy ((w2.drew.setCell ⟨p, 0, none⟩ (.int .u32 1)).setCell ⟨p, 0 + 1, none⟩ (.int .i32 0)) (some p) :=
        (grownC_put w p 1 _).trans (g2.trans ((⟨rfl, rfl, rfl, Nat.le_refl _, fun _ _ _ => rfl⟩ : w2.grownBy w2.drew (some p)).trans ((grownC_put _ _ _ _).trans (grownC_put _ _ _ _))))
      refine ⟨rfl, ⟨Nat.lt_of_lt_of_le h.lt G.size, fun k => ?_, fun k y hy => ?_, z1, (c0 259 (by omega) (by omega)).trans ((s2 259 (by omega)).trans ((hl1 259 (by omega)).trans h.asked)), .inr ⟨z0, T⟩⟩, T, G⟩
      · rw [World.frozen?_setCell, World.frozen?_setCell]
        exact f2 k
      · by_cases k0 : k = 0
        · subst k0; rw [z0] at hy; cases hy; exact ⟨_, _, rfl, by decide⟩
        by_cases k1 : k = 1
        · subst k1; rw [z1] at hy; cases hy; exact ⟨_, _, rfl, by decide⟩
        rw [c0 k k0 k1] at hy
        by_cases k3 : k < 3 ∨ 259 ≤ k
        · rw [s2 k k3, hl1 k k1] at hy
          exact h.kind k y hy
        · obtain ⟨x, hx⟩ := t2.more (k - 3) (by omega)
          rw [show 3 + (k - 3) = k from by omega, hy] at hx
          cases hx
          exact ⟨_, _, rfl, by decide⟩
  · refine (do_done ⟨p, 0, none⟩ 1 (by decide) _ w h0).mono ?_
    rintro e w' ⟨rfl, rfl⟩
    exact ⟨rfl, h, ht, World.grownBy.refl _ _⟩

/-- What reads as bytes stays where the maker alone changes. -/
theorem reads_kept {w w' : World} {p n : Nat} {v : Value} {l : List Nat} (h : Mk w p n) (hr : Reads w .u8 v l) (hg : w.grownBy w' (some p)) : Reads w' .u8 v l := by
  obtain ⟨ao, cap, hv, h1, h2, h3, h4⟩ := hr
  refine ⟨ao, cap, hv, h1, h2, h3, ?_⟩
  rcases h4 with h4 | ⟨b, off, ha, hlt, hc⟩
  · exact .inl h4
  · exact .inr ⟨b, off, ha, Nat.lt_of_lt_of_le hlt hg.size, fun i hi => hg.cell (hc i hi) (by have := u8_of_kind h (hc i hi); simpa using this)⟩

theorem idx_table {y c : Nat} (hc : c < 256) : ctake y c = ctake 0 (y % 256 ^^^ c) ^^^ y / 256 := by
  rw [ctake_table hc]
  congr 1
  show _ = csteps 8 (0 ^^^ _)
  rw [Nat.zero_xor]
  congr 1
  have := Nat.xor_mod_two_pow (a := y) (b := c) (n := 8)
  rw [show (2 : Nat) ^ 8 = 256 from rfl] at this
  rw [this, Nat.mod_eq_of_lt hc]

set_option maxHeartbeats 400000 in
set_option maxRecDepth 100000 in
theorem takeAll_any (p n x : Nat) (v : Value) (l : List Nat) (w : World) (hm : Mk w p n) (hx : U32 x) (hr : Reads w .u8 v l) (hl : ∀ y ∈ l, y < 256) :
    Calls Tryz.prog 111 #[.pointer (some ⟨p, 0, none⟩), .int .u32 (x : Int), v] w fun e w' => e = .returned (.int .u32 (crun x l : Nat)) ∧ Mk w' p n ∧ w.grownBy w' (some p) := by
  obtain ⟨ao, cap, rfl, h1, h2, h3⟩ := hr.val
  have HR := Lib.hid hr; clear hr
  have HM := Lib.hid hm; clear hm
  go_enter Tryz.func111, Tryz.ntmps111
  go_wp2_with fail
  refine (once_any p n w HM.out).mono ?_
  rintro e w1 ⟨rfl, hm1, ht1, hg1⟩
  have HM1 := Lib.hid hm1
  have HT1 := Lib.hid ht1
  have HG1 := Lib.hid hg1
  clear hm1 ht1 hg1
  go_wp2
  go_loopw [1, 10, 32] (fun x0 _ i wr => ∃ (k : Nat) (y : Nat), k ≤ l.length ∧ i = .int .i64 (k : Int) ∧ x0 = .int .u32 (y : Int) ∧ y = crun x (l.take k) ∧ ∃ d, wr = w1.drewN d)
    (fun _ _ i _ => l.length - (intOf i).toNat)
  case atStart => exact ⟨0, x, by omega, rfl, rfl, rfl, 0, rfl⟩
  case round =>
    obtain ⟨k, y, hk, rfl, rfl, hy, d, rfl⟩ := hrel
    have hy32 : U32 y := hy ▸ crun_lt _ hx (fun z hz => hl z (List.mem_of_mem_take hz))
    by_cases hlt : k < l.length
    · obtain ⟨b, off, rfl, hblk, hc⟩ := HR.out.at hlt
      have hne : b ≠ p := u8_of_kind HM.out (hc k hlt)
      have hcell : (w1.drewN d).cell? ⟨b, off + k, none⟩ = _ := HG1.out.cell (hc k hlt) (by simpa using hne)
      have hbyte := byte_get hl k
      have hnext := crun_take x l k hlt
      clear hc
      generalize l.getD k 0 = c at hcell hbyte hnext
      rw [← hy, idx_table hbyte] at hnext
      have hidx : y % 256 ^^^ c < 256 := Nat.xor_lt_two_pow (n := 8) (Nat.mod_lt _ (by decide)) hbyte
      have hxor : bits .xor .u8 ((y : Int) % 256) (c : Int) = ((y % 256 ^^^ c : Nat) : Int) := u8_xor_nat (y % 256) c (Nat.mod_lt _ (by decide)) hbyte
      have htab : (w1.drewN d).cell? ⟨p, 3 + (y % 256 ^^^ c), none⟩ = _ := HT1.out.made _ hidx
      have ht32 : ctake 0 (y % 256 ^^^ c) < 4294967296 := ctake_lt (by decide) hidx
      generalize y % 256 ^^^ c = j at hidx hxor htab ht32 hnext
      generalize ctake 0 j = t at htab ht32 hnext
      have hq : y / 256 < 4294967296 := by unfold U32 at hy32; omega
      have hx2 := u32_xor_nat t (y / 256) ht32 hq
      have HN := Lib.hid hnext; clear hnext
      have HY := Lib.hid hy; clear hy
      have hji : (j : Int) < 256 := by omega
      have hlti : (k : Int) < l.length := by omega
      have hkw : Hid (wrap64 ((k : Int) + 1) = (k : Int) + 1) := Lib.hid (IntWalk.wrap64_in _ (by have : maxLen = 9223372036854775807 := rfl; omega))
      go_wp2
      go_roundw
      case rel => exact ⟨k + 1, _, by omega, by rw [hkw.out]; rfl, by rw [show (y : Int) / 256 = ((y / 256 : Nat) : Int) from by omega, hx2], by rw [HN.out], _, rfl⟩
      case measure => rw [hkw.out]; simp [intOf]; omega
    · obtain rfl : k = l.length := by omega
      rw [List.take_length] at hy
      have HY := Lib.hid hy; clear hy
      go_wp2
      go_ret
      exact ⟨congrArg (fun n : Nat => Ending.returned (Value.int .u32 n)) HY.out, HM1.out.keep rfl (Nat.le_refl _), HG1.out.os, HG1.out.tape, HG1.out.output, HG1.out.size, HG1.out.block⟩

theorem u32_not_nat (s : Nat) (hs : U32 s) : bits .xor .u32 IntKind.u32.max (s : Int) = ((s ^^^ 4294967295 : Nat) : Int) := by
  rw [Nat.xor_comm]
  exact u32_xor_nat 4294967295 s (by decide) hs

set_option maxHeartbeats 400000 in
set_option maxRecDepth 100000 in
theorem ext_nil (s : Nat) (v : Value) (l : List Nat) (w : World) (hs : U32 s) (hr : Reads w .u8 v l) (hl : ∀ y ∈ l, y < 256) :
    Calls Tryz.prog 108 #[.pointer none, .int .u32 (s : Int), v] w fun e w' => e = .returned (.int .u32 (crcx s l : Nat)) ∧ w = w' := by
  have hx : U32 (s ^^^ 4294967295) := Nat.xor_lt_two_pow (n := 32) hs (by decide)
  have hy : U32 (crun (s ^^^ 4294967295) l) := crun_lt _ hx hl
  have hn1 := u32_not_nat s hs
  have hn2 := u32_not_nat _ hy
  go_enter Tryz.func108, Tryz.ntmps108
  go_wp2_with fail
  refine (takeAll_nil (s ^^^ 4294967295) v l w hx hr hl).mono ?_
  rintro e w' ⟨rfl, rfl⟩
  go_wp2
  go_ret
  exact ⟨rfl, rfl⟩

set_option maxHeartbeats 400000 in
set_option maxRecDepth 100000 in
theorem ext_any (p n s : Nat) (v : Value) (l : List Nat) (w : World) (hm : Mk w p n) (hs : U32 s) (hr : Reads w .u8 v l) (hl : ∀ y ∈ l, y < 256) :
    Calls Tryz.prog 108 #[(.pointer (some ⟨p, 0, none⟩)), .int .u32 (s : Int), v] w fun e w' => e = .returned (.int .u32 (crcx s l : Nat)) ∧ Mk w' p n ∧ w.grownBy w' (some p) := by
  have hx : U32 (s ^^^ 4294967295) := Nat.xor_lt_two_pow (n := 32) hs (by decide)
  have hy : U32 (crun (s ^^^ 4294967295) l) := crun_lt _ hx hl
  have hn1 := u32_not_nat s hs
  have hn2 := u32_not_nat _ hy
  go_enter Tryz.func108, Tryz.ntmps108
  go_wp2_with fail
  refine (takeAll_any p n (s ^^^ 4294967295) v l w hm hx hr hl).mono ?_
  rintro e w' ⟨rfl, hm', hg⟩
  go_wp2
  go_ret
  exact ⟨rfl, hm', hg⟩

/-- Parts: a slice of slices that each read as bytes; its own block is not the maker's. -/
def Parts (w : World) (v : Value) (ls : List (List Nat)) : Prop :=
  ∃ ao cap, v = .slice ao ls.length cap ∧ ls.length ≤ cap ∧ cap ≤ maxLen ∧ (ls = [] ∨ ∃ b off, ao = some ⟨b, off, none⟩ ∧ b < w.heap.size ∧
    ∀ i, i < ls.length → ∃ u, w.cell? ⟨b, off + i, none⟩ = some u ∧ (∀ kk x, u ≠ .int kk x) ∧ Reads w .u8 u (ls.getD i []))

theorem Parts.at {w : World} {ao : Option Addr} {m cap : Nat} {ls : List (List Nat)} (h : Parts w (.slice ao m cap) ls) {i : Nat} (hi : i < ls.length) :
    ∃ b off u, ao = some ⟨b, off, none⟩ ∧ b < w.heap.size ∧ w.cell? ⟨b, off + i, none⟩ = some u ∧ (∀ kk x, u ≠ .int kk x) ∧ Reads w .u8 u (ls.getD i []) := by
  obtain ⟨ao', cap', hv, _, _, h4⟩ := h
  simp only [Value.slice.injEq] at hv
  obtain ⟨rfl, _, _⟩ := hv
  rcases h4 with rfl | ⟨b, off, ha, hb, h⟩
  · simp at hi
  · obtain ⟨u, h1, h2, h3⟩ := h i hi
    exact ⟨b, off, u, ha, hb, h1, h2, h3⟩

theorem flat_take {ls : List (List Nat)} {k : Nat} (h : k < ls.length) : (ls.take (k + 1)).flatten = (ls.take k).flatten ++ ls.getD k [] := by
  rw [List.take_succ_eq_append_getElem h, List.flatten_append, List.getD_eq_getElem?_getD, List.getElem?_eq_getElem h]
  simp

/-- Parts that are written out. -/
theorem parts_mark (w : World) (e : TypeId) (us : List Value) (ls : List (List Nat)) (cs : Array Value) (hc : cs.toList = us) (hl : us.length = ls.length) (hm : ls.length ≤ maxLen)
    (hr : ∀ i, i < ls.length → (∀ kk x, us.getD i .nilIface ≠ .int kk x) ∧ Reads (w.alloc (.cells cs e)) .u8 (us.getD i .nilIface) (ls.getD i [])) :
    Parts (w.alloc (.cells cs e)) (.slice (some ⟨w.heap.size, 0, none⟩) ls.length ls.length) ls :=
  ⟨_, _, rfl, Nat.le_refl _, hm, .inr ⟨w.heap.size, 0, rfl, by simp, fun i hi => by
    refine ⟨us.getD i .nilIface, ?_, (hr i hi).1, (hr i hi).2⟩
    rw [Nat.zero_add, World.cell?_alloc_mark, ← Array.getElem?_toList, hc, List.getD_eq_getElem?_getD, List.getElem?_eq_getElem (by omega)]
    rfl⟩⟩

end Go.Proofs.YtjbodokligpcaaaGreat

namespace Go.Proofs.YtjbodokligpcaaaGreat
open Go.RowKit

def nine : List Nat := [49, 50, 51, 52, 53, 54, 55, 56, 57]
/-- A row of a text that is written out. -/
theorem reads_mark (w : World) (e : TypeId) (k : IntKind) (l : List Nat) (cs : Array Value) (fr : Nat × Nat) (hc : cs.toList = vals k l) (hm : l.length ≤ maxLen) :
    Reads (w.alloc (.cells cs e fr)) k (.slice (some ⟨w.heap.size, 0, none⟩) l.length l.length) l :=
  ⟨_, _, rfl, Nat.le_refl _, hm, by simp, .inr ⟨w.heap.size, 0, rfl, by simp, fun i hi => by
    rw [Nat.zero_add, World.cell?_alloc_mark, ← Array.getElem?_toList, hc, vals_get k l i hi]⟩⟩

theorem nine_sum : crcx 0 nine = 3808858755 := by decide +kernel

end Go.Proofs.YtjbodokligpcaaaGreat

namespace Go.Proofs.YtjbodokligpcaaaGreat
open Go.RowKit

theorem below_all {w w' : World} (h : Below w.heap.size w w') (row : Option Nat) : w.grownBy w' row := ⟨h.os, h.tape, h.output, h.size, fun k hk _ => h.block k hk⟩

theorem Mk.new {w w' : World} {p n : Nat} (h : Mk w p n) (hb : Below w.heap.size w w') : Mk w' p n := h.below hb h.lt

set_option maxHeartbeats 400000 in
set_option maxRecDepth 100000 in
theorem equalC_any (v1 v2 : Value) (a b : List Nat) (w : World) (h1 : Reads w .u8 v1 a) (h2 : Reads w .u8 v2 b) (ha : ∀ x ∈ a, x < 256) (hb : ∀ x ∈ b, x < 256) :
    Calls Tryz.prog 100 #[v1, v2] w fun e w' => e = .returned (.bool (decide (a = b))) ∧ w = w' := by
  have c1 := conv_reads v1 a w h1
  have c2 := conv_reads v2 b w h2
  have hs := str_beq ha hb
  generalize strOfNums (a.map (fun n : Nat => (n : Int))) = sa at c1 hs
  generalize strOfNums (b.map (fun n : Nat => (n : Int))) = sb at c2 hs
  have HS := Lib.hid hs; clear hs
  go_enter Tryz.func100, Tryz.ntmps100
  go_wp2
  go_ret
  exact ⟨congrArg (fun b => Ending.returned (Value.bool b)) HS.out, rfl⟩

set_option maxHeartbeats 400000 in
set_option maxRecDepth 100000 in
theorem seal_any (p n : Nat) (v : Value) (l : List Nat) (w : World) (hm : Mk w p n) (hr : Reads w .u8 v l) (hl : ∀ y ∈ l, y < 256) (hx : l.length ≤ 90000000000000) :
    Calls Tryz.prog 99 #[.pointer (some ⟨p, 0, none⟩), v] w fun e w' => ∃ v', e = .returned v' ∧ Owns w' w.heap.size 5 .u8 v' (l ++ four (crcx 0 l)) ∧ Mk w' p n ∧ w.grownBy w' (some p) := by
  have hs32 : U32 (crcx 0 l) := crcx_lt (by decide) hl
  have HF : ∀ (W : World), Reads (W.alloc (.cells #[.int .u8 ((crcx 0 l : Nat) / 16777216 % 256 : Int), .int .u8 ((crcx 0 l : Nat) / 65536 % 256 : Int), .int .u8 ((crcx 0 l : Nat) / 256 % 256 : Int), .int .u8 ((crcx 0 l : Nat) % 256 : Int)] 5)) .u8 (.slice (some ⟨W.heap.size, 0, none⟩) 4 4) (four (crcx 0 l)) :=
    fun W => (owns_lit W 0 5 .u8 (four (crcx 0 l)) _ (four_vals (crcx 0 l)) (Nat.zero_le _) (by simp [four, maxLen])).reads
  go_enter Tryz.func99, Tryz.ntmps99
  go_wp2_with fail
  refine (ext_any p n 0 v l w hm (by unfold U32; decide) hr hl).mono ?_
  rintro e w1 ⟨rfl, hm1, hg1⟩
  have hr1 := reads_kept hm hr hg1
  generalize hsg : crcx 0 l = s at hs32 HF
  have HSG := Lib.hid hsg; clear hsg
  have HFF := Lib.hid HF; clear HF
  go_wp2_with fail
  refine (clone_any v l w1 hr1 (by omega)).mono ?_
  rintro e w2 ⟨v2, rfl, ho2, hb2⟩
  have HO := Lib.hid ho2
  have HB := Lib.hid hb2
  have HM1 := Lib.hid hm1
  have HG1 := Lib.hid hg1
  clear ho2 hb2 hm1 hg1 hr1
  have hcap : (l.length + (four s).length) * 1 ≤ 140737488355328 := by simp [four]; omega
  go_wp2_with (at_builtin; go_must (refine wpList_app _ rfl _ _ 22 rfl w1.heap.size 5 (.int .u8 0) 1 Tryz.underlying22 Tryz.info5 rfl .u8 _ l rfl (HO.out.alloc _) _ (four s) rfl (HFF.out w2) (by decide) hcap ?c3 ?_))
  case c3 => have := HB.out.size; simp; omega
  intro v3 w3 ho3 hg3
  have hb3 : Below w1.heap.size w1 w3 := (HB.out.alloc HB.out.size _).grown hg3 (by have := HB.out.size; simp; omega) (fun j hj => (HO.out.lt j hj).1)
  go_wp2
  go_ret
  exact ⟨_, rfl, by rw [HSG.out]; exact ho3.mono HG1.out.size, HM1.out.new hb3, HG1.out.trans (below_all hb3 _)⟩

set_option maxHeartbeats 400000 in
set_option maxRecDepth 100000 in
theorem sealed_any (p n : Nat) (v : Value) (l : List Nat) (w : World) (hm : Mk w p n) (hn : n < 1000000) (hr : Reads w .u8 v l) (hl : ∀ y ∈ l, y < 256) (hx : l.length ≤ 90000000000000) :
    Calls Tryz.prog 82 #[.pointer (some ⟨p, 0, none⟩), v] w fun e w' => ∃ v', e = .returned v' ∧ Owns w' w.heap.size 5 .u8 v' (l ++ four (crcx 0 l)) ∧ Mk w' p (n + 1) ∧ w.grownBy w' (some p) := by
  go_enter Tryz.func82, Tryz.ntmps82
  go_wp2_with fail
  refine (count_any p n w hm hn).mono ?_
  rintro e w1 ⟨rfl, hm1, hg1⟩
  have hr1 := reads_kept hm hr hg1
  go_wp2_with fail
  refine (seal_any p (n + 1) v l w1 hm1 hr1 hl hx).mono ?_
  rintro e w2 ⟨v2, rfl, ho2, hm2, hg2⟩
  go_wp2
  go_ret
  exact ⟨_, rfl, ho2.mono hg1.size, hm2, hg1.trans hg2⟩

/-- What 'opened' answers: the bytes ahead of the sum, and the error's number. -/
def openC (l : List Nat) : Nat := if l.length < 4 then 2 else if l.take (l.length - 4) ++ four (crcx 0 (l.take (l.length - 4))) = l then 0 else 11
def openL (l : List Nat) : List Nat := if openC l = 0 then l.take (l.length - 4) else []

theorem four_length (x : Nat) : (four x).length = 4 := rfl

set_option maxHeartbeats 400000 in
set_option maxRecDepth 100000 in
theorem opened_any (p n : Nat) (v : Value) (l : List Nat) (w : World) (hm : Mk w p n) (hn : n < 1000000) (hr : Reads w .u8 v l) (hl : ∀ y ∈ l, y < 256) (hx : l.length ≤ 90000000000000) :
    Calls Tryz.prog 85 #[.pointer (some ⟨p, 0, none⟩), v] w fun e w' => ∃ v', e = .returned (.tuple #[v', errV (openC l)]) ∧ Owns w' w.heap.size 5 .u8 v' (openL l) ∧ Mk w' p (n + 1) ∧ w.grownBy w' (some p) := by
  obtain ⟨ao, cap, rfl, h1, h2, h3⟩ := hr.val
  have HR := Lib.hid hr; clear hr h3
  go_enter Tryz.func85, Tryz.ntmps85
  go_wp2_with fail
  refine (count_any p n w hm hn).mono ?_
  rintro e w1 ⟨rfl, hm1, hg1⟩
  have HR1 := Lib.hid (reads_kept hm HR.out hg1)
  have HG1 := Lib.hid hg1
  by_cases h4 : (l.length : Int) < 4
  · have hC : openC l = 2 := by unfold openC; rw [if_pos (by omega)]
    have hL : openL l = [] := by unfold openL; rw [hC]; rfl
    clear hg1
    have HM1 := Lib.hid hm1; clear hm1
    have HC := Lib.hid hC
    have HL := Lib.hid hL
    clear hC hL
    go_wp2
    go_ret2
    exact ⟨_, by rw [HC.out]; rfl, by rw [HL.out]; exact owns_nil _ _ _ _, HM1.out, HG1.out⟩
  · obtain ⟨m, hm4⟩ : ∃ m, l.length = m + 4 := ⟨l.length - 4, by omega⟩
    have hsl := fun w => slice_head w ao l.length cap m (by omega)
    have hsub : (l.length : Int) - 4 = (m : Int) := by omega
    have HB : Hid (Reads w1 .u8 (.slice ao m cap) (l.take m)) := Lib.hid (HR1.out.head (by omega))
    have hbl : ∀ y ∈ l.take m, y < 256 := fun y hy => hl y (List.mem_of_mem_take hy)
    have HM1 := Lib.hid hm1
    clear hg1 hm1
    go_wp2_with fail
    have hm4' := Lib.hid hm4
    refine (seal_any p (n + 1) _ (l.take m) w1 HM1.out HB.out hbl (by simp; omega)).mono ?_
    rintro e w2 ⟨v2, rfl, ho2, hm2, hg2⟩
    have HM2 := Lib.hid hm2
    have HG2 := Lib.hid hg2
    have HO2 := Lib.hid ho2.reads
    have hr2 := reads_kept HM1.out HR1.out hg2
    rw [hm4] at hr2
    have HR2 := Lib.hid hr2
    have hb4 : ∀ y ∈ l.take m ++ four (crcx 0 (l.take m)), y < 256 := fun y hy => (List.mem_append.1 hy).elim (hbl y) (four_byte _ y)
    have HBT := Lib.hid (reads_kept HM1.out HB.out hg2)
    clear hm2 hg2 ho2 hr2
    have hOC : openC l = if l.take m ++ four (crcx 0 (l.take m)) = l then 0 else 11 := by unfold openC; rw [if_neg (by omega), show l.length - 4 = m from by omega]
    have hOL : openL l = if openC l = 0 then l.take m else [] := by unfold openL; rw [show l.length - 4 = m from by omega]
    go_wp2_with fail
    refine (equalC_any _ _ (l.take m ++ four (crcx 0 (l.take m))) l w2 HO2.out HR2.out hb4 hl).mono ?_
    rintro e w3 ⟨rfl, rfl⟩
    by_cases heq : l.take m ++ four (crcx 0 (l.take m)) = l
    · rw [if_pos heq] at hOC
      rw [hOC] at hOL
      have HOC := Lib.hid hOC
      have HOL := Lib.hid hOL
      have hd : decide (l.take m ++ four (crcx 0 (l.take m)) = l) = true := decide_eq_true heq
      clear hOC hOL heq
      go_wp2_with fail
      refine (clone_any _ (l.take m) w2 HBT.out (by simp; omega)).mono ?_
      rintro e w4 ⟨v4, rfl, ho4, hb4⟩
      have HO4 := Lib.hid ho4
      have HB4 := Lib.hid hb4
      clear ho4 hb4
      go_wp2
      go_ret2
      exact ⟨_, by rw [HOC.out]; rfl, by rw [HOL.out]; exact HO4.out.mono (Nat.le_trans HG1.out.size HG2.out.size), HM2.out.new HB4.out, HG1.out.trans (HG2.out.trans (below_all HB4.out _))⟩
    · rw [if_neg heq] at hOC
      rw [hOC] at hOL
      have HOC := Lib.hid hOC
      have HOL := Lib.hid hOL
      have hd : decide (l.take m ++ four (crcx 0 (l.take m)) = l) = false := decide_eq_false heq
      clear hOC hOL heq
      go_wp2
      go_ret2
      exact ⟨_, by rw [HOC.out]; rfl, by rw [HOL.out]; exact owns_nil _ _ _ _, HM2.out, HG1.out.trans HG2.out⟩

theorem open_sealed (l : List Nat) : openC (l ++ four (crcx 0 l)) = 0 ∧ openL (l ++ four (crcx 0 l)) = l := by
  have hl : (l ++ four (crcx 0 l)).length - 4 = l.length := by rw [List.length_append, four_length]; omega
  have hC : openC (l ++ four (crcx 0 l)) = 0 := by
    unfold openC
    rw [if_neg (by rw [List.length_append, four_length]; omega), hl, List.take_left, if_pos rfl]
  refine ⟨hC, ?_⟩
  unfold openL
  rw [hC, if_pos rfl, hl, List.take_left]

theorem Parts.drew {w : World} {v : Value} {ls : List (List Nat)} (h : Parts w v ls) : Parts w.drew v ls := h

end Go.Proofs.YtjbodokligpcaaaGreat
