/- A maker at a block, and what its parts do: count, takeAll, extend. -/
import Derived.Test.YtnhffeppbliabaaCrcN
namespace Go.Proofs.Ytnhffeppbliabaa
open Go.RowKit

/-- A maker at block p that made n sums: its table is not made yet, or made. -/
structure Mk (w : World) (p n : Nat) : Prop where
  lt : p < w.heap.size
  free : ∀ k, w.frozen? ⟨p, k, none⟩ = false
  kind : ∀ k y, w.cell? ⟨p, k, none⟩ = some y → ∃ kk x, y = .int kk x ∧ kk ≠ .u8
  lock : w.cell? ⟨p, 1, none⟩ = some (.int .i32 0)
  asked : w.cell? ⟨p, 259, none⟩ = some (.int .i64 (n : Int))
  tab : (w.cell? ⟨p, 0, none⟩ = some (.int .u32 0) ∧ Tab w p 0) ∨ (w.cell? ⟨p, 0, none⟩ = some (.int .u32 1) ∧ Tab w p 256)

theorem Mk.drew {w : World} {p n : Nat} (h : Mk w p n) : Mk w.drew p n := ⟨h.lt, h.free, h.kind, h.lock, h.asked, h.tab.imp (fun t => ⟨t.1, ⟨t.2.made, t.2.more⟩⟩) (fun t => ⟨t.1, ⟨t.2.made, t.2.more⟩⟩)⟩

theorem frozen_of {w w' : World} {p k : Nat} (h : w'.heap[p]? = w.heap[p]?) : w'.frozen? ⟨p, k, none⟩ = w.frozen? ⟨p, k, none⟩ := by
  unfold World.frozen?; rw [h]

/-- A maker stays where its block stays. -/
theorem Mk.keep {w w' : World} {p n : Nat} (h : Mk w p n) (hb : w'.heap[p]? = w.heap[p]?) (hs : w.heap.size ≤ w'.heap.size) : Mk w' p n := by
  have hc : ∀ k, w'.cell? ⟨p, k, none⟩ = w.cell? ⟨p, k, none⟩ := fun k => by unfold World.cell?; rw [hb]
  have ht : ∀ i, Tab w p i → Tab w' p i := fun i t => ⟨fun j hj => (hc _).trans (t.made j hj), fun j hj => (t.more j hj).imp fun x hx => (hc _).trans hx⟩
  exact ⟨Nat.lt_of_lt_of_le h.lt hs, fun k => (frozen_of hb).trans (h.free k), fun k y hy => h.kind k y ((hc k).symm.trans hy), (hc 1).trans h.lock, (hc 259).trans h.asked,
    h.tab.imp (fun t => ⟨(hc 0).trans t.1, ht 0 t.2⟩) (fun t => ⟨(hc 0).trans t.1, ht 256 t.2⟩)⟩

theorem Mk.alloc {w : World} {p n : Nat} (h : Mk w p n) (o : Obj) : Mk (w.alloc o) p n :=
  h.keep (Below.heap_alloc _ _ _ h.lt) (by simp)

theorem Mk.below {B : Nat} {w w' : World} {p n : Nat} (h : Mk w p n) (hb : Below B w w') (hB : p < B) : Mk w' p n := h.keep (hb.block p hB) hb.size

theorem u8_of_kind {w : World} {p n b o : Nat} {x : Int} (h : Mk w p n) (hc : w.cell? ⟨b, o, none⟩ = some (.int .u8 x)) : b ≠ p := by
  rintro rfl
  obtain ⟨kk, y, he, hne⟩ := h.kind _ _ hc
  cases he
  exact hne rfl

set_option maxRecDepth 100000 in
theorem zero_tab : ((List.range 256).all fun j => match Try.zeroCells183[3 + j]? with | some (.int .u32 _) => true | _ => false) = true := by kernel_rfl
set_option maxRecDepth 100000 in
theorem zero_kind : (Try.zeroCells183.all fun v => match v with | .int .u8 _ => false | .int _ _ => true | _ => false) = true := by kernel_rfl

set_option maxRecDepth 100000 in
theorem newC_any (w : World) : Calls Try.prog 105 #[] w fun e w' => ∃ p, e = .returned (.pointer (some ⟨p, 0, none⟩)) ∧ w.heap.size ≤ p ∧ Mk w' p 0 ∧ Below w.heap.size w w' := by
  go_enter Try.func105, Try.ntmps105
  go_wp2
  go_ret
  refine ⟨w.heap.size, rfl, Nat.le_refl _, ?_, (Below.refl _ _).alloc (Nat.le_refl _) _⟩
  have hc : ∀ k, (w.alloc (.cells Try.zeroCells183 183 (0, 0))).cell? ⟨w.heap.size, k, none⟩ = Try.zeroCells183[k]? := fun k => World.cell?_alloc_mark _ _ _ _ _
  refine ⟨by simp, fun k => by simp, ?_, (hc 1).trans (by kernel_rfl), (hc 259).trans (by kernel_rfl), .inl ⟨(hc 0).trans (by kernel_rfl), ⟨fun j hj => by omega, fun j hj => ?_⟩⟩⟩
  · intro k y hy
    rw [hc] at hy
    have hm := Array.all_eq_true_iff_forall_mem.1 zero_kind y (Array.mem_of_getElem? hy)
    split at hm
    · cases hm
    · next kk x hne => exact ⟨_, _, rfl, fun he => by subst he; exact hne rfl⟩
    · cases hm
  · have hj' := List.all_eq_true.1 zero_tab j (List.mem_range.2 hj)
    rw [hc]
    split at hj'
    · next x he => exact ⟨_, he⟩
    · cases hj'

set_option maxRecDepth 100000 in
theorem count_nil (w : World) : Calls Try.prog 124 #[.pointer none] w fun e w' => e = .returned (.tuple #[]) ∧ w = w' := by
  go_enter Try.func124, Try.ntmps124
  go_wp2
  go_end0
  exact ⟨rfl, rfl⟩

theorem Mk.counted {w : World} {p n : Nat} (h : Mk w p n) : Mk (w.setCell ⟨p, 259, none⟩ (.int .i64 ((n + 1 : Nat) : Int))) p (n + 1) := by
  have ho : ∀ k, k ≠ 259 → (w.setCell ⟨p, 259, none⟩ (.int .i64 ((n + 1 : Nat) : Int))).cell? ⟨p, k, none⟩ = w.cell? ⟨p, k, none⟩ := fun k hk => World.cell?_setCell_other _ _ _ _ (by simp <;> omega)
  have hs : (w.setCell ⟨p, 259, none⟩ (.int .i64 ((n + 1 : Nat) : Int))).cell? ⟨p, 259, none⟩ = some (.int .i64 ((n + 1 : Nat) : Int)) := World.cell?_setCell_same _ _ _ h.asked
  have ht : ∀ i, i ≤ 256 → Tab w p i → Tab (w.setCell ⟨p, 259, none⟩ (.int .i64 ((n + 1 : Nat) : Int))) p i := fun i hi t => ⟨fun j hj => (ho _ (by omega)).trans (t.made j hj), fun j hj => (t.more j hj).imp fun x hx => (ho _ (by omega)).trans hx⟩
  refine ⟨by simpa using h.lt, fun k => by rw [World.frozen?_setCell]; exact h.free k, fun k y hy => ?_, (ho 1 (by omega)).trans h.lock, hs, h.tab.imp (fun t => ⟨(ho 0 (by omega)).trans t.1, ht 0 (by omega) t.2⟩) (fun t => ⟨(ho 0 (by omega)).trans t.1, ht 256 (by omega) t.2⟩)⟩
  by_cases hk : k = 259
  · subst hk
    rw [hs] at hy
    cases hy
    exact ⟨_, _, rfl, by decide⟩
  · rw [ho k hk] at hy
    exact h.kind k y hy

theorem grownC_put (w : World) (p o : Nat) (v : Value) : w.grownBy (w.setCell ⟨p, o, none⟩ v) (some p) :=
  have h := grownC_set (World.grownBy.refl w (some p)) o v
  ⟨h.os, h.tape, h.output, h.size, h.block⟩

set_option maxRecDepth 100000 in
theorem count_any (p n : Nat) (w : World) (h : Mk w p n) (hn : n < 1000000) :
    Calls Try.prog 124 #[.pointer (some ⟨p, 0, none⟩)] w fun e w' => e = .returned (.tuple #[]) ∧ Mk w' p (n + 1) ∧ w.grownBy w' (some p) := by
  go_enter Try.func124, Try.ntmps124
  go_wp2_with fail
  refine (add_any ⟨p, 259, none⟩ (n : Int) 1 w h.asked (h.free _) (by omega) (by decide)).mono ?_
  rintro e w' ⟨rfl, rfl⟩
  go_wp2
  go_end0
  exact ⟨rfl, h.counted, grownC_put _ _ _ _⟩

set_option maxHeartbeats 400000 in
set_option maxRecDepth 100000 in
theorem takeAll_nil (x : Nat) (v : Value) (l : List Nat) (w : World) (hx : U32 x) (hr : Reads w .u8 v l) (hl : ∀ y ∈ l, y < 256) :
    Calls Try.prog 139 #[.pointer none, .int .u32 (x : Int), v] w fun e w' => e = .returned (.int .u32 (crun x l : Nat)) ∧ w = w' := by
  obtain ⟨ao, cap, rfl, h1, h2, h3⟩ := hr.val
  go_enter Try.func139, Try.ntmps139
  go_wp2
  go_loopw [1, 8, 15] (fun x0 _ i wr => ∃ (k : Nat) (y : Nat), k ≤ l.length ∧ i = .int .i64 (k : Int) ∧ x0 = .int .u32 (y : Int) ∧ y = crun x (l.take k) ∧ w = wr)
    (fun _ _ i _ => l.length - (intOf i).toNat)
  case atStart => exact ⟨0, x, by omega, rfl, rfl, rfl, rfl⟩
  case round =>
    obtain ⟨k, y, hk, rfl, rfl, hy, rfl⟩ := hrel
    have hy32 : U32 y := hy ▸ crun_lt _ hx (fun z hz => hl z (List.mem_of_mem_take hz))
    by_cases hlt : k < l.length
    · obtain ⟨b, off, rfl, hblk, hc⟩ := hr.at hlt
      have hcell := hc k hlt
      have hbyte := byte_get hl k
      have hnext := crun_take x l k hlt
      generalize l.getD k 0 = c at hcell hbyte hnext
      rw [← hy] at hnext
      have HN := Lib.hid hnext; clear hnext
      have HY := Lib.hid hy; clear hy
      clear hc
      have hlti : (k : Int) < l.length := by omega
      have hkw : Hid (wrap64 ((k : Int) + 1) = (k : Int) + 1) := Lib.hid (IntWalk.wrap64_in _ (by have : maxLen = 9223372036854775807 := rfl; omega))
      go_wp2_with fail
      refine (takeIn_any y c _ hy32 hbyte).mono ?_
      rintro e w' ⟨rfl, rfl⟩
      go_wp2
      go_roundw
      case rel => exact ⟨k + 1, _, by omega, by rw [hkw.out]; rfl, rfl, by rw [HN.out], trivial⟩
      case measure => rw [hkw.out]; simp [intOf]; omega
    · obtain rfl : k = l.length := by omega
      rw [List.take_length] at hy
      have HY := Lib.hid hy; clear hy
      go_wp2
      go_ret
      exact ⟨congrArg (fun n : Nat => Ending.returned (Value.int .u32 n)) HY.out, rfl⟩

end Go.Proofs.Ytnhffeppbliabaa
