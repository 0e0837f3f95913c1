/- Package proj's Next: the region that makes what tells the dead, and the placed. -/
import Derived.Test.YtjbodokligpcaaaGreatPjI
import Derived.Test.YtjbodokligpcaaaGreatExP
import Derived.Laws.EntriesVeiled
namespace Go.Proofs.YtjbodokligpcaaaGreat
open Go.RowKit

def amgF (t : Nat) : Value := .func (.func 61) #[] #[.pointer (some ⟨t, 0, none⟩)]
/-- A new box of a function. -/
def FBox (w : World) (b : Nat) (x : Value) : Prop := w.heap[b]? = some (.cells #[x] 73 (0, 0))
theorem FBox.lt {w : World} {b : Nat} {x : Value} (h : FBox w b x) : b < w.heap.size := (Array.getElem?_eq_some_iff.1 h).1
theorem FBox.old {w w' : World} {b : Nat} {x : Value} (h : FBox w b x) (hb : Below w.heap.size w w') : FBox w' b x := (hb.block b h.lt).trans h
theorem FBox.cell {w : World} {b : Nat} {x : Value} (h : FBox w b x) : w.cell? ⟨b, 0, none⟩ = some x := by rw [cell_of_row w b 0 _ _ _ h]; rfl
theorem FBox.free {w : World} {b : Nat} {x : Value} (h : FBox w b x) : w.frozen? ⟨b, 0, none⟩ = false := frozen_of_row w b 0 _ _ h
theorem FBox.set {w : World} {b : Nat} {x : Value} (h : FBox w b x) (y : Value) : FBox (w.setCell ⟨b, 0, none⟩ y) b y := by
  unfold FBox at *
  rw [heap_setCell_same w b 0 _ _ y h]; rfl
theorem FBox.other {w : World} {b c : Nat} {x : Value} (h : FBox w b x) (hne : b ≠ c) (y : Value) : FBox (w.setCell ⟨c, 0, none⟩ y) b x := (heap_setCell_other w ⟨c, 0, none⟩ b y hne).trans h
theorem tFB_ne : (73 : TypeId) ≠ 104 := by decide
theorem Amg.other {w : World} {t b : Nat} {l : List Int} {x : Value} (h : Amg w t l) (hb : FBox w b x) (y : Value) : Amg (w.setCell ⟨b, 0, none⟩ y) t l := by
  refine h.keep (heap_setCell_other w ⟨b, 0, none⟩ t y ?_)
  rintro rfl
  unfold Amg FBox at *
  rw [h] at hb
  simp only [Option.some.injEq, Obj.cells.injEq] at hb
  exact tFB_ne hb.2.1.symm

theorem tFI_ne : (73 : TypeId) ≠ 3 := by decide
theorem IOwn.other {w : World} {base b : Nat} {v : Value} {l : List Int} {x : Value} (h : IOwn w base v l) (hb : FBox w b x) (y : Value) : IOwn (w.setCell ⟨b, 0, none⟩ y) base v l := by
  refine ⟨h.1, ?_⟩
  rcases h.2 with h2 | ⟨g, cap, cur, h1, h2, h3, r⟩
  · exact .inl h2
  · refine .inr ⟨g, cap, cur, h1, h2, ?_, r⟩
    rw [heap_setCell_other w ⟨b, 0, none⟩ g y]
    · exact h3
    · rintro rfl
      unfold FBox at hb
      rw [h3] at hb
      simp only [Option.some.injEq, Obj.cells.injEq] at hb
      exact tFI_ne hb.2.1.symm

set_option maxRecDepth 100000 in
theorem exec_storeF {ρ : Operand → Value} {o : Oper} {w : World} {x y : Operand} {b t : Nat} {c : Value} (h : o.op = .store 73 x y) (hx : ρ x = .pointer (some ⟨b, 0, none⟩)) (hy : ρ y = amgF t) (hb : FBox w b c) :
    (execOp ρ o).run Tryz.prog w = .ok .skip (w.setCell ⟨b, 0, none⟩ (amgF t)) := by
  have hc := hb.cell
  have hf := hb.free
  clear hb
  unfold amgF at *
  unfold execOp
  simp only [h, hx, hy]
  go_simp
theorem makeF {w : World} {ρ : Operand → Value} {o : Oper} (h : o.op = .alloc 73) : (execOp ρ o).run Tryz.prog w = .ok (.value (.pointer (some ⟨w.heap.size, 0, none⟩))) (w.alloc (.cells #[.nilFunc] 73)) := by
  unfold execOp
  simp only [h]
  go_simp

/-- What is true while the region goes on: d tells which of its operations have come up, f what the slots hold. -/
structure Rg8 (w0 : World) (dead ul : List Int) (dv pv : Value) (d : Nat → Bool) (f : Nat → Value) (w : World) : Prop where
  bel : Below w0.heap.size w0 w
  h0 : d 0 = true → f 37 = dv
  h1 : d 1 = true → ∃ t, f 38 = amgF t ∧ Amg w t dead
  h2 : d 2 = true → f 39 = pv
  h3 : d 3 = true → ∃ (a : Option Addr) (n c b : Nat), f 40 = .slice a n c ∧ IOwn w b (.slice a n c) ul
  h4 : d 4 = true → ∃ t, f 41 = amgF t ∧ Amg w t ul
  h5 : d 5 = true → ∃ b x, f 9 = .pointer (some ⟨b, 0, none⟩) ∧ FBox w b x ∧ w0.heap.size ≤ b ∧ (d 7 = true → x = f 38)
  h6 : d 6 = true → ∃ b x, f 10 = .pointer (some ⟨b, 0, none⟩) ∧ FBox w b x ∧ w0.heap.size ≤ b ∧ (d 8 = true → x = f 41)
  ne : d 5 = true → d 6 = true → f 9 ≠ f 10
  l7 : d 7 = true → d 1 = true ∧ d 5 = true
  l8 : d 8 = true → d 4 = true ∧ d 6 = true

section
variable {w0 w w' : World} {dead ul : List Int} {dv pv : Value} {d d' : Nat → Bool} {f : Nat → Value}
theorem Rg8.later (h : Rg8 w0 dead ul dv pv d f w) (hb : Below w.heap.size w w') : Rg8 w0 dead ul dv pv d f w' :=
  ⟨h.bel.trans (hb.mono h.bel.size), h.h0, fun e => (h.h1 e).imp fun _ k => ⟨k.1, k.2.old hb⟩, h.h2,
    fun e => (by obtain ⟨a, n, c, b, k1, k2⟩ := h.h3 e; exact ⟨a, n, c, b, k1, k2.below hb (Nat.le_refl _)⟩),
    fun e => (h.h4 e).imp fun _ k => ⟨k.1, k.2.old hb⟩,
    fun e => (by obtain ⟨b, x, k1, k2, k3⟩ := h.h5 e; exact ⟨b, x, k1, k2.old hb, k3⟩),
    fun e => (by obtain ⟨b, x, k1, k2, k3⟩ := h.h6 e; exact ⟨b, x, k1, k2.old hb, k3⟩), h.ne, h.l7, h.l8⟩
/-- One slot more is told. -/
theorem Rg8.put (h : Rg8 w0 dead ul dv pv d f w) {i s : Nat} (hd : ∀ k, k ≠ i → d' k = d k) (hi : d i = false) (his : (i = 0 ∧ s = 37) ∨ (i = 1 ∧ s = 38) ∨ (i = 2 ∧ s = 39) ∨ (i = 3 ∧ s = 40) ∨ (i = 4 ∧ s = 41)) (v : Value)
    (h0 : i = 0 → v = dv) (h1 : i = 1 → ∃ t, v = amgF t ∧ Amg w t dead) (h2 : i = 2 → v = pv) (h3 : i = 3 → ∃ (a : Option Addr) (n c b : Nat), v = .slice a n c ∧ IOwn w b (.slice a n c) ul) (h4 : i = 4 → ∃ t, v = amgF t ∧ Amg w t ul) :
    Rg8 w0 dead ul dv pv d' (fun j => if j = s then v else f j) w := by
  have n7 : i = 1 → d 7 = false := fun e => Bool.eq_false_iff.2 fun h7 => by have := (h.l7 h7).1; rw [← e, hi] at this; cases this
  have n8 : i = 4 → d 8 = false := fun e => Bool.eq_false_iff.2 fun h8 => by have := (h.l8 h8).1; rw [← e, hi] at this; cases this
  have e5 := hd 5 (by omega); have e6 := hd 6 (by omega); have e7 := hd 7 (by omega); have e8 := hd 8 (by omega)
  have s9 : (9 : Nat) ≠ s := by omega
  have s10 : (10 : Nat) ≠ s := by omega
  refine ⟨h.bel, fun e => ?_, fun e => ?_, fun e => ?_, fun e => ?_, fun e => ?_, fun e => ?_, fun e => ?_, fun e e' => ?_, fun e => ?_, fun e => ?_⟩
  · by_cases hk : i = 0
    · rw [if_pos (by omega)]; exact h0 hk
    · rw [if_neg (by omega)]; exact h.h0 (by rw [← hd 0 (by omega)]; exact e)
  · by_cases hk : i = 1
    · rw [if_pos (by omega)]; exact h1 hk
    · rw [if_neg (by omega)]; exact h.h1 (by rw [← hd 1 (by omega)]; exact e)
  · by_cases hk : i = 2
    · rw [if_pos (by omega)]; exact h2 hk
    · rw [if_neg (by omega)]; exact h.h2 (by rw [← hd 2 (by omega)]; exact e)
  · by_cases hk : i = 3
    · rw [if_pos (by omega)]; exact h3 hk
    · rw [if_neg (by omega)]; exact h.h3 (by rw [← hd 3 (by omega)]; exact e)
  · by_cases hk : i = 4
    · rw [if_pos (by omega)]; exact h4 hk
    · rw [if_neg (by omega)]; exact h.h4 (by rw [← hd 4 (by omega)]; exact e)
  · rw [if_neg s9]
    obtain ⟨b, x, k1, k2, k3, k4⟩ := h.h5 (by rw [← e5]; exact e)
    refine ⟨b, x, k1, k2, k3, fun e2 => ?_⟩
    rw [e7] at e2
    rw [if_neg (fun hs => by have := n7 (by omega); rw [this] at e2; cases e2)]
    exact k4 e2
  · rw [if_neg s10]
    obtain ⟨b, x, k1, k2, k3, k4⟩ := h.h6 (by rw [← e6]; exact e)
    refine ⟨b, x, k1, k2, k3, fun e2 => ?_⟩
    rw [e8] at e2
    rw [if_neg (fun hs => by have := n8 (by omega); rw [this] at e2; cases e2)]
    exact k4 e2
  · rw [if_neg s9, if_neg s10]
    exact h.ne (by rw [← e5]; exact e) (by rw [← e6]; exact e')
  · rw [e7] at e
    obtain ⟨a1, a2⟩ := h.l7 e
    exact ⟨by rw [hd 1 (fun hk => by subst hk; rw [hi] at a1; cases a1)]; exact a1, by rw [e5]; exact a2⟩
  · rw [e8] at e
    obtain ⟨a1, a2⟩ := h.l8 e
    exact ⟨by rw [hd 4 (fun hk => by subst hk; rw [hi] at a1; cases a1)]; exact a1, by rw [e6]; exact a2⟩
/-- One of the two boxes is made. -/
theorem Rg8.box (h : Rg8 w0 dead ul dv pv d f w) {i s : Nat} (hd : ∀ k, k ≠ i → d' k = d k) (hi : d i = false) (his : (i = 5 ∧ s = 9) ∨ (i = 6 ∧ s = 10)) (x : Value) :
    Rg8 w0 dead ul dv pv d' (fun j => if j = s then .pointer (some ⟨w.heap.size, 0, none⟩) else f j) (w.alloc (.cells #[x] 73)) := by
  have hsz := h.bel.size
  have lt5 : ∀ b x, FBox w b x → b < w.heap.size := fun b x hb => hb.lt
  have o5 := h.h5
  have o6 := h.h6
  have hnew : FBox (w.alloc (.cells #[x] 73)) w.heap.size x := heap_alloc_new w _
  have h := h.later (w' := w.alloc (.cells #[x] 73)) ((Below.refl _ _).alloc (Nat.le_refl _) _)
  have c0 := hd 0 (by omega); have c1 := hd 1 (by omega); have c2 := hd 2 (by omega); have c3 := hd 3 (by omega); have c4 := hd 4 (by omega); have c7 := hd 7 (by omega); have c8 := hd 8 (by omega)
  refine ⟨h.bel, fun e => ?_, fun e => ?_, fun e => ?_, fun e => ?_, fun e => ?_, fun e => ?_, fun e => ?_, fun e e' => ?_, fun e => ?_, fun e => ?_⟩
  · rw [if_neg (by omega)]; exact h.h0 (c0 ▸ e)
  · rw [if_neg (by omega)]; exact h.h1 (c1 ▸ e)
  · rw [if_neg (by omega)]; exact h.h2 (c2 ▸ e)
  · rw [if_neg (by omega)]; exact h.h3 (c3 ▸ e)
  · rw [if_neg (by omega)]; exact h.h4 (c4 ▸ e)
  · by_cases hk : i = 5
    · rw [if_pos (by omega), if_neg (by omega)]
      refine ⟨_, x, rfl, hnew, hsz, fun e7 => ?_⟩
      rw [c7] at e7
      have := (h.l7 e7).2
      subst hk
      rw [hi] at this
      cases this
    · rw [if_neg (by omega), if_neg (by omega), c7]
      exact h.h5 (by rw [← hd 5 (by omega)]; exact e)
  · by_cases hk : i = 6
    · rw [if_pos (by omega), if_neg (by omega)]
      refine ⟨_, x, rfl, hnew, hsz, fun e8 => ?_⟩
      rw [c8] at e8
      have := (h.l8 e8).2
      subst hk
      rw [hi] at this
      cases this
    · rw [if_neg (by omega), if_neg (by omega), c8]
      exact h.h6 (by rw [← hd 6 (by omega)]; exact e)
  · rcases his with ⟨h5, hs⟩ | ⟨h6, hs⟩
    · subst h5; subst hs
      rw [if_pos rfl, if_neg (by decide)]
      obtain ⟨b, y, k1, k2, _⟩ := o6 (by rw [← hd 6 (by decide)]; exact e')
      rw [k1]
      intro he
      simp only [Value.pointer.injEq, Option.some.injEq, Addr.mk.injEq, and_true] at he
      have := lt5 b y k2
      omega
    · subst h6; subst hs
      rw [if_pos rfl, if_neg (by decide)]
      obtain ⟨b, y, k1, k2, _⟩ := o5 (by rw [← hd 5 (by decide)]; exact e)
      rw [k1]
      intro he
      simp only [Value.pointer.injEq, Option.some.injEq, Addr.mk.injEq, and_true] at he
      have := lt5 b y k2
      omega
  · rw [c7] at e
    obtain ⟨a1, a2⟩ := h.l7 e
    exact ⟨by rw [c1]; exact a1, by rw [hd 5 (fun hk => by subst hk; rw [hi] at a2; cases a2)]; exact a2⟩
  · rw [c8] at e
    obtain ⟨a1, a2⟩ := h.l8 e
    exact ⟨by rw [c4]; exact a1, by rw [hd 6 (fun hk => by subst hk; rw [hi] at a2; cases a2)]; exact a2⟩
/-- One of the two boxes is filled. -/
theorem Rg8.fill7 (h : Rg8 w0 dead ul dv pv d f w) (hd : ∀ k, k ≠ 7 → d' k = d k) (h1 : d 1 = true) (h5 : d 5 = true) :
    ∃ b x, f 9 = .pointer (some ⟨b, 0, none⟩) ∧ FBox w b x ∧ Rg8 w0 dead ul dv pv d' f (w.setCell ⟨b, 0, none⟩ (f 38)) := by
  obtain ⟨b, x, k1, k2, k3, _⟩ := h.h5 h5
  refine ⟨b, x, k1, k2, h.bel.setCell k3 _, fun e => h.h0 (by rw [← hd 0 (by decide)]; exact e), fun e => ?_, fun e => h.h2 (by rw [← hd 2 (by decide)]; exact e), fun e => ?_, fun e => ?_, fun e => ?_, fun e => ?_, fun e e' => h.ne (by rw [← hd 5 (by decide)]; exact e) (by rw [← hd 6 (by decide)]; exact e'), fun _ => ?_, fun e => ?_⟩
  · exact (h.h1 (by rw [← hd 1 (by decide)]; exact e)).imp fun _ k => ⟨k.1, k.2.other k2 _⟩
  · obtain ⟨a, n, c, g, m1, m2⟩ := h.h3 (by rw [← hd 3 (by decide)]; exact e)
    exact ⟨a, n, c, g, m1, m2.other k2 _⟩
  · exact (h.h4 (by rw [← hd 4 (by decide)]; exact e)).imp fun _ k => ⟨k.1, k.2.other k2 _⟩
  · exact ⟨b, _, k1, k2.set _, k3, fun _ => rfl⟩
  · obtain ⟨b6, y, m1, m2, m3, m4⟩ := h.h6 (by rw [← hd 6 (by decide)]; exact e)
    rw [hd 8 (by decide)]
    refine ⟨b6, y, m1, m2.other ?_ _, m3, m4⟩
    rintro rfl
    exact h.ne h5 (by rw [← hd 6 (by decide)]; exact e) (by rw [k1, m1])
  · exact ⟨by rw [hd 1 (by decide)]; exact h1, by rw [hd 5 (by decide)]; exact h5⟩
  · rw [hd 8 (by decide)] at e
    rw [hd 4 (by decide), hd 6 (by decide)]
    exact h.l8 e
theorem Rg8.fill8 (h : Rg8 w0 dead ul dv pv d f w) (hd : ∀ k, k ≠ 8 → d' k = d k) (h4 : d 4 = true) (h6 : d 6 = true) :
    ∃ b x, f 10 = .pointer (some ⟨b, 0, none⟩) ∧ FBox w b x ∧ Rg8 w0 dead ul dv pv d' f (w.setCell ⟨b, 0, none⟩ (f 41)) := by
  obtain ⟨b, x, k1, k2, k3, _⟩ := h.h6 h6
  refine ⟨b, x, k1, k2, h.bel.setCell k3 _, fun e => h.h0 (by rw [← hd 0 (by decide)]; exact e), fun e => ?_, fun e => h.h2 (by rw [← hd 2 (by decide)]; exact e), fun e => ?_, fun e => ?_, fun e => ?_, fun e => ?_, fun e e' => h.ne (by rw [← hd 5 (by decide)]; exact e) (by rw [← hd 6 (by decide)]; exact e'), fun e => ?_, fun _ => ?_⟩
  · exact (h.h1 (by rw [← hd 1 (by decide)]; exact e)).imp fun _ k => ⟨k.1, k.2.other k2 _⟩
  · obtain ⟨a, n, c, g, m1, m2⟩ := h.h3 (by rw [← hd 3 (by decide)]; exact e)
    exact ⟨a, n, c, g, m1, m2.other k2 _⟩
  · exact (h.h4 (by rw [← hd 4 (by decide)]; exact e)).imp fun _ k => ⟨k.1, k.2.other k2 _⟩
  · obtain ⟨b5, y, m1, m2, m3, m4⟩ := h.h5 (by rw [← hd 5 (by decide)]; exact e)
    rw [hd 7 (by decide)]
    refine ⟨b5, y, m1, m2.other ?_ _, m3, m4⟩
    rintro rfl
    exact h.ne (by rw [← hd 5 (by decide)]; exact e) h6 (by rw [k1, m1])
  · exact ⟨b, _, k1, k2.set _, k3, fun _ => rfl⟩
  · rw [hd 7 (by decide)] at e
    rw [hd 1 (by decide), hd 5 (by decide)]
    exact h.l7 e
  · exact ⟨by rw [hd 4 (by decide)]; exact h4, by rw [hd 6 (by decide)]; exact h6⟩
end
end Go.Proofs.YtjbodokligpcaaaGreat
