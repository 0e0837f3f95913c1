/- A taker at work: its reader, its run, the last data; what changes which of them. -/
import Derived.Test.YtbihammpdjkonaaTakB
import Derived.Test.YtbihammpdjkonaaCelQ
namespace Go.Proofs.Ytbihammpdjkonaa
open Go.RowKit

/-- A taker, its reader, its run so far, its last data: all that was made since base lies at or behind it. -/
structure TkS (w : World) (base t p : Nat) (rv : Value) (row : List Nat) (place c : Nat) (rnv lsv : Value) (acc : List (Int × Value)) (cs : List CC) (last : List Nat) : Prop where
  tk : Tkr w t p rnv lsv
  rd : Rd w p rv row place c
  own : OwnsI w base rnv acc
  len : acc.length = cs.length
  dat : ∀ i, (hi : i < acc.length) → acc[i].1 = ((cs.getD i (0, [])).1 : Int) ∧ At w (Own w base 5) .u8 acc[i].2 (cs.getD i (0, [])).2
  lst : At w (Own w base 5) .u8 lsv last
  bt : base ≤ t

/-- What was made before base stays, but the reader. -/
structure Gr (base p : Nat) (w w' : World) : Prop where
  os : w'.os = w.os
  tape : w'.tape = w.tape
  output : w'.output = w.output
  size : w.heap.size ≤ w'.heap.size
  block : ∀ j, j < base → j ≠ p → w'.heap[j]? = w.heap[j]?
theorem Gr.refl (base p : Nat) (w : World) : Gr base p w w := ⟨rfl, rfl, rfl, Nat.le_refl _, fun _ _ _ => rfl⟩
theorem Gr.trans {base p : Nat} {a b c : World} (h : Gr base p a b) (k : Gr base p b c) : Gr base p a c :=
  ⟨k.os.trans h.os, k.tape.trans h.tape, k.output.trans h.output, Nat.le_trans h.size k.size, fun j hj hp => (k.block j hj hp).trans (h.block j hj hp)⟩
theorem gr_grown {base p : Nat} {w w' : World} {r : Option Nat} (h : w.grownBy w' r) (hb : base ≤ w.heap.size) (hr : ∀ j, r = some j → j = p ∨ base ≤ j) : Gr base p w w' :=
  ⟨h.os, h.tape, h.output, h.size, fun j hj hp => h.block j (by omega) (fun e => by rcases hr j e.symm with h | h <;> omega)⟩
theorem gr_below {base p : Nat} {w w' : World} (h : Below w.heap.size w w') (hb : base ≤ w.heap.size) : Gr base p w w' :=
  ⟨h.os, h.tape, h.output, h.size, fun j hj _ => h.block j (by omega)⟩

theorem Owns.ty {w : World} {base : Nat} {e : TypeId} {k : IntKind} {v : Value} {l : List Nat} (h : Owns w base e k v l) {j : Nat} (hj : v.ownBlock = some j) : ∃ cs, w.heap[j]? = some (.cells cs e (0, 0)) := by
  rcases h.2 with ⟨rfl, _⟩ | ⟨g, cap, cur, rfl, _, hg, _⟩
  · cases hj
  · cases hj; exact ⟨_, hg⟩
theorem OwnsI.ty {w : World} {base : Nat} {v : Value} {l : List (Int × Value)} (h : OwnsI w base v l) {j : Nat} (hj : v.ownBlock = some j) : ∃ cs, w.heap[j]? = some (.cells cs 24 (0, 0)) := by
  rcases h.2 with ⟨rfl, _⟩ | ⟨g, cap, cur, rfl, _, hg, _⟩
  · cases hj
  · cases hj; exact ⟨_, hg⟩
theorem OwnsI.ne_rd {w : World} {base p : Nat} {v rv : Value} {l : List (Int × Value)} {row : List Nat} {place c : Nat} (h : OwnsI w base v l) (hr : Rd w p rv row place c) : v.ownBlock ≠ some p := by
  intro hj
  obtain ⟨cs, hg⟩ := h.ty hj
  have := hg.symm.trans hr.blk
  cases this
theorem OwnsI.ne_tk {w : World} {base t p : Nat} {v rnv lsv : Value} {l : List (Int × Value)} (h : OwnsI w base v l) (ht : Tkr w t p rnv lsv) : v.ownBlock ≠ some t := by
  intro hj
  obtain ⟨cs, hg⟩ := h.ty hj
  have := hg.symm.trans ht
  cases this
theorem OwnsI.ne_row {w : World} {base p : Nat} {v rv : Value} {l : List (Int × Value)} {row : List Nat} {place c : Nat} (h : OwnsI w base v l) (hr : Rd w p rv row place c) : rv.ownBlock = none ∨ rv.ownBlock ≠ v.ownBlock := by
  cases hv : rv.ownBlock with
  | none => exact .inl rfl
  | some j =>
    right
    intro he
    obtain ⟨cs, hg⟩ := h.ty he.symm
    obtain ⟨cs2, hg2⟩ := hr.own.ty hv
    have := hg.symm.trans hg2
    cases this

section
variable {w w' : World} {base t p : Nat} {rv rnv lsv : Value} {row : List Nat} {place c : Nat} {acc : List (Int × Value)} {cs : List CC} {last : List Nat}

/-- Blocks of bytes stay where only a block that is none was written. -/
theorem kept_u8 {r : Option Nat} (hg : w.grownBy w' r) (hr : ∀ j, r = some j → ¬ ∃ cs, w.heap[j]? = some (.cells cs 5 (0, 0))) : Kept (Own w base 5) w w' :=
  ⟨hg.size, fun j hj hB => hg.block j hj (fun e => hr j e.symm hB.2)⟩

theorem TkS.data_kept (h : TkS w base t p rv row place c rnv lsv acc cs last) (hk : Kept (Own w base 5) w w') :
    (∀ i, (hi : i < acc.length) → acc[i].1 = ((cs.getD i (0, [])).1 : Int) ∧ At w' (Own w' base 5) .u8 acc[i].2 (cs.getD i (0, [])).2) ∧ At w' (Own w' base 5) .u8 lsv last :=
  ⟨fun i hi => ⟨(h.dat i hi).1, (h.dat i hi).2.own hk⟩, h.lst.own hk⟩

/-- The reader goes on. -/
theorem TkS.read {place' c' : Nat} (h : TkS w base t p rv row place c rnv lsv acc cs last) (hg : w.grownBy w' (some p)) (hr : Rd w' p rv row place' c') : TkS w' base t p rv row place' c' rnv lsv acc cs last := by
  have hk := kept_u8 (base := base) hg (fun j hj => by
    cases hj
    rintro ⟨cs, hcs⟩
    have := hcs.symm.trans h.rd.blk
    cases this)
  obtain ⟨h1, h2⟩ := h.data_kept hk
  refine ⟨h.tk.grown hg (by have := h.tk.ne h.rd; simp; omega), hr, h.own.grown hg ?_, h.len, h1, h2, h.bt⟩
  exact .inr (h.own.ne_rd h.rd)
/-- Memory is made. -/
theorem TkS.more (h : TkS w base t p rv row place c rnv lsv acc cs last) (hb : Below w.heap.size w w') : TkS w' base t p rv row place c rnv lsv acc cs last := by
  obtain ⟨h1, h2⟩ := h.data_kept (kept_new hb _)
  exact ⟨h.tk.below hb, h.rd.below hb (Nat.le_refl _), h.own.below hb, h.len, h1, h2, h.bt⟩
end

theorem Tkr.setRun {w : World} {t p : Nat} {rnv lsv : Value} (h : Tkr w t p rnv lsv) (v : Value) : Tkr (w.setCell ⟨t, 1, none⟩ v) t p v lsv := by
  unfold Tkr
  rw [heap_setCell_same w t 1 _ _ _ h]
  rfl
theorem Tkr.setLast {w : World} {t p : Nat} {rnv lsv : Value} (h : Tkr w t p rnv lsv) (v : Value) : Tkr (w.setCell ⟨t, 2, none⟩ v) t p rnv v := by
  unfold Tkr
  rw [heap_setCell_same w t 2 _ _ _ h]
  rfl

section
variable {w w' : World} {base t p : Nat} {rv rnv lsv : Value} {row : List Nat} {place c : Nat} {acc : List (Int × Value)} {cs : List CC} {last : List Nat}

/-- A cell of a kind is pushed: an append, and a store. -/
theorem TkS.push {v' : Value} {k : Nat} {u : Value} {d : List Nat} (h : TkS w base t p rv row place c rnv lsv acc cs last) (hg : w.grownBy w' rnv.ownBlock) (ho : OwnsI w' base v' (acc ++ [((k : Int), u)])) (hu : At w (Own w base 5) .u8 u d) :
    TkS (w'.setCell ⟨t, 1, none⟩ v') base t p rv row place c v' lsv (acc ++ [((k : Int), u)]) (cs ++ [(k, d)]) last := by
  have hk := kept_u8 (base := base) hg (fun j hj => by
    obtain ⟨c1, h1⟩ := h.own.ty hj
    rintro ⟨c2, h2⟩
    have := h1.symm.trans h2
    cases this)
  have htk : Tkr w' t p rnv lsv := h.tk.grown hg (fun e => h.own.ne_tk h.tk e.symm)
  have hrd : Rd w' p rv row place c := h.rd.grown hg (fun e => h.own.ne_rd h.rd e.symm) (h.own.ne_row h.rd)
  have hs := grown_set w' t 1 v'
  have hne := htk.ne hrd
  have hk2 := kept_u8 (base := base) hs (fun j hj => by
    cases hj
    rintro ⟨c2, h2⟩
    have := h2.symm.trans htk
    cases this)
  obtain ⟨h1, h2⟩ := h.data_kept hk
  have hu2 := (hu.own hk).own hk2
  refine ⟨htk.setRun v', hrd.grown hs (by simp; omega) ?_, ho.grown hs (.inr (ho.ne_tk htk)), by simp [h.len], fun i hi => ?_, h2.own hk2, h.bt⟩
  · cases hv : rv.ownBlock with
    | none => exact .inl rfl
    | some j =>
      right
      intro he
      cases he
      obtain ⟨c2, hg2⟩ := hrd.own.ty hv
      have := hg2.symm.trans htk
      cases this
  · rw [List.length_append] at hi
    by_cases hil : i < acc.length
    · have e1 : (acc ++ [((k : Int), u)])[i] = acc[i] := List.getElem_append_left hil
      have e2 : (cs ++ [(k, d)]).getD i (0, []) = cs.getD i (0, []) := by
        rw [List.getD_eq_getElem?_getD, List.getElem?_append_left (by rw [← h.len]; exact hil), ← List.getD_eq_getElem?_getD]
      rw [e1, e2]
      exact ⟨(h1 i hil).1, (h1 i hil).2.own hk2⟩
    · obtain rfl : i = acc.length := by simp at hi; omega
      have e1 : (acc ++ [((k : Int), u)])[acc.length] = ((k : Int), u) := by simp
      have e2 : (cs ++ [(k, d)]).getD acc.length (0, []) = (k, d) := by
        rw [h.len, List.getD_eq_getElem?_getD, List.getElem?_append_right (Nat.le_refl _)]
        simp
      rw [e1, e2]
      exact ⟨rfl, hu2⟩

/-- The last data is another one. -/
theorem TkS.setLast {v' : Value} {d : List Nat} (h : TkS w base t p rv row place c rnv lsv acc cs last) (hu : At w (Own w base 5) .u8 v' d) : TkS (w.setCell ⟨t, 2, none⟩ v') base t p rv row place c rnv v' acc cs d := by
  have hs := grown_set w t 2 v'
  have hne := h.tk.ne h.rd
  have hk2 := kept_u8 (base := base) hs (fun j hj => by
    cases hj
    rintro ⟨c2, h2⟩
    have := h2.symm.trans h.tk
    cases this)
  obtain ⟨h1, h2⟩ := h.data_kept hk2
  refine ⟨h.tk.setLast v', h.rd.grown hs (by simp; omega) ?_, h.own.grown hs (.inr (h.own.ne_tk h.tk)), h.len, h1, hu.own hk2, h.bt⟩
  cases hv : rv.ownBlock with
  | none => exact .inl rfl
  | some j =>
    right
    intro he
    cases he
    obtain ⟨c2, hg2⟩ := h.rd.own.ty hv
    have := hg2.symm.trans h.tk
    cases this

/-- The kind of a run's last cell. -/
def lastK (cs : List CC) : Option Nat := cs.getLast?.map (·.1)
theorem TkS.ends (h : TkS w base t p rv row place c rnv lsv acc cs last) (k : Nat) : endB acc (k : Int) = decide (lastK cs = some k) := by
  unfold endB lastK
  rcases Nat.eq_zero_or_pos acc.length with h0 | h0
  · obtain rfl : acc = [] := List.length_eq_zero_iff.1 h0
    obtain rfl : cs = [] := List.length_eq_zero_iff.1 (by have := h.len; omega)
    rfl
  · have hl := h.len
    have e1 : acc.getLast? = some acc[acc.length - 1] := by rw [List.getLast?_eq_getElem?, List.getElem?_eq_getElem (by omega)]
    have e2 : cs.getLast? = some (cs.getD (acc.length - 1) (0, [])) := by
      rw [List.getLast?_eq_getElem?, ← hl, List.getElem?_eq_getElem (by omega), List.getD_eq_getElem?_getD, List.getElem?_eq_getElem (by omega)]
      rfl
    rw [e1, e2]
    have := (h.dat (acc.length - 1) (by omega)).1
    show (acc[acc.length - 1].1 == (k : Int)) = decide (some (cs.getD (acc.length - 1) (0, [])).1 = some k)
    rw [this]
    simp only [Option.some.injEq]
    rw [Bool.eq_iff_iff, beq_iff_eq, decide_eq_true_iff]
    omega
end

end Go.Proofs.Ytbihammpdjkonaa
