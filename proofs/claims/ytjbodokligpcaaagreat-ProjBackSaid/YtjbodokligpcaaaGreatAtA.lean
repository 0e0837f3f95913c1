/- What reads, and in which blocks it lies; rows of values, and texts: slices of slices that read as bytes. Nothing of the program. -/
import Derived.Test.YtjbodokligpcaaaGreatBase
namespace Go.Proofs.YtjbodokligpcaaaGreat
open Go.RowKit

theorem lists_take {ls : List (List Nat)} (k : Nat) (h : k < ls.length) : ls.take (k + 1) = ls.take k ++ [ls.getD k []] := by
  rw [List.take_add_one, List.getElem?_eq_getElem h]; simp [List.getD, List.getElem?_eq_getElem h]

/-- Blocks of a kind are as they were. -/
structure Kept (B : Nat → Prop) (w w' : World) : Prop where
  size : w.heap.size ≤ w'.heap.size
  block : ∀ j, j < w.heap.size → B j → w'.heap[j]? = w.heap[j]?

theorem Kept.refl (B : Nat → Prop) (w : World) : Kept B w w := ⟨Nat.le_refl _, fun _ _ _ => rfl⟩
theorem Kept.trans {B : Nat → Prop} {a b c : World} (h : Kept B a b) (k : Kept B b c) : Kept B a c :=
  ⟨Nat.le_trans h.size k.size, fun j hj hb => (k.block j (Nat.lt_of_lt_of_le hj h.size) hb).trans (h.block j hj hb)⟩
theorem Kept.mono {B C : Nat → Prop} {a b : World} (h : Kept B a b) (hc : ∀ j, j < a.heap.size → C j → B j) : Kept C a b := ⟨h.size, fun j hj k => h.block j hj (hc j hj k)⟩
/-- Where but one row was written. -/
theorem kept_row {w w' : World} {r : Option Nat} (h : w.grownBy w' r) : Kept (fun j => some j ≠ r) w w' := ⟨h.size, fun j hj hb => h.block j hj hb⟩
/-- Where only new blocks were made. -/
theorem kept_new {w w' : World} (h : Below w.heap.size w w') (B : Nat → Prop) : Kept B w w' := ⟨h.size, fun j hj _ => h.block j hj⟩
theorem kept_below {K : Nat} {w w' : World} (h : Below K w w') : Kept (fun j => j < K) w w' := ⟨h.size, fun j _ hb => h.block j hb⟩

/-- The slice value v reads as the numbers l, and its cells lie in a block of which B holds. -/
def At (w : World) (B : Nat → Prop) (k : IntKind) (v : Value) (l : List Nat) : Prop :=
  Reads w k v l ∧ (l = [] ∨ ∃ b off n cap, v = .slice (some ⟨b, off, none⟩) n cap ∧ B b)

theorem At.reads {w : World} {B : Nat → Prop} {k : IntKind} {v : Value} {l : List Nat} (h : At w B k v l) : Reads w k v l := h.1
theorem At.mono {w : World} {B C : Nat → Prop} {k : IntKind} {v : Value} {l : List Nat} (h : At w B k v l) (hc : ∀ j, j < w.heap.size → B j → C j) : At w C k v l := by
  refine ⟨h.1, ?_⟩
  obtain ⟨⟨ao, cap, rfl, h1, h2, h3, h4⟩, h5⟩ := h
  rcases h4 with h4 | ⟨b, off, rfl, hb, _⟩
  · exact .inl h4
  · rcases h5 with h5 | ⟨b', off', n', cap', hv, hB⟩
    · exact .inl h5
    · cases hv
      exact .inr ⟨b, off, _, _, rfl, hc b hb hB⟩
theorem At.keep {w w' : World} {B : Nat → Prop} {k : IntKind} {v : Value} {l : List Nat} (h : At w B k v l) (hk : Kept B w w') : At w' B k v l := by
  refine ⟨?_, h.2⟩
  obtain ⟨⟨ao, cap, rfl, h1, h2, h3, h4⟩, h5⟩ := h
  refine ⟨ao, cap, rfl, h1, h2, h3, ?_⟩
  rcases h4 with h4 | ⟨b, off, rfl, hb, hc⟩
  · exact .inl h4
  · rcases h5 with h5 | ⟨b', off', n', cap', hv, hB⟩
    · exact .inl h5
    · cases hv
      exact .inr ⟨b, off, rfl, Nat.lt_of_lt_of_le hb hk.size, fun i hi => (World.cell?_of_block (hk.block b hb hB)).trans (hc i hi)⟩
theorem Reads.at' {w : World} {k : IntKind} {v : Value} {l : List Nat} (h : Reads w k v l) : At w (fun j => j < w.heap.size) k v l := by
  refine ⟨h, ?_⟩
  obtain ⟨ao, cap, rfl, h1, h2, h3, h4⟩ := h
  rcases h4 with h4 | ⟨b, off, rfl, hb, hc⟩
  · exact .inl h4
  · exact .inr ⟨b, off, _, _, rfl, hb⟩
theorem At.old {w w' : World} {B : Nat → Prop} {k : IntKind} {v : Value} {l : List Nat} (h : At w B k v l) (hb : Below w.heap.size w w') : At w' B k v l := h.keep (kept_new hb B)
/-- The blocks that are the call's own, of an element type. -/
def Own (w : World) (base : Nat) (e : TypeId) : Nat → Prop := fun j => base ≤ j ∧ ∃ cs, w.heap[j]? = some (.cells cs e (0, 0))
theorem Owns.at' {w : World} {base : Nat} {e : TypeId} {k : IntKind} {v : Value} {l : List Nat} (h : Owns w base e k v l) : At w (Own w base e) k v l := by
  refine ⟨h.reads, ?_⟩
  rcases h.2 with ⟨_, hn⟩ | ⟨g, cap, cur, rfl, hb, hg, _⟩
  · exact .inl (List.length_eq_zero_iff.1 hn)
  · exact .inr ⟨g, 0, _, _, rfl, hb, _, hg⟩
/-- What is the call's own stays so where its blocks stay. -/
theorem At.own {w w' : World} {base : Nat} {e : TypeId} {k : IntKind} {v : Value} {l : List Nat} (h : At w (Own w base e) k v l) (hk : Kept (Own w base e) w w') : At w' (Own w' base e) k v l := by
  have h2 := h.mono (C := fun j => Own w base e j ∧ w'.heap[j]? = w.heap[j]?) fun j hj hB => ⟨hB, hk.block j hj hB⟩
  exact (h2.keep ⟨hk.size, fun j _ hB => hB.2⟩).mono fun j _ hB => ⟨hB.1.1, hB.1.2.imp fun cs hc => hB.2.trans hc⟩
theorem own_ne {w : World} {base : Nat} {e e' : TypeId} {v : Value} {n : Nat} {us : List Value} (h : w.ownsRow base e' 1 v n us) (he : e ≠ e') {j : Nat} (hj : Own w base e j) : some j ≠ v.ownBlock := by
  intro hv
  obtain ⟨_, cs, h2⟩ := hj
  rcases h.2 with ⟨rfl, _⟩ | ⟨g, cap, cur, rfl, _, hg, _⟩
  · cases hv
  · cases hv
    rw [hg] at h2
    cases h2
    exact he rfl

/-- The first m cells. -/
theorem At.head {w : World} {B : Nat → Prop} {k : IntKind} {ao : Option Addr} {n cap : Nat} {l : List Nat} (h : At w B k (.slice ao n cap) l) {m : Nat} (hm : m ≤ l.length) (hr : Reads w k (.slice ao m cap) (l.take m)) : At w B k (.slice ao m cap) (l.take m) := by
  refine ⟨hr, ?_⟩
  rcases h.2 with rfl | ⟨b, off, n', cap', hv, hB⟩
  · exact .inl (by simp)
  · cases hv
    exact .inr ⟨b, off, _, _, rfl, hB⟩
theorem At.tail {w : World} {B : Nat → Prop} {k : IntKind} {ao : Option Addr} {n cap : Nat} {l : List Nat} (h : At w B k (.slice ao n cap) l) {m : Nat} (hm : m ≤ l.length)
    (hr : Reads w k (.slice (if cap = m then ao else ao.map fun x => x.add m) (n - m) (cap - m)) (l.drop m)) : At w B k (.slice (if cap = m then ao else ao.map fun x => x.add m) (n - m) (cap - m)) (l.drop m) := by
  refine ⟨hr, ?_⟩
  rcases h.2 with rfl | ⟨b, off, n', cap', hv, hB⟩
  · exact .inl (by simp)
  · cases hv
    by_cases hc : cap = m
    · exact .inr ⟨b, off, n - m, cap - m, by rw [if_pos hc], hB⟩
    · exact .inr ⟨b, off + m, n - m, cap - m, by rw [if_neg hc]; simp [Addr.add], hB⟩

/-- A slice of values, in a block of which B holds. -/
def RowV (w : World) (B : Nat → Prop) (v : Value) (us : List Value) : Prop :=
  ∃ ao cap, v = .slice ao us.length cap ∧ us.length ≤ cap ∧ cap ≤ maxLen ∧ (ao = none → cap = 0) ∧ (us = [] ∨ ∃ b off, ao = some ⟨b, off, none⟩ ∧ b < w.heap.size ∧ B b ∧ ∀ i, i < us.length → w.cell? ⟨b, off + i, none⟩ = us[i]?)

theorem RowV.keep {w w' : World} {B : Nat → Prop} {v : Value} {us : List Value} (h : RowV w B v us) (hk : Kept B w w') : RowV w' B v us := by
  obtain ⟨ao, cap, rfl, h1, h2, h3, h4⟩ := h
  refine ⟨ao, cap, rfl, h1, h2, h3, ?_⟩
  rcases h4 with h4 | ⟨b, off, rfl, hb, hB, hc⟩
  · exact .inl h4
  · exact .inr ⟨b, off, rfl, Nat.lt_of_lt_of_le hb hk.size, hB, fun i hi => (World.cell?_of_block (hk.block b hb hB)).trans (hc i hi)⟩
theorem RowV.mono {w : World} {B C : Nat → Prop} {v : Value} {us : List Value} (h : RowV w B v us) (hc : ∀ j, j < w.heap.size → B j → C j) : RowV w C v us := by
  obtain ⟨ao, cap, rfl, h1, h2, h3, h4⟩ := h
  refine ⟨ao, cap, rfl, h1, h2, h3, ?_⟩
  rcases h4 with h4 | ⟨b, off, rfl, hb, hB, hc'⟩
  · exact .inl h4
  · exact .inr ⟨b, off, rfl, hb, hc b hb hB, hc'⟩
theorem RowV.at {w : World} {B : Nat → Prop} {ao : Option Addr} {n cap : Nat} {us : List Value} (h : RowV w B (.slice ao n cap) us) {i : Nat} (hi : i < us.length) :
    ∃ b off, ao = some ⟨b, off, none⟩ ∧ b < w.heap.size ∧ B b ∧ ∀ j, j < us.length → w.cell? ⟨b, off + j, none⟩ = us[j]? := by
  obtain ⟨ao', cap', hv, _, _, _, h4⟩ := h
  simp only [Value.slice.injEq] at hv
  obtain ⟨rfl, _, _⟩ := hv
  rcases h4 with rfl | h4
  · simp at hi
  · exact h4
theorem owned_row {w : World} {base : Nat} {e : TypeId} {v : Value} {us : List Value} (h : w.ownsRow base e 1 v us.length us) : RowV w (Own w base e) v us := by
  have h0 := h
  rcases h.2 with ⟨rfl, hn⟩ | ⟨g, cap, cur, rfl, hb, hg, hnc, hm, hs, ht⟩
  · exact ⟨none, 0, by rw [hn], by omega, by simp [maxLen], fun _ => rfl, .inl (List.length_eq_zero_iff.1 hn)⟩
  · exact ⟨_, cap, rfl, hnc, hm, by simp, .inr ⟨g, 0, rfl, (Array.getElem?_eq_some_iff.1 hg).1, ⟨hb, _, hg⟩, fun i hi => by rw [Nat.zero_add, h0.cellAt i (by omega)]⟩⟩

/-- A walk of an append of a row of values, onto a row that the call owns. -/
theorem wpList_appV {P : Program} (w : World) {ops : Array Oper} {rest : List Oper} {o : Oper} {a : Act} {Q : Exit → Act → World → Prop} (hgd : o.guard = none) (s x : Operand) (t : TypeId)
    (ho : o.op = .call { callee := .builtin .append, args := #[s, x], argTypes := #[t, t] })
    (base : Nat) (e : TypeId) (z : Value) (bytes : Nat) (ht : P.underlying t = some (.slice e)) (hinfo : (P.info? e).map (fun i => (i.zero, i.size, i.bytes)) = some (some z, 1, bytes)) (hzs : z.cells.size = 1)
    (v : Value) (xs : List Value) (hs : a.eval s = v) (hown : w.ownsRow base e 1 v xs.length xs)
    (sv : Value) (B : Nat → Prop) (l : List Value) (hx : a.eval x = sv) (hr : RowV w B sv l) (h1c : ∀ u ∈ l, u.oneCell' = true)
    (hb0 : 0 < bytes) (hbytes : (xs.length + l.length) * bytes ≤ 140737488355328) (hbase : base ≤ w.heap.size)
    (h : ∀ v' w', w'.ownsRow base e 1 v' (xs ++ l).length (xs ++ l) → w.grownBy w' v.ownBlock → wpList P ops Q rest (a.put o.dst v') w') : wpList P ops Q (o :: rest) a w := by
  obtain ⟨i, hi, hz, hsz, hby⟩ := info_parts hinfo
  have h63 : xs.length + l.length ≤ 140737488355328 := Nat.le_trans (Nat.le_mul_of_pos_right _ hb0) hbytes
  obtain ⟨ao, cap, rfl, h1, h2, h3, h4⟩ := hr
  cases ao with
  | none =>
    have hl : l = [] := by
      have := h3 rfl
      exact List.length_eq_zero_iff.1 (by omega)
    subst hl
    have hc := h3 rfl
    subst hc
    refine wpList_append_own_none hgd s x t ho base e i 1 ht hi v xs.length xs hs hown hx ?_
    exact h v w (by simpa using hown) (World.grownBy.refl _ _)
  | some ad =>
    refine wpList_append_own w hgd s x t ho base e i z 1 bytes ht hi hz hsz hby hzs (by decide) v xs.length xs hs hown ad l.length cap l hx (by simp) ?_ h1c (by simp only [maxLen]; omega) hbytes hbase ?_
    · intro j u hu
      have hj : j < l.length := (List.getElem?_eq_some_iff.1 hu).1
      rcases h4 with rfl | ⟨b, off, ha, _, _, hc⟩
      · simp at hj
      · obtain rfl := Option.some.inj ha
        rw [Addr.add_lit, hc j hj]
        exact hu
    · intro v' w' hown' hg _
      exact h v' w' (by rw [List.length_append]; exact hown') hg

/-- A slice of slices that each read as bytes; the blocks of all that is told by B. -/
def Txs (w : World) (B : Nat → Prop) (v : Value) (ls : List (List Nat)) : Prop :=
  ∃ us : List Value, us.length = ls.length ∧ RowV w B v us ∧ (∀ u ∈ us, u.oneCell' = true) ∧ ∀ i, i < ls.length → At w B .u8 (us.getD i .nilIface) (ls.getD i [])

theorem Txs.keep {w w' : World} {B : Nat → Prop} {v : Value} {ls : List (List Nat)} (h : Txs w B v ls) (hk : Kept B w w') : Txs w' B v ls := by
  obtain ⟨us, h1, h2, h3, h4⟩ := h
  exact ⟨us, h1, h2.keep hk, h3, fun i hi => (h4 i hi).keep hk⟩
theorem Txs.mono {w : World} {B C : Nat → Prop} {v : Value} {ls : List (List Nat)} (h : Txs w B v ls) (hc : ∀ j, j < w.heap.size → B j → C j) : Txs w C v ls := by
  obtain ⟨us, h1, h2, h3, h4⟩ := h
  exact ⟨us, h1, h2.mono hc, h3, fun i hi => (h4 i hi).mono hc⟩
theorem Txs.old {w w' : World} {B : Nat → Prop} {v : Value} {ls : List (List Nat)} (h : Txs w B v ls) (hb : Below w.heap.size w w') : Txs w' B v ls := h.keep (kept_new hb B)
theorem Txs.val {w : World} {B : Nat → Prop} {v : Value} {ls : List (List Nat)} (h : Txs w B v ls) : ∃ ao cap, v = .slice ao ls.length cap ∧ ls.length ≤ cap ∧ cap ≤ maxLen ∧ (ao = none → cap = 0) := by
  obtain ⟨us, h1, ⟨ao, cap, hv, h2, h3, h4, _⟩, _, _⟩ := h
  exact ⟨ao, cap, by rw [hv, h1], by omega, h3, h4⟩
theorem Txs.at {w : World} {B : Nat → Prop} {ao : Option Addr} {n cap : Nat} {ls : List (List Nat)} (h : Txs w B (.slice ao n cap) ls) {i : Nat} (hi : i < ls.length) :
    ∃ b off x, ao = some ⟨b, off, none⟩ ∧ b < w.heap.size ∧ B b ∧ w.cell? ⟨b, off + i, none⟩ = some x ∧ At w B .u8 x (ls.getD i []) := by
  obtain ⟨us, h1, h2, _, h4⟩ := h
  obtain ⟨b, off, ha, hb, hB, hc⟩ := h2.at (i := i) (by omega)
  refine ⟨b, off, us.getD i .nilIface, ha, hb, hB, ?_, h4 i hi⟩
  rw [hc i (by omega), List.getD_eq_getElem?_getD, List.getElem?_eq_getElem (by omega)]
  rfl
theorem txs_nil (w : World) (B : Nat → Prop) : Txs w B (.slice none 0 0) [] := ⟨[], rfl, ⟨none, 0, rfl, by simp, by simp [maxLen], fun _ => rfl, .inl rfl⟩, by simp, by simp⟩

/-- The first m texts. -/
theorem Txs.head {w : World} {B : Nat → Prop} {ao : Option Addr} {n cap : Nat} {ls : List (List Nat)} (h : Txs w B (.slice ao n cap) ls) {m : Nat} (hm : m ≤ ls.length) : Txs w B (.slice ao m cap) (ls.take m) := by
  obtain ⟨us, h1, ⟨ao', cap', hv, h2, h3, h4, h5⟩, h6, h7⟩ := h
  simp only [Value.slice.injEq] at hv
  obtain ⟨rfl, rfl, rfl⟩ := hv
  have e1 : (us.take m).length = m := by rw [List.length_take]; omega
  have e2 : (ls.take m).length = m := by rw [List.length_take]; omega
  refine ⟨us.take m, by rw [e1, e2], ⟨ao, cap, by rw [e1], by omega, h3, h4, ?_⟩, fun u hu => h6 u (List.mem_of_mem_take hu), fun i hi => ?_⟩
  · rcases h5 with rfl | ⟨b, off, ha, hb, hB, hc⟩
    · exact .inl (by simp)
    · exact .inr ⟨b, off, ha, hb, hB, fun i hi => by rw [e1] at hi; rw [hc i (by omega), List.getElem?_take, if_pos hi]⟩
  · rw [e2] at hi
    rw [List.getD_eq_getElem?_getD, List.getD_eq_getElem?_getD, List.getElem?_take, List.getElem?_take, if_pos hi, if_pos hi, ← List.getD_eq_getElem?_getD, ← List.getD_eq_getElem?_getD]
    exact h7 i (by omega)

theorem row_one (w : World) (e : TypeId) (u : Value) (fr : Nat × Nat) : RowV (w.alloc (.cells #[u] e fr)) (fun j => w.heap.size ≤ j) (.slice (some ⟨w.heap.size, 0, none⟩) 1 1) [u] :=
  ⟨_, 1, rfl, by simp, by simp [maxLen], by simp, .inr ⟨w.heap.size, 0, rfl, by simp, Nat.le_refl _, fun i hi => by
    obtain rfl : i = 0 := by simp at hi; omega
    rw [Nat.zero_add, World.cell?_alloc_mark]; rfl⟩⟩
theorem row_two (w : World) (e : TypeId) (u1 u2 : Value) (fr : Nat × Nat) : RowV (w.alloc (.cells #[u1, u2] e fr)) (fun j => w.heap.size ≤ j) (.slice (some ⟨w.heap.size, 0, none⟩) 2 2) [u1, u2] :=
  ⟨_, 2, rfl, by simp, by simp [maxLen], by simp, .inr ⟨w.heap.size, 0, rfl, by simp, Nat.le_refl _, fun i hi => by
    have hi2 : i < 2 := by simpa using hi
    match i, hi2 with
    | 0, _ => rw [Nat.zero_add, World.cell?_alloc_mark]; rfl
    | 1, _ => rw [Nat.zero_add, World.cell?_alloc_mark]; rfl⟩⟩

theorem At.oneCell {w : World} {B : Nat → Prop} {k : IntKind} {v : Value} {l : List Nat} (h : At w B k v l) : v.oneCell' = true := by
  obtain ⟨⟨ao, cap, rfl, _⟩, _⟩ := h
  rfl

/-- One text, written out. -/
theorem txs_one (w : World) (e : TypeId) (v : Value) (l : List Nat) (h : Reads w .u8 v l) : Txs (w.alloc (.cells #[v] e)) (fun _ => True) (.slice (some ⟨w.heap.size, 0, none⟩) 1 1) [l] := by
  have ha := ((h.at').mono (C := fun _ => True) fun _ _ _ => trivial).old ((Below.refl _ _).alloc (Nat.le_refl _) (.cells #[v] e))
  refine ⟨[v], rfl, (row_one w e v (0, 0)).mono fun _ _ _ => trivial, ?_, fun i hi => ?_⟩
  · intro u hu
    obtain rfl : u = v := by simpa using hu
    exact ha.oneCell
  · obtain rfl : i = 0 := by simp at hi; omega
    exact ha
theorem txs_two (w : World) (e : TypeId) (v1 v2 : Value) (l1 l2 : List Nat) (h1 : Reads w .u8 v1 l1) (h2 : Reads w .u8 v2 l2) : Txs (w.alloc (.cells #[v1, v2] e)) (fun _ => True) (.slice (some ⟨w.heap.size, 0, none⟩) 2 2) [l1, l2] := by
  have hb := (Below.refl w.heap.size w).alloc (Nat.le_refl _) (.cells #[v1, v2] e)
  have ha1 := ((h1.at').mono (C := fun _ => True) fun _ _ _ => trivial).old hb
  have ha2 := ((h2.at').mono (C := fun _ => True) fun _ _ _ => trivial).old hb
  refine ⟨[v1, v2], rfl, (row_two w e v1 v2 (0, 0)).mono fun _ _ _ => trivial, ?_, fun i hi => ?_⟩
  · intro u hu
    simp only [List.mem_cons, List.not_mem_nil, or_false] at hu
    rcases hu with rfl | rfl
    · exact ha1.oneCell
    · exact ha2.oneCell
  · have hi2 : i < 2 := by simpa using hi
    match i, hi2 with
    | 0, _ => exact ha1
    | 1, _ => exact ha2

end Go.Proofs.YtjbodokligpcaaaGreat
