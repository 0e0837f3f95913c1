/- Slices of records: read, owned, appended to. -/
import Derived.Test.YtgnalcobcdgnkaaGreatDoorDaP
import Derived.Maps.AppendAt
namespace Go.Proofs.YtgnalcobcdgnkaaGreatDoor
open Go.RowKit

/-- The slice value v reads as these records; its cells lie in a block of which B holds. -/
def RecAt (w : World) (B : Nat → Prop) (k : Nat) (v : Value) (rows : List (List Value)) : Prop :=
  ∃ ao cap, v = .slice ao rows.length cap ∧ rows.length ≤ cap ∧ cap ≤ maxLen ∧ (ao = none → cap = 0) ∧
    (rows = [] ∨ ∃ b off, ao = some ⟨b, off, none⟩ ∧ b < w.heap.size ∧ B b ∧ ∀ i r, rows[i]? = some r → ∀ j u, r[j]? = some u → w.cell? ⟨b, off + i * k + j, none⟩ = some u)
theorem RecAt.keep {w w' : World} {B : Nat → Prop} {k : Nat} {v : Value} {rows : List (List Value)} (h : RecAt w B k v rows) (hk : Kept B w w') : RecAt w' B k v rows := by
  obtain ⟨ao, cap, rfl, h1, h2, h3, h4⟩ := h
  refine ⟨ao, cap, rfl, h1, h2, h3, ?_⟩
  rcases h4 with h4 | ⟨b, off, rfl, hb, hB, hc⟩
  · exact .inl h4
  · exact .inr ⟨b, off, rfl, Nat.lt_of_lt_of_le hb hk.size, hB, fun i r hi j u hu => (World.cell?_of_block (hk.block b hb hB)).trans (hc i r hi j u hu)⟩
theorem RecAt.mono {w : World} {B C : Nat → Prop} {k : Nat} {v : Value} {rows : List (List Value)} (h : RecAt w B k v rows) (hc : ∀ j, j < w.heap.size → B j → C j) : RecAt w C k v rows := by
  obtain ⟨ao, cap, rfl, h1, h2, h3, h4⟩ := h
  refine ⟨ao, cap, rfl, h1, h2, h3, ?_⟩
  rcases h4 with h4 | ⟨b, off, rfl, hb, hB, hcc⟩
  · exact .inl h4
  · exact .inr ⟨b, off, rfl, hb, hc b hb hB, hcc⟩
theorem RecAt.val {w : World} {B : Nat → Prop} {k : Nat} {v : Value} {rows : List (List Value)} (h : RecAt w B k v rows) : ∃ ao cap, v = .slice ao rows.length cap ∧ rows.length ≤ cap ∧ cap ≤ maxLen ∧ (ao = none → cap = 0) := by
  obtain ⟨ao, cap, hv, h1, h2, h3, _⟩ := h
  exact ⟨ao, cap, hv, h1, h2, h3⟩
theorem RecAt.at {w : World} {B : Nat → Prop} {k : Nat} {ao : Option Addr} {n cap : Nat} {rows : List (List Value)} (h : RecAt w B k (.slice ao n cap) rows) {i : Nat} {r : List Value} (hi : rows[i]? = some r) :
    ∃ b off, ao = some ⟨b, off, none⟩ ∧ b < w.heap.size ∧ B b ∧ ∀ j u, r[j]? = some u → w.cell? ⟨b, off + i * k + j, none⟩ = some u := by
  obtain ⟨ao', cap', hv, _, _, _, h4⟩ := h
  simp only [Value.slice.injEq] at hv
  obtain ⟨rfl, _, _⟩ := hv
  rcases h4 with rfl | ⟨b, off, ha, hb, hB, hc⟩
  · cases hi
  · exact ⟨b, off, ha, hb, hB, hc i r hi⟩
theorem recAt_nil (w : World) (B : Nat → Prop) (k : Nat) : RecAt w B k (.slice none 0 0) [] := ⟨none, 0, rfl, by simp, by simp [maxLen], fun _ => rfl, .inl rfl⟩

theorem flat_length {k : Nat} : ∀ {rows : List (List Value)}, (∀ r ∈ rows, r.length = k) → rows.flatten.length = rows.length * k
  | [], _ => by simp
  | r :: rs, h => by
    have h1 := flat_length (rows := rs) fun x hx => h x (by simp [hx])
    have h2 := h r (by simp)
    rw [List.flatten_cons, List.length_append, h1, h2, List.length_cons, Nat.add_mul]
    omega
theorem flat_get {k : Nat} : ∀ {rows : List (List Value)}, (∀ r ∈ rows, r.length = k) → ∀ {i : Nat} {r : List Value}, rows[i]? = some r → ∀ {j : Nat} {u : Value}, r[j]? = some u → rows.flatten[i * k + j]? = some u
  | [], _, i, r, hi, j, u, hu => by cases hi
  | x :: rs, h, i, r, hi, j, u, hu => by
    have hx := h x (by simp)
    rw [List.flatten_cons]
    cases i with
    | zero =>
      obtain rfl : x = r := by simpa using hi
      have hj : j < x.length := (List.getElem?_eq_some_iff.1 hu).1
      rw [Nat.zero_mul, Nat.zero_add, List.getElem?_append_left hj]
      exact hu
    | succ i =>
      have hi' : rs[i]? = some r := by simpa using hi
      have := flat_get (rows := rs) (fun y hy => h y (by simp [hy])) hi' hu
      rw [List.getElem?_append_right (by rw [hx, Nat.add_mul]; omega), hx]
      have e : (i + 1) * k + j - k = i * k + j := by rw [Nat.add_mul]; omega
      rw [e]
      exact this

/-- An owned row of records. -/
def RecOwn (w : World) (base : Nat) (e : TypeId) (k : Nat) (v : Value) (rows : List (List Value)) : Prop := (∀ r ∈ rows, r.length = k) ∧ w.ownsRow base e k v rows.length rows.flatten
theorem recOwn_nil (w : World) (base : Nat) (e : TypeId) (k : Nat) : RecOwn w base e k (.slice none 0 0) [] := ⟨by simp, World.ownsRow_nil w base e k⟩
theorem recOwn_empty (w : World) (base : Nat) (e : TypeId) (k : Nat) (hb : base ≤ w.heap.size) : RecOwn (w.alloc (.cells #[] e)) base e k (.slice (some ⟨w.heap.size, 0, none⟩) 0 0) [] :=
  ⟨by simp, World.ownsRow_lit w #[] 0 hb (by simp [maxLen]) (by simp)⟩
theorem RecOwn.at' {w : World} {base : Nat} {e : TypeId} {k : Nat} {v : Value} {rows : List (List Value)} (h : RecOwn w base e k v rows) : RecAt w (fun j => v.ownBlock = some j ∧ base ≤ j) k v rows := by
  have h0 := h.2
  rcases h.2.2 with ⟨rfl, hn⟩ | ⟨g, cap, cur, rfl, hb, hg, hnc, hm, hs, ht⟩
  · obtain rfl : rows = [] := List.length_eq_zero_iff.1 hn
    exact recAt_nil _ _ _
  · refine ⟨_, cap, rfl, hnc, hm, by simp, .inr ⟨g, 0, rfl, (Array.getElem?_eq_some_iff.1 hg).1, ⟨rfl, hb⟩, fun i r hi j u hu => ?_⟩⟩
    have := h0.cells (g := g) rfl (i * k + j) u (flat_get h.1 hi hu)
    rw [Addr.add_lit] at this
    simpa using this
theorem RecOwn.block {w : World} {base : Nat} {e : TypeId} {k : Nat} {v : Value} {rows : List (List Value)} (h : RecOwn w base e k v rows) {j : Nat} (hj : v.ownBlock = some j) : base ≤ j ∧ j < w.heap.size ∧ ∃ cs, w.heap[j]? = some (.cells cs e (0, 0)) := by
  rcases h.2.2 with ⟨rfl, _⟩ | ⟨g, cap, cur, rfl, hb, hg, _⟩
  · cases hj
  · cases hj; exact ⟨hb, (Array.getElem?_eq_some_iff.1 hg).1, _, hg⟩
theorem RecOwn.keep {w w' : World} {base : Nat} {e : TypeId} {k : Nat} {v : Value} {rows : List (List Value)} (h : RecOwn w base e k v rows) (hk : ∀ j, v.ownBlock = some j → w'.heap[j]? = w.heap[j]?) : RecOwn w' base e k v rows := by
  refine ⟨h.1, h.2.1, ?_⟩
  rcases h.2.2 with h2 | ⟨g, cap, cur, rfl, hb, hg, r⟩
  · exact .inl h2
  · exact .inr ⟨g, cap, cur, rfl, hb, (hk g rfl).trans hg, r⟩
theorem RecOwn.mono {w : World} {base base' : Nat} {e : TypeId} {k : Nat} {v : Value} {rows : List (List Value)} (h : RecOwn w base e k v rows) (hb : base' ≤ base) : RecOwn w base' e k v rows := by
  refine ⟨h.1, h.2.1, ?_⟩
  rcases h.2.2 with h2 | ⟨g, cap, cur, h3, h4, r⟩
  · exact .inl h2
  · exact .inr ⟨g, cap, cur, h3, Nat.le_trans hb h4, r⟩
theorem RecOwn.val {w : World} {base : Nat} {e : TypeId} {k : Nat} {v : Value} {rows : List (List Value)} (h : RecOwn w base e k v rows) : ∃ ao cap, v = .slice ao rows.length cap ∧ rows.length ≤ cap ∧ cap ≤ maxLen ∧ (ao = none → cap = 0) := h.at'.val

/-- A record that lies in a block of its own. -/
theorem rec_cell (W : World) (r : List Value) (e : TypeId) : ∀ j u, r[j]? = some u → (W.alloc (.cells r.toArray e)).cell? ((⟨W.heap.size, 0, none⟩ : Addr).add j) = some u := by
  intro j u hu
  rw [Addr.add_lit, Nat.zero_add, World.cell?_alloc_mark]
  simpa using hu

/-- A walk of an append of one record, onto a row that the call owns. -/
theorem wpList_appRec {P : Program} (w : World) {ops : Array Oper} {rest : List Oper} {o : Oper} {a : Act} {Q : Exit → Act → World → Prop} (hgd : o.guard = none) (s x : Operand) (t : TypeId)
    (ho : o.op = .call { callee := .builtin .append, args := #[s, x], argTypes := #[t, t] })
    (base : Nat) (e : TypeId) (z : Value) (k bytes : Nat) (ht : P.underlying t = some (.slice e)) (hinfo : (P.info? e).map (fun i => (i.zero, i.size, i.bytes)) = some (some z, k, bytes)) (hzs : z.cells.size = k) (hk0 : 0 < k)
    (v : Value) (rows : List (List Value)) (hs : a.eval s = v) (hown : RecOwn w base e k v rows)
    (r : List Value) (hr : r.length = k) (h1c : ∀ u ∈ r, u.oneCell' = true) (ad : Addr) (hx : a.eval x = .slice (some ad) 1 1) (hcell : ∀ j u, r[j]? = some u → w.cell? (ad.add j) = some u)
    (hlen : rows.length + 1 ≤ maxLen) (hbytes : (rows.length + 1) * bytes ≤ 140737488355328) (hbase : base ≤ w.heap.size)
    (h : ∀ v' w', RecOwn w' base e k v' (rows ++ [r]) → w.grownBy w' v.ownBlock → (v'.ownBlock = v.ownBlock ∨ v'.ownBlock = some w.heap.size) → wpList P ops Q rest (a.put o.dst v') w') : wpList P ops Q (o :: rest) a w := by
  obtain ⟨i, hi, hz, hsz, hby⟩ := info_parts hinfo
  refine wpList_append_own_at w hgd s x t ho base e i z k bytes ht hi hz hsz hby hzs hk0 v rows.length rows.flatten hs hown.2 ad 1 1 r hx (by rw [hr]; omega) hcell h1c hlen hbytes hbase ?_
  intro v' w' hown' hg _ hloc
  refine h v' w' ⟨?_, ?_⟩ hg hloc
  · intro y hy
    rcases List.mem_append.1 hy with hy | hy
    · exact hown.1 y hy
    · obtain rfl : y = r := by simpa using hy
      exact hr
  · rw [List.length_append, List.flatten_append]
    simpa using hown'

end Go.Proofs.YtgnalcobcdgnkaaGreatDoor
