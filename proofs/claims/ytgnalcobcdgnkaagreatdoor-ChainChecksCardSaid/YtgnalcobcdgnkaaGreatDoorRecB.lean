/- Slices of records: an append of a whole row of them. Nothing of the program. -/
import Derived.Test.YtgnalcobcdgnkaaGreatDoorQj
import Derived.Deep.Upon
namespace Go.Proofs.YtgnalcobcdgnkaaGreatDoor
open Go.RowKit

theorem flat_inv {k : Nat} (hk : 0 < k) : ∀ {rows : List (List Value)}, (∀ r ∈ rows, r.length = k) → ∀ {j : Nat} {u : Value}, rows.flatten[j]? = some u → ∃ i r j', j = i * k + j' ∧ rows[i]? = some r ∧ r[j']? = some u
  | [], _, j, u, hu => by simp at hu
  | x :: rs, h, j, u, hu => by
    have hx := h x (by simp)
    rw [List.flatten_cons] at hu
    by_cases hj : j < x.length
    · rw [List.getElem?_append_left hj] at hu
      exact ⟨0, x, j, by omega, rfl, hu⟩
    · rw [List.getElem?_append_right (by omega)] at hu
      obtain ⟨i, r, j', e, h1, h2⟩ := flat_inv hk (rows := rs) (fun y hy => h y (by simp [hy])) hu
      refine ⟨i + 1, r, j', ?_, by simpa using h1, h2⟩
      rw [Nat.add_mul]
      omega

theorem append_rows {P : Program} {w : World} {B : Nat → Prop} (t ty : TypeId) {base : Nat} {e : TypeId} {z : Value} {k bytes : Nat} (ht : P.underlying t = some (.slice e)) (hinfo : (P.info? e).map (fun i => (i.zero, i.size, i.bytes)) = some (some z, k, bytes)) (hzs : z.cells.size = k) (hk0 : 0 < k)
    {v x : Value} {rows ys : List (List Value)} (hown : RecOwn w base e k v rows) (hx : RecAt w B k x ys) (hyk : ∀ r ∈ ys, r.length = k) (h1c : ∀ r ∈ ys, ∀ u ∈ r, u.oneCell' = true)
    (hlen : rows.length + ys.length ≤ maxLen) (hbytes : (rows.length + ys.length) * bytes ≤ 140737488355328) (hbase : base ≤ w.heap.size) :
    ∃ v' w', (Builtin.append_ #[t, t] ty #[v, x]).run P w = .ok v' w' ∧ RecOwn w' base e k v' (rows ++ ys) ∧ w.grownBy w' v.ownBlock ∧ (v'.ownBlock = v.ownBlock ∨ v'.ownBlock = some w.heap.size) := by
  obtain ⟨i, hi, hz, hsz, hby⟩ := info_parts hinfo
  obtain ⟨ao, cap, rfl, h1, h2, h3, h4⟩ := hx
  cases ao with
  | none =>
    have hys : ys = [] := by
      have := h3 rfl
      rcases h4 with h4 | ⟨b, off, h, _⟩
      · exact h4
      · cases h
    subst hys
    obtain ⟨vo, vc, hv, hvc, _, _⟩ := hown.val
    refine ⟨v, w, ?_, by simpa using hown, ⟨rfl, rfl, rfl, Nat.le_refl _, fun _ _ _ => rfl⟩, .inl rfl⟩
    rw [hv]
    have hc0 := h3 rfl
    subst hc0
    exact run_append_nothing w t t ty e i ht hi vo rows.length vc hvc _ ⟨.inl ⟨e, ht⟩, fun w' => (by simp [Builtin.lenOf]), (by simp [Builtin.firstCells]), (by simp [Builtin.firstCells]), (by simp), (by simp)⟩
  | some a =>
    have hnews : ∀ j u, ys.flatten[j]? = some u → w.cell? (a.add j) = some u := fun j u hu => by
      obtain ⟨i', r, j', e1, hr, hu'⟩ := flat_inv hk0 hyk hu
      rcases h4 with h4 | ⟨b, off, ha, hb, _, hc⟩
      · subst h4; cases hr
      · cases ha
        rw [Addr.add_lit, e1, ← Nat.add_assoc]
        exact hc i' r hr j' u hu'
    obtain ⟨v', w', hr, ho, hg, _, hloc⟩ := run_append_own_at (P := P) w base t ty e i z k bytes ht hi hz hsz hby hzs hk0 v rows.length rows.flatten hown.2 a ys.length cap ys.flatten (flat_length hyk) hnews
      (fun u hu => by
        obtain ⟨r, hr, hur⟩ := List.mem_flatten.1 hu
        exact h1c r hr u hur) hlen hbytes hbase
    refine ⟨v', w', hr, ⟨?_, ?_⟩, hg, hloc⟩
    · intro y hy
      rcases List.mem_append.1 hy with hy | hy
      · exact hown.1 y hy
      · exact hyk y hy
    · rw [List.length_append, List.flatten_append]
      exact ho

theorem wpList_appRecs {P : Program} {w : World} {ops : Array Oper} {rest : List Oper} {o : Oper} {a : Act} {Q : Exit → Act → World → Prop} {B : Nat → Prop} (hgd : o.guard = none) (s x : Operand) (t : TypeId)
    (ho : o.op = .call { callee := .builtin .append, args := #[s, x], argTypes := #[t, t] })
    (base : Nat) (e : TypeId) (z : Value) (k bytes : Nat) (ht : P.underlying t = some (.slice e)) (hinfo : (P.info? e).map (fun i => (i.zero, i.size, i.bytes)) = some (some z, k, bytes)) (hzs : z.cells.size = k) (hk0 : 0 < k)
    (v xv : Value) (rows ys : List (List Value)) (hs : a.eval s = v) (hx : a.eval x = xv) (hown : RecOwn w base e k v rows) (hat : RecAt w B k xv ys) (hyk : ∀ r ∈ ys, r.length = k) (h1c : ∀ r ∈ ys, ∀ u ∈ r, u.oneCell' = true)
    (hlen : rows.length + ys.length ≤ maxLen) (hbytes : (rows.length + ys.length) * bytes ≤ 140737488355328) (hbase : base ≤ w.heap.size)
    (h : ∀ v' w', RecOwn w' base e k v' (rows ++ ys) → w.grownBy w' v.ownBlock → wpList P ops Q rest (a.put o.dst v') w') :
    wpList P ops Q (o :: rest) a w := by
  refine wpList_plain hgd fun K hK => ?_
  obtain ⟨v', w', hr, h2, h3, _⟩ := append_rows (P := P) t o.type ht hinfo hzs hk0 hown hat hyk h1c hlen hbytes hbase
  unfold Oper.wp execOp
  simp only [ho, resolve, invoke, builtin, Sem.run_bind, Sem.run_pure, Result.andThen_ok, List.map_toArray, List.map_cons, List.map_nil, hs, hx, hr]
  exact hK _ _ (h v' w' h2 h3)

end Go.Proofs.YtgnalcobcdgnkaaGreatDoor
