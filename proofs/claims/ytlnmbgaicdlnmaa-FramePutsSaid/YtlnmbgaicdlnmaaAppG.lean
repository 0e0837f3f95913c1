/- An append of what reads onto what is owned, where the operation stands under a guard that lets it by. -/
import Derived.Test.YtlnmbgaicdlnmaaBase
import Derived.Laws.Rows
import Derived.Laws.AppendOwnNone
namespace Go.Proofs.Ytlnmbgaicdlnmaa
open Go.RowKit

theorem wpList_appG {P : Program} (w : World) {ops : Array Oper} {rest : List Oper} {o : Oper} {a : Act} {Q : Exit → Act → World → Prop} (hw : Region.wanted o (yielded ops a.tmps) = true) (s x : Operand) (t : TypeId)
    (ho : o.op = .call { callee := .builtin .append, args := #[s, x], argTypes := #[t, t] })
    (base : Nat) (e : TypeId) (z : Value) (bytes : Nat) (ht : P.underlying t = some (.slice e)) (hinfo : (P.info? e).map (fun i => (i.zero, i.size, i.bytes)) = some (some z, 1, bytes)) (hzs : z.cells.size = 1)
    (k : IntKind) (v : Value) (xs : List Nat) (hs : a.eval s = v) (hown : Owns w base e k v xs)
    (sv : Value) (l : List Nat) (hx : a.eval x = sv) (hr : Reads w k sv l)
    (hb0 : 0 < bytes) (hbytes : (xs.length + l.length) * bytes ≤ 140737488355328) (hbase : base ≤ w.heap.size)
    (h : ∀ v' w', Owns w' base e k v' (xs ++ l) → w.grownBy w' v.ownBlock → wpList P ops Q rest (a.put o.dst v') w') : wpList P ops Q (o :: rest) a w := by
  refine wpList_step fun K hK => ?_
  rw [if_pos hw]
  obtain ⟨i, hi, hz, hsz, hby⟩ := info_parts hinfo
  have h63 : xs.length + l.length ≤ 140737488355328 := Nat.le_trans (Nat.le_mul_of_pos_right _ hb0) hbytes
  obtain ⟨ao, cap, rfl, h1, h2, h3, h4⟩ := hr
  cases ao with
  | none =>
    have hl : l = [] := by
      have := h3 rfl
      exact List.length_eq_zero_iff.1 (by omega)
    subst hl
    have hc := h3 rfl
    subst hc
    have hrun := run_append_owned_none (P := P) (w := w) base t o.type e i 1 ht hi v xs.length (vals k xs) hown
    have hKK := hK _ _ (h v w (by simpa using hown) (World.grownBy.refl _ _))
    have hx' : a.eval x = .slice none 0 0 := hx
    unfold Oper.wp
    simp [execOp, ho, resolve, invoke, builtin, hs, hx', hrun, Result.andThen]
    exact hKK
  | some ad =>
    refine wp_append_own w s x t ho base e i z 1 bytes ht hi hz hsz hby hzs (by decide) v xs.length (vals k xs) hs hown ad l.length cap (vals k l) hx (by simp [vals_length]) ?_ (vals_oneCell k l) (by simp only [maxLen]; omega) hbytes hbase ?_
    · intro j u hu
      have hj : j < l.length := by
        have := (List.getElem?_eq_some_iff.1 hu).1
        simpa [vals_length] using this
      rcases h4 with rfl | ⟨b, off, ha, _, hc⟩
      · simp at hj
      · obtain rfl := Option.some.inj ha
        rw [vals_get k l j hj] at hu
        rw [Addr.add_lit, hc j hj]
        exact hu
    · intro v' w' hown' hg _
      exact hK _ _ (h v' w' (by unfold Owns; simpa [vals_append] using hown') hg)

end Go.Proofs.Ytlnmbgaicdlnmaa
