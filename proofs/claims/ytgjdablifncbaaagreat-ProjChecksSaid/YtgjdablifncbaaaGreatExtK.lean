/- What single operations do, told once. -/
import Derived.Test.YtgjdablifncbaaaGreatExtJ
namespace Go.Proofs.YtgjdablifncbaaaGreat
open Go.RowKit

section
variable {P : Program}
theorem exec_move {ρ : Operand → Value} {o : Oper} {x : Operand} {v : Value} {w : World} (h : o.op = .move x) (hv : ρ x = v) : (execOp ρ o).run P w = .ok (.value v) w := by
  subst hv
  unfold execOp
  simp only [h]
  rfl
theorem eval_on {T : Array Value} {D : List Deferred} {S : List Nat} {f : Nat → Value} {k : Nat} {v : Value} (hk : S.contains k = true) (hl : k < T.size) (hv : f k = v) : (⟨updF T S f, D⟩ : Act).eval (.tmp k) = v := (updF_on hk hl).trans hv
theorem eval_off {T : Array Value} {D : List Deferred} {S : List Nat} {f : Nat → Value} {k : Nat} {v : Value} (hk : S.contains k = false) (hv : T.getD k undef = v) : (⟨updF T S f, D⟩ : Act).eval (.tmp k) = v := (updF_off hk).trans hv
theorem exec_call1 {ρ : Operand → Value} {o : Oper} {f : Nat} {x : Operand} {t : TypeId} {v : Value} {w : World} (h : o.op = .call { callee := .value (.func f), args := #[x], argTypes := #[t] }) (hf : ρ (.func f) = .func (.func f) #[] #[]) (hv : ρ x = v)
    (hent : ∀ (args : Array Value) (w : World), (callFunc f args).run P w = .ok (.enter f args) w) : (execOp ρ o).run P w = .ok (.enter f #[v]) w := by
  subst hv
  unfold execOp
  simp only [h]
  go_simp
theorem exec_load_row {ρ : Operand → Value} {o : Oper} {w : World} {ty : TypeId} {x : Operand} {g : Nat} {t : TypeId} {cs : Array Value} {fr : Nat × Nat} {d : TypeDesc} (h : o.op = .load ty x) (hx : ρ x = .pointer (some ⟨g, 0, none⟩)) (hg : w.heap[g]? = some (.cells cs t fr))
    (hu : P.underlying ty = some d) (hd : (match d with | .struct _ | .array _ _ => true | _ => false) = true) (hi : (P.info? ty).map (·.size) = some cs.size) : (execOp ρ o).run P w = .ok (.value (.agg cs)) w := by
  unfold execOp
  simp only [h, hx, Instr.loadAt, Instr.sureAddr, Sem.run_bind, Sem.run_pure, Result.andThen_ok, run_loadVar_row w g t ty cs fr d hg hu hd hi]
end

end Go.Proofs.YtgjdablifncbaaaGreat
