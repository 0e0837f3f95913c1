/- Package manifest: two parts compared; Same. · Package manifest: Same. -/
import Derived.Test.YtgnalcobcdgnkaaGreatDoorQe
import Derived.Test.YtgnalcobcdgnkaaGreatDoorQh
import Derived.Laws.StructEq
namespace Go.Proofs.YtgnalcobcdgnkaaGreatDoor
open Go.RowKit

/-- A load of a struct, wherever it lies. -/
theorem load_gives_at {P : Program} {S : World → Prop} {o : Oper} {a : Act} {w : World} (ty : TypeId) (x : Operand) (ho : o.op = .load ty x)
    (g off : Nat) (hx : a.eval x = .pointer (some ⟨g, off, none⟩)) (sub : List Value) (d : TypeDesc) (hc : ∀ j v, sub[j]? = some v → w.cell? ⟨g, off + j, none⟩ = some v)
    (hu : P.underlying ty = some d) (hd : (match d with | .struct _ | .array _ _ => true | _ => false) = true) (hi : (P.info? ty).map (·.size) = some sub.length) (hS : S w) :
    Gives P S (.agg sub.toArray) ((execOp a.eval o).run P w) := by
  have : (execOp a.eval o).run P w = .ok (.value (.agg sub.toArray)) w := by
    unfold execOp
    simp only [ho, hx, Instr.loadAt, Instr.sureAddr, Sem.run_bind, Sem.run_pure, Result.andThen_ok, run_loadVar_at w g off ty sub d hc hu hd hi]
  rw [this]
  exact .value hS
theorem exec_eqsM {P : Program} {o : Oper} {a : Act} {w : World} {op : BinOp} {t t' : TypeId} {x y : Operand} {xs ys : Array Value} {v : Value} (ho : o.op = .binOp op t x y t') (hx : a.eval x = .agg xs) (hy : a.eval y = .agg ys)
    (hm : P.eqGuardType P.depth t = false) (h : (binOp op t (.agg xs) (.agg ys)).run P w = .ok v w) : (execOp a.eval o).run P w = .ok (.value v) w := by
  unfold execOp
  simp only [ho, hx, hy]
  simp only [Sem.run_bind, run_eqGuard_agg w op t x y xs ys hm, Result.andThen_ok, h, Sem.run_pure]
end Go.Proofs.YtgnalcobcdgnkaaGreatDoor

namespace Go.Proofs.YtgnalcobcdgnkaaGreatDoor
open Go.RowKit

end Go.Proofs.YtgnalcobcdgnkaaGreatDoor
