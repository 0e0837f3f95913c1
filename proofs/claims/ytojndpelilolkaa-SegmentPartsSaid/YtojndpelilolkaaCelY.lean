/- The document's answers on cells are those of the mathematics; a byte of one's own is written. -/
import Derived.Test.YtojndpelilolkaaCelL
namespace Go.Proofs.Ytojndpelilolkaa
open Go.RowKit

theorem S8_beq {a b : List Nat} (ha : ∀ x ∈ a, x < 256) (hb : ∀ x ∈ b, x < 256) : ((S8 a).toList == (S8 b).toList) = decide (a = b) := str_beq ha hb

theorem mayI_eq (k1 k2 : Int) (d1 d2 : List Nat) (h1 : ∀ x ∈ d1, x < 256) (h2 : ∀ x ∈ d2, x < 256) : mayI k1 (S8 d1) k2 (S8 d2) = mayC k1 d1 k2 d2 := by
  unfold mayI mayC
  rw [S8_size, S8_size, S8_beq h1 h2]
  by_cases c1 : chk k1 d1.length = 0
  · by_cases c2 : chk k2 d2.length = 0
    · rw [if_neg (by simpa using c1), if_neg (by simpa using c2), if_neg (by simpa using c1), if_neg (by simpa using c2)]
      rw [Bool.eq_iff_iff]
      simp only [Bool.or_eq_true, Bool.and_eq_true, beq_iff_eq, decide_eq_true_eq, same_iff]
      obtain ⟨a1, a2, _, _⟩ := chk_zero c1
      constructor
      · rintro ((⟨h, g⟩ | h) | ⟨h, g⟩)
        · exact .inr ⟨h, g⟩
        · exact .inl (.inl h)
        · exact .inl (.inr g)
      · rintro ((h | h) | ⟨h, g⟩)
        · exact .inl (.inr h)
        · by_cases h3 : k1 = 3
          · exact .inl (.inl ⟨by omega, by rw [chk_none c1 (by omega), chk_none c2 (by omega)]⟩)
          · by_cases h0 : k1 = 0
            · exact .inl (.inr h0)
            · exact .inr ⟨by omega, h⟩
        · exact .inl (.inl ⟨h, g⟩)
    · rw [if_neg (by simpa using c1), if_pos c2, if_neg (by simpa using c1), if_pos c2]
  · rw [if_pos c1, if_pos c1]

theorem neq_cells (k1 k2 : Int) (d1 d2 : List Nat) (h1 : ∀ x ∈ d1, x < 256) (h2 : ∀ x ∈ d2, x < 256) (w : World) :
    (binOp .neq 45 (.agg #[.int .i64 k1, .string (S8 d1)]) (.agg #[.int .i64 k2, .string (S8 d2)])).run Try.prog w = .ok (.bool (!sameC k1 d1 k2 d2)) w := by
  have h := eql_cells k1 k2 (S8 d1) (S8 d2) w
  rw [S8_beq h1 h2] at h
  rw [run_eql_struct] at h
  rw [run_neq_struct]
  generalize (Op.equalIn 10000 45 (.agg #[.int .i64 k1, .string (S8 d1)]) (.agg #[.int .i64 k2, .string (S8 d2)])).run Try.prog w = r at h ⊢
  cases r with
  | ok b w' =>
    simp only [Result.andThen] at h ⊢
    cases h
    rfl
  | halt x w' => cases h
/-- Two structs compared, as an operation. -/
theorem exec_eqs {P : Program} {o : Oper} {a : Act} {w : World} {op : BinOp} {t t' : TypeId} {x y : Operand} {xs ys : Array Value} {v : Value} (ho : o.op = .binOp op t x y t') (hx : a.eval x = .agg xs) (hy : a.eval y = .agg ys)
    (hm : P.eqGuardType P.depth t = false) (h : (binOp op t (.agg xs) (.agg ys)).run P w = .ok v w) : (execOp a.eval o).run P w = .ok (.value v) w := by
  unfold execOp
  simp only [ho, hx, hy]
  simp only [Sem.run_bind, run_eqGuard_agg w op t x y xs ys hm, Result.andThen_ok, h, Sem.run_pure]

theorem eql_cellsC (k1 k2 : Int) (d1 d2 : List Nat) (h1 : ∀ x ∈ d1, x < 256) (h2 : ∀ x ∈ d2, x < 256) (w : World) :
    (binOp .eql 45 (.agg #[.int .i64 k1, .string (S8 d1)]) (.agg #[.int .i64 k2, .string (S8 d2)])).run Try.prog w = .ok (.bool (sameC k1 d1 k2 d2)) w := by
  rw [eql_cells, S8_beq h1 h2]
  rfl

theorem vals_setY (k : IntKind) (l : List Nat) (i y : Nat) : (vals k l).set i (.int k (y : Int)) = vals k (l.set i y) := by
  unfold vals
  rw [List.map_set]
theorem Owns.setY {w : World} {base : Nat} {e : TypeId} {k : IntKind} {g n cap : Nat} {l : List Nat} (h : Owns w base e k (.slice (some ⟨g, 0, none⟩) n cap) l) (hn : n = l.length) (i y : Nat) :
    Owns (w.setCell ⟨g, i, none⟩ (.int k (y : Int))) base e k (.slice (some ⟨g, 0, none⟩) n cap) (l.set i y) := by
  subst hn
  have h2 := (World.ownsRow.stored h i (.int k (y : Int))).1
  unfold Owns
  rw [← vals_setY, List.length_set]
  exact h2
theorem Owns.cellY {w : World} {base : Nat} {e : TypeId} {k : IntKind} {g n cap : Nat} {l : List Nat} (h : Owns w base e k (.slice (some ⟨g, 0, none⟩) n cap) l) (hn : n = l.length) {i : Nat} (hi : i < l.length) : w.cell? ⟨g, i, none⟩ = some (.int k ((l.getD i 0 : Nat) : Int)) := by
  subst hn
  exact (World.ownsRow.cellAt h i (by omega)).trans (vals_get k l i hi)
theorem Owns.freeY {w : World} {base : Nat} {e : TypeId} {k : IntKind} {g n cap : Nat} {l : List Nat} (h : Owns w base e k (.slice (some ⟨g, 0, none⟩) n cap) l) (hn : n = l.length) (i : Nat) : w.frozen? ⟨g, i, none⟩ = false := by
  subst hn
  exact World.ownsRow.frozenAt h i

end Go.Proofs.Ytojndpelilolkaa
