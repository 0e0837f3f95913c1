/- Law 08: a unit that is driven by acts. -/
import Derived.Test.YtnhffeppbliabaaUvD
import Derived.Test.YtnhffeppbliabaaUvE
import Derived.Test.YtnhffeppbliabaaUvF
namespace Go.Proofs.Ytnhffeppbliabaa
open Go.RowKit

/-- A unit that was made behind w and driven since; all that was in w is as it was. -/
structure Dru (w W : World) (u m : Nat) (U : US) : Prop where
  un : ∃ B, Un W B u m U
  fr : Fr (fun j => j = u ∨ j = m) w W
  ul : w.heap.size ≤ u
  ml : w.heap.size ≤ m
section
variable {w W W' : World} {u m : Nat} {U U' : US} {B : Nat → Prop}
theorem Dru.below (h : Dru w W u m U) : Below w.heap.size w W := h.fr.below (Nat.le_refl _) fun j hj hS => by have := h.ul; have := h.ml; omega
theorem Dru.old (h : Dru w W u m U) (hb : Below W.heap.size W W') : Dru w W' u m U := by
  obtain ⟨B, hu⟩ := h.un
  exact ⟨⟨B, hu.old hb⟩, h.fr.trans (fr_below hb fun _ => False) (fun _ _ h => h) (fun _ _ h => h.elim), h.ul, h.ml⟩
theorem Dru.post (h : Dru w W u m U) (hp : UPost W B u m U' W') : Dru w W' u m U' := ⟨⟨_, hp.1⟩, h.fr.trans hp.2 (fun _ _ h => h) (fun _ _ h => h), h.ul, h.ml⟩
theorem Dru.ok (h : Dru w W u m U) : UOk U := by obtain ⟨B, hu⟩ := h.un; exact hu.ok
theorem dru_new (hb : Below w.heap.size w W) (hu : Un W B u m U) (hul : w.heap.size ≤ u) (hml : w.heap.size ≤ m) : Dru w W u m U := ⟨⟨B, hu⟩, fr_below hb _, hul, hml⟩
theorem doc_unew (w : World) (B : Nat → Prop) : DocU w B (.slice none 0 0) unew := recAt_nil _ _ _

/-- One act on a driven unit, and the document's empty one. -/
theorem Dru.do (h : Dru w W u m U) {a : UA} {bv : Value} (ha : UAAt W (fun j => j < w.heap.size) a bv) (hl : a.data.length ≤ 300) :
    Calls Try.prog 10 #[.pointer (some ⟨u, 0, none⟩), .agg #[.int .i64 0, .int .i64 0, .slice none 0 0], .agg #[.int .i64 a.kind, .int .i64 a.epoch, .int .i64 a.addr, bv]] W fun e w' => ∃ dv b, e = .returned (.tuple #[dv, .bool b]) ∧ Dru w w' u m (ustep U a) := by
  obtain ⟨B, hu⟩ := h.un
  have := doU_any (BD := fun _ => False) (M := unew) hu (doc_unew W _) unew_ok id id ha.addr ha.data (by have := h.ul; omega) (by have := h.ml; omega) ha.byte hl
  exact this.mono fun e w' ⟨lv, b, he, _, hp, _⟩ => ⟨_, _, he, h.post hp⟩
end
end Go.Proofs.Ytnhffeppbliabaa
