/- The contract of package frame's leading. -/
import Derived.Test.YtnhffeppbliabaaFrA
namespace Go.Proofs.Ytnhffeppbliabaa
open Go.RowKit

theorem Try.info22 : (Try.prog.info? 29).map (fun i => (i.zero, i.size, i.bytes)) = some (some (.slice none 0 0), 1, 24) := by kernel_rfl

/-- What the program's leading answers. -/
def Leading (b : List Nat) (w : World) (e : Ending) (w' : World) : Prop :=
  ∃ (v' : Value) (ls : List (List Nat)) (k c : Nat), e = .returned (.tuple #[v', .int .i64 (k : Int), errV c]) ∧ Led b ls k c ∧ Txs w' (fun j => w.heap.size ≤ j) v' ls ∧ Below w.heap.size w w'

theorem kept_maker {w w' : World} {p base : Nat} (hp : p < base) (hg : w.grownBy w' (some p)) (e : TypeId) : Kept (Own w base e) w w' :=
  (kept_row hg).mono fun j _ hB => by intro h; have := Option.some.inj h; have := hB.1; omega

theorem owned_maker {w w' : World} {p base : Nat} {e : TypeId} {v : Value} {n : Nat} {us : List Value} (h : w.ownsRow base e 1 v n us) (hp : p < base) (hg : w.grownBy w' (some p)) : w'.ownsRow base e 1 v n us := by
  refine h.kept hg ?_
  cases hv : v.ownBlock with
  | none => exact .inl rfl
  | some j => exact .inr fun he => by have := (h.lt j hv).1; have := Option.some.inj he; omega

theorem txs_owned {w : World} {base : Nat} {v : Value} {us : List Value} {ls : List (List Nat)} (h : w.ownsRow base 29 1 v us.length us) (hl : us.length = ls.length)
    (hs : ∀ i, i < ls.length → At w (Own w base 5) .u8 (us.getD i .nilIface) (ls.getD i [])) : Txs w (fun j => base ≤ j) v ls := by
  refine ⟨us, hl, (owned_row h).mono fun _ _ hB => hB.1, fun u hu => ?_, fun i hi => (hs i hi).mono fun _ _ hB => hB.1⟩
  obtain ⟨i, hi, rfl⟩ := List.getElem_of_mem hu
  have := (hs i (by omega)).oneCell
  rwa [List.getD_eq_getElem?_getD, List.getElem?_eq_getElem hi] at this

theorem txs_snoc {w : World} {base : Nat} {u : Value} {us : List Value} {ls : List (List Nat)} {t : List Nat} (hl : us.length = ls.length)
    (hs : ∀ i, i < ls.length → At w (Own w base 5) .u8 (us.getD i .nilIface) (ls.getD i [])) (hu : At w (Own w base 5) .u8 u t) :
    (us ++ [u]).length = (ls ++ [t]).length ∧ ∀ i, i < (ls ++ [t]).length → At w (Own w base 5) .u8 ((us ++ [u]).getD i .nilIface) ((ls ++ [t]).getD i []) := by
  refine ⟨by simp [hl], fun i hi => ?_⟩
  rw [List.length_append, List.length_singleton] at hi
  by_cases h : i < ls.length
  · rw [List.getD_eq_getElem?_getD, List.getD_eq_getElem?_getD, List.getElem?_append_left (by omega), List.getElem?_append_left h, ← List.getD_eq_getElem?_getD, ← List.getD_eq_getElem?_getD]
    exact hs i h
  · obtain rfl : i = ls.length := by omega
    rw [List.getD_eq_getElem?_getD, List.getD_eq_getElem?_getD, List.getElem?_append_right (by omega), List.getElem?_append_right (Nat.le_refl _), hl]
    simpa using hu

end Go.Proofs.Ytnhffeppbliabaa
