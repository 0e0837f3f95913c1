/- The contracts of the document's own cells: Check, May, Bytes, common. -/
import Derived.Test.YtnhffeppbliabaaAtA
import Derived.Test.YtnhffeppbliabaaCelM
import Derived.Test.YtnhffeppbliabaaRrD
import Derived.Test.YtnhffeppbliabaaByteA
import Derived.Laws.StructEq
namespace Go.Proofs.Ytnhffeppbliabaa
open Go.RowKit

/-- Bytes as a string. -/
def S8 (l : List Nat) : ByteArray := strOfNums (l.map (fun n : Nat => (n : Int)))
theorem S8_size (l : List Nat) : (S8 l).size = l.length := by unfold S8; rw [strOfNums_size, List.length_map]

/-- A cell's error by its number. -/
def chk (k : Int) (n : Nat) : Nat := if k < 0 ∨ 3 < k then 1 else if 64 < n then 3 else if k ≠ 1 ∧ 0 < n then 2 else 0

set_option maxHeartbeats 400000 in
set_option maxRecDepth 100000 in
theorem refCheck_any (k : Int) (s : ByteArray) (w : World) :
    Calls Try.prog 53 #[.agg #[.int .i64 k, .string s]] w fun e w' => e = .returned (.int .i64 (chk k s.size : Nat)) ∧ Below w.heap.size w w' := by
  unfold chk
  by_cases h1 : k < 0
  · rw [if_pos (.inl h1)]
    go_enter Try.func53, Try.ntmps53
    go_wp2
    go_ret
    exact ⟨rfl, (Below.refl _ _).alloc (Nat.le_refl _) _⟩
  by_cases h2 : 3 < k
  · rw [if_pos (.inr h2)]
    go_enter Try.func53, Try.ntmps53
    go_wp2
    go_ret
    exact ⟨rfl, (Below.refl _ _).alloc (Nat.le_refl _) _⟩
  rw [if_neg (by omega)]
  by_cases h3 : (64 : Int) < (s.size : Int)
  · rw [if_pos (by omega)]
    go_enter Try.func53, Try.ntmps53
    go_wp2
    go_ret
    exact ⟨rfl, (Below.refl _ _).alloc (Nat.le_refl _) _⟩
  rw [if_neg (by omega)]
  by_cases h4 : (k != 1) = true
  · have hk : k ≠ 1 := by simpa using h4
    by_cases h5 : (0 : Int) < (s.size : Int)
    · rw [if_pos ⟨hk, by omega⟩]
      go_enter Try.func53, Try.ntmps53
      go_wp2
      go_ret
      exact ⟨rfl, (Below.refl _ _).alloc (Nat.le_refl _) _⟩
    · rw [if_neg (by omega)]
      go_enter Try.func53, Try.ntmps53
      go_wp2
      go_ret
      exact ⟨rfl, (Below.refl _ _).alloc (Nat.le_refl _) _⟩
  · have hk : k = 1 := by simpa using h4
    rw [if_neg (by omega)]
    subst hk
    go_enter Try.func53, Try.ntmps53
    go_wp2
    go_ret
    exact ⟨rfl, (Below.refl _ _).alloc (Nat.le_refl _) _⟩

/-- May one become another? -/
def mayI (k1 : Int) (s1 : ByteArray) (k2 : Int) (s2 : ByteArray) : Bool :=
  if chk k1 s1.size ≠ 0 then false else if chk k2 s2.size ≠ 0 then false else (k1 == k2 && s1.toList == s2.toList) || k1 == 0 || ((k1 == 1 || k1 == 2) && k2 == 3)

set_option maxRecDepth 100000 in
theorem eql_cells (k1 k2 : Int) (s1 s2 : ByteArray) (w : World) :
    (binOp .eql 82 (.agg #[.int .i64 k1, .string s1]) (.agg #[.int .i64 k2, .string s2])).run Try.prog w = .ok (.bool (k1 == k2 && s1.toList == s2.toList)) w := by
  have ht : Try.prog.underlying 82 = some (.struct (Try.prog.fieldsOf 82)) := by kernel_rfl
  have hp : Try.prog.stoodInHeld 82 = false := by kernel_rfl
  have h1 : Try.prog.underlying 3 = some (.int .i64) := Try.underlying3
  have h2 : Try.prog.underlying 9 = some .string := Try.underlying9
  obtain ⟨L, hL⟩ : ∃ L, L = (Try.prog.fieldsOf 82).toList := ⟨_, rfl⟩
  have hm : (L.map fun f => (f.name, f.type, f.offset)) = [("Kind", 3, 0), ("Data", 9, 1)] := by rw [hL]; kernel_rfl
  obtain ⟨f0, f1, hf, n0, hf0, g0, n1, hf1, g1⟩ : ∃ f0 f1, L = [f0, f1] ∧ f0.name = "Kind" ∧ f0.type = 3 ∧ f0.offset = 0 ∧ f1.name = "Data" ∧ f1.type = 9 ∧ f1.offset = 1 := by
    rcases L with _ | ⟨f0, _ | ⟨f1, _ | ⟨f2, r⟩⟩⟩
    · have := congrArg List.length hm; simp at this
    · have := congrArg List.length hm; simp at this
    · simp only [List.map_cons, List.map_nil, List.cons.injEq, Prod.mk.injEq, and_true] at hm
      exact ⟨f0, f1, rfl, hm.1.1, hm.1.2.1, hm.1.2.2, hm.2.1, hm.2.2.1, hm.2.2.2⟩
    · have := congrArg List.length hm
      simp at this
  rw [hL] at hf
  clear hm hL
  have hn0 : ¬ f0.name = "_" := by rw [n0]; decide
  have hn1 : ¬ f1.name = "_" := by rw [n1]; decide
  clear n0 n1
  rw [run_eql_struct, run_equalIn_agg _ _ _ _ _ ht hp, hf]
  go_simp
  by_cases e1 : k1 = k2
  · by_cases e2 : s1.toList = s2.toList
    · simp [e1, e2]
    · simp [e1, e2]
  · simp [e1]

end Go.Proofs.Ytnhffeppbliabaa
