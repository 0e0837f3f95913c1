/- The walk of the statement on turned bits: the loop that turns them. -/
import Derived.Test.YtlnmbgaicdlnmaaCrcQ
import Derived.Laws.CopyOwn
namespace Go.Proofs.Ytlnmbgaicdlnmaa
open Go.RowKit

/-- What is owned and not empty lies in a block. -/
theorem Owns.blocked {w : World} {base : Nat} {e : TypeId} {k : IntKind} {v : Value} {l : List Nat} (h : Owns w base e k v l) (h0 : l.length ≠ 0) : ∃ g cap, v = .slice (some ⟨g, 0, none⟩) l.length cap ∧ base ≤ g ∧ l.length ≤ cap ∧ cap ≤ maxLen := by
  rcases h.2 with ⟨_, h2⟩ | ⟨g, cap, cur, h1, h2, _, h3, h4, _⟩
  · exact absurd h2 h0
  · exact ⟨g, cap, h1, h2, h3, h4⟩

theorem vals_set (k : IntKind) (l : List Nat) (i y : Nat) : (vals k l).set i (.int k (y : Int)) = vals k (l.set i y) := by simp [vals, List.map_set]

/-- A store into what is owned. -/
theorem Owns.set {w : World} {base : Nat} {e : TypeId} {k : IntKind} {g n cap : Nat} {l : List Nat} (h : Owns w base e k (.slice (some ⟨g, 0, none⟩) n cap) l) (hn : n = l.length) (i y : Nat) :
    Owns (w.setCell ⟨g, i, none⟩ (.int k (y : Int))) base e k (.slice (some ⟨g, 0, none⟩) n cap) (l.set i y) := by
  subst hn
  have h2 := (World.ownsRow.stored h i (.int k (y : Int))).1
  unfold Owns
  rw [← vals_set, List.length_set]
  exact h2

theorem Owns.cell {w : World} {base : Nat} {e : TypeId} {k : IntKind} {g n cap : Nat} {l : List Nat} (h : Owns w base e k (.slice (some ⟨g, 0, none⟩) n cap) l) (hn : n = l.length) {i : Nat} (hi : i < l.length) : w.cell? ⟨g, i, none⟩ = some (.int k ((l.getD i 0 : Nat) : Int)) := by
  subst hn
  exact (World.ownsRow.cellAt h i (by omega)).trans (vals_get k l i hi)

theorem Owns.free {w : World} {base : Nat} {e : TypeId} {k : IntKind} {g n cap : Nat} {l : List Nat} (h : Owns w base e k (.slice (some ⟨g, 0, none⟩) n cap) l) (hn : n = l.length) (i : Nat) : w.frozen? ⟨g, i, none⟩ = false := by
  subst hn
  exact World.ownsRow.frozenAt h i

/-- Numbers laid over the head of what is owned. -/
theorem owns_copied {w' : World} {base : Nat} {e : TypeId} {k : IntKind} {g m cap : Nat} {cur : Array Value} {a c l : List Nat} (hgb : base ≤ g) (hnc : m ≤ cap) (hcm : cap ≤ maxLen) (hsz : cur.size = cap * 1)
    (htk : List.take (m * 1) cur.toList = vals k (a ++ c)) (hm : m = (a ++ c).length) (hl : l.length = a.length) (hh : w'.heap[g]? = some (.cells (splice cur.toList 0 (vals k l)).toArray e (0, 0))) :
    Owns w' base e k (.slice (some ⟨g, 0, none⟩) m cap) (l ++ c) := by
  have hlen : (l ++ c).length = m := by rw [hm, List.length_append, List.length_append, hl]
  unfold Owns
  rw [hlen]
  have hcl : (vals k l).length ≤ cur.toList.length := by
    have h1 := vals_length k l
    have h2 : cur.toList.length = cur.size := by simp
    have h3 : a.length ≤ m := by rw [hm, List.length_append]; omega
    omega
  refine ⟨by rw [vals_length, hlen]; omega, .inr ⟨g, cap, _, rfl, hgb, hh, hnc, hcm, ?_, ?_⟩⟩
  · rw [List.size_toArray, length_splice _ _ _ (by omega), Array.length_toList, hsz]
  · show List.take (m * 1) (splice cur.toList 0 (vals k l)) = _
    have e0 : splice cur.toList 0 (vals k l) = vals k l ++ cur.toList.drop l.length := by simp [splice, vals_length]
    have e1 : (cur.toList.drop l.length).take c.length = vals k c := by
      have h2 := congrArg (List.drop l.length) htk
      rw [vals_append, List.drop_left' (by rw [vals_length, hl]), List.drop_take] at h2
      rw [← h2]
      congr 1
      rw [hm, List.length_append, hl]
      omega
    have h4 : m * 1 - (vals k l).length = c.length := by rw [vals_length, ← hlen, List.length_append]; omega
    rw [e0, vals_append, List.take_append, h4, e1, List.take_of_length_le (by rw [vals_length, ← hlen, List.length_append]; omega)]

end Go.Proofs.Ytlnmbgaicdlnmaa
