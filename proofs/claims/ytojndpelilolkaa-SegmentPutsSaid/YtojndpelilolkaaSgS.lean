/- For SegmentPuts: cells whose kinds are raised; where an address lies. -/
import Derived.Test.YtojndpelilolkaaSgD
import Derived.Test.YtojndpelilolkaaSgQ
namespace Go.Proofs.Ytojndpelilolkaa
open Go.RowKit

/-- The first k cells' kinds are raised. -/
def bmpK : Nat → List IC → List IC
  | 0, cs => cs
  | k + 1, cs => (bmpK k cs).set k (wrap64 (((bmpK k cs).getD k (0, [])).1 + 1), ((bmpK k cs).getD k (0, [])).2)
theorem bmpK_length (k : Nat) (cs : List IC) : (bmpK k cs).length = cs.length := by
  induction k with
  | zero => rfl
  | succ k ih => rw [bmpK, List.length_set, ih]
theorem bmpK_after (k : Nat) (cs : List IC) (j : Nat) (h : k ≤ j) : (bmpK k cs).getD j (0, []) = cs.getD j (0, []) := by
  induction k with
  | zero => rfl
  | succ k ih =>
    rw [bmpK, List.getD_eq_getElem?_getD, List.getElem?_set_ne (by omega), ← List.getD_eq_getElem?_getD]
    exact ih (by omega)
theorem bmpK_first (k : Nat) (cs : List IC) (hk : 0 < k) (h0 : 0 < cs.length) : ((bmpK k cs).getD 0 (0, [])).1 = wrap64 ((cs.getD 0 (0, [])).1 + 1) := by
  induction k with
  | zero => omega
  | succ k ih =>
    by_cases h : k = 0
    · subst h
      rw [bmpK, List.getD_eq_getElem?_getD, List.getElem?_set_self (by rw [bmpK_length]; exact h0)]
      rfl
    · rw [bmpK, List.getD_eq_getElem?_getD, List.getElem?_set_ne h, ← List.getD_eq_getElem?_getD]
      exact ih (by omega)
theorem bmpK_bytes (k : Nat) (cs : List IC) (h8 : ∀ c ∈ cs, ∀ y ∈ c.2, y < 256) : ∀ c ∈ bmpK k cs, ∀ y ∈ c.2, y < 256 := by
  induction k with
  | zero => exact h8
  | succ k ih =>
    intro c hc
    rcases List.mem_or_eq_of_mem_set hc with hc | rfl
    · exact ih c hc
    · intro y hy
      by_cases hk : k < (bmpK k cs).length
      · have e : (bmpK k cs).getD k (0, []) = (bmpK k cs)[k] := by simp [List.getD, hk]
        rw [e] at hy
        exact ih _ (List.getElem_mem hk) y hy
      · rw [List.getD_eq_getElem?_getD, List.getElem?_eq_none (by omega)] at hy
        simp at hy
theorem wrap_ne (x : Int) : wrap64 (x + 1) ≠ x := by
  simp only [wrap64]
  omega
theorem bmpK_ne (k : Nat) (cs : List IC) (hk : 0 < k) (h0 : 0 < cs.length) (f : Int) : sgSame f (bmpK k cs) f cs = false := by
  unfold sgSame
  rw [decide_eq_true rfl, Bool.true_and]
  refine decide_eq_false fun e => ?_
  have := bmpK_first k cs hk h0
  rw [e] at this
  exact wrap_ne _ this.symm
theorem ivals_set (l : List (Int × Value)) (k : Nat) (x : Int) (hk : k < l.length) : (ivals l).set (k * 2) (.int .i64 x) = ivals (l.set k (x, (l[k]).2)) := by
  induction l generalizing k with
  | nil => simp at hk
  | cons a l ih =>
    match k with
    | 0 => rfl
    | k + 1 =>
      rw [show (k + 1) * 2 = k * 2 + 1 + 1 by omega]
      have := ih k (by simpa using hk)
      simp only [ivals, List.flatMap_cons, List.cons_append, List.nil_append, List.set_cons_succ, List.getElem_cons_succ] at this ⊢
      rw [this]
/-- One cell of an owned row is written. -/
theorem OwnsI.setK {w : World} {base g n cap : Nat} {l : List (Int × Value)} (h : OwnsI w base (.slice (some ⟨g, 0, none⟩) n cap) l) (hn : n = l.length) (k : Nat) (hk : k < l.length) (x : Int) :
    OwnsI (w.setCell ⟨g, k * 2, none⟩ (.int .i64 x)) base (.slice (some ⟨g, 0, none⟩) n cap) (l.set k (x, (l[k]).2)) := by
  subst hn
  have h2 := (World.ownsRow.stored h (k * 2) (.int .i64 x)).1
  unfold OwnsI
  rw [← ivals_set l k x hk, List.length_set]
  exact h2
/-- A kind of an owned row that reads is raised. -/
theorem OCs.bump {w : World} {base g n cap : Nat} {cs : List IC} (h : OCs w base (.slice (some ⟨g, 0, none⟩) n cap) cs) (hn : n = cs.length) (k : Nat) (hk : k < cs.length) (x : Int) :
    OCs (w.setCell ⟨g, k * 2, none⟩ (.int .i64 x)) base (.slice (some ⟨g, 0, none⟩) n cap) (cs.set k (x, (cs.getD k (0, [])).2)) := by
  obtain ⟨l, h1, h2, h3⟩ := h.ex
  have hkl : k < l.length := by omega
  have hgt := h1.ty (j := g) rfl
  have hkk := kept_u8 (base := base) (grown_set w g (k * 2) (.int .i64 x)) (fun j hj => by
    cases hj
    obtain ⟨c1, e1⟩ := hgt
    rintro ⟨c2, e2⟩
    have := e1.symm.trans e2
    cases this)
  refine ⟨_, h1.setK (by omega) k hkl x, by rw [List.length_set, List.length_set, h2], fun i hi => ?_⟩
  rw [List.length_set] at hi
  by_cases hik : i = k
  · subst hik
    have e1 : (l.set i (x, (l[i]).2))[i] = (x, (l[i]).2) := by simp
    have e2 : (cs.set i (x, (cs.getD i (0, [])).2)).getD i (0, []) = (x, (cs.getD i (0, [])).2) := by
      rw [List.getD_eq_getElem?_getD, List.getElem?_set_self hk]; rfl
    rw [e1, e2]
    exact ⟨rfl, (h3 i hkl).2.own hkk⟩
  · have e1 : (l.set k (x, (l[k]).2))[i]'(by rw [List.length_set]; exact hi) = l[i] := List.getElem_set_ne (Ne.symm hik) _
    have e2 : (cs.set k (x, (cs.getD k (0, [])).2)).getD i (0, []) = cs.getD i (0, []) := by
      rw [List.getD_eq_getElem?_getD, List.getElem?_set_ne (Ne.symm hik), ← List.getD_eq_getElem?_getD]
    rw [e1, e2]
    exact ⟨(h3 i hi).1, (h3 i hi).2.own hkk⟩

theorem OCs.frozen {w : World} {base g n cap : Nat} {cs : List IC} (h : OCs w base (.slice (some ⟨g, 0, none⟩) n cap) cs) (hn : n = cs.length) (i : Nat) : w.frozen? ⟨g, i, none⟩ = false := by
  obtain ⟨l, h1, h2, _⟩ := h.ex
  obtain rfl : n = l.length := by omega
  exact World.ownsRow.frozenAt h1 i
theorem OCs.at {w : World} {base n cap : Nat} {ao : Option Addr} {cs : List IC} (h : OCs w base (.slice ao n cap) cs) {k : Nat} (hk : k < cs.length) :
    ∃ g, ao = some ⟨g, 0, none⟩ ∧ base ≤ g ∧ g < w.heap.size ∧ w.cell? ⟨g, k * 2, none⟩ = some (.int .i64 (cs.getD k (0, [])).1) ∧ ∃ c, w.heap[g]? = some (.cells c 41 (0, 0)) := by
  obtain ⟨l, h1, h2, h3⟩ := h.ex
  obtain ⟨g, rfl, hg, c0, _⟩ := h1.at (i := k) (by omega)
  rw [(h3 k (by omega)).1] at c0
  exact ⟨g, rfl, (h1.lt g rfl).1, hg, c0, h1.ty rfl⟩
/-- Where an address lies. -/
theorem sg_place_iff {f a : Int} {n : Nat} (hf : 0 ≤ f) (hn : f + (n : Int) ≤ 1048576) (ha : -9223372036854775808 ≤ a ∧ a ≤ 9223372036854775807) :
    (0 ≤ wrap64 (a - f) ∧ wrap64 (a - f) < (n : Int)) ↔ ∃ j : Nat, j < n ∧ f + (j : Int) = a := by
  by_cases h : -9223372036854775808 ≤ a - f
  · rw [w64_in h (by omega)]
    constructor
    · rintro ⟨h1, h2⟩
      exact ⟨(a - f).toNat, by omega, by omega⟩
    · rintro ⟨j, h1, h2⟩
      omega
  · constructor
    · rintro ⟨h1, h2⟩
      simp only [wrap64] at h1 h2
      omega
    · rintro ⟨j, h1, h2⟩
      omega

end Go.Proofs.Ytojndpelilolkaa
