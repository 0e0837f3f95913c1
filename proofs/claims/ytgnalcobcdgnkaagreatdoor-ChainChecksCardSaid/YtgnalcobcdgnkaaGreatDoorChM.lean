/- Chains of manifests: the mathematics. -/
import Derived.Test.YtgnalcobcdgnkaaGreatDoorMfW
import Derived.Test.YtgnalcobcdgnkaaGreatDoorQg
import Derived.Test.YtgnalcobcdgnkaaGreatDoorMfC
namespace Go.Proofs.YtgnalcobcdgnkaaGreatDoor
open Go.RowKit

/-- A manifest's digest. -/
def mdig (m : MF) : List Nat := shaOf shaK shaH (fr (mtext m))
theorem mdig_dg (m : MF) : Dg (mdig m) := sha_dg _
/-- A manifest by its place, the last one. -/
def mfd (l : List MF) (i : Nat) : MF := l.getD i mf0
def lastM (l : List MF) : MF := mfd l (l.length - 1)
theorem lastM_nil : lastM [] = mf0 := rfl
theorem mfd_mem {l : List MF} {i : Nat} (h : i < l.length) : mfd l i ∈ l := by
  unfold mfd
  rw [List.getD_eq_getElem?_getD, List.getElem?_eq_getElem h]
  exact List.getElem_mem h
theorem mfd_get {l : List MF} {i : Nat} {m : MF} (h : l[i]? = some m) : mfd l i = m := by
  unfold mfd
  rw [List.getD_eq_getElem?_getD, h]; rfl
theorem mfd_take {l : List MF} {k i : Nat} (h : i < k) : mfd (l.take k) i = mfd l i := by
  unfold mfd
  rw [List.getD_eq_getElem?_getD, List.getD_eq_getElem?_getD, List.getElem?_take_of_lt h]
theorem mfd_app {a b : List MF} {i : Nat} (h : i < a.length) : mfd (a ++ b) i = mfd a i := by
  unfold mfd
  rw [List.getD_eq_getElem?_getD, List.getD_eq_getElem?_getD, List.getElem?_append_left h]
theorem mfd_snoc (a : List MF) (m : MF) : mfd (a ++ [m]) a.length = m := mfd_get (by simp)
theorem lastM_take {l : List MF} {k : Nat} (h0 : 0 < k) (h : k ≤ l.length) : lastM (l.take k) = mfd l (k - 1) := by
  unfold lastM
  rw [List.length_take, Nat.min_eq_left h, mfd_take (by omega)]
theorem mfd_ext {a b : List MF} (hl : a.length = b.length) (h : ∀ i, i < a.length → mfd a i = mfd b i) : a = b := by
  refine List.ext_getElem hl fun i h1 h2 => ?_
  have := h i h1
  unfold mfd at this
  rwa [List.getD_eq_getElem?_getD, List.getD_eq_getElem?_getD, List.getElem?_eq_getElem h1, List.getElem?_eq_getElem h2] at this

/-- A chain's head. -/
def headM (l : List MF) : List Nat := if l.length = 0 then zero32 else mdig (lastM l)
theorem headM_dg (l : List MF) : Dg (headM l) := by unfold headM; split; exact dg_zero; exact mdig_dg _
/-- Whether a manifest follows. -/
def folP (l : List MF) (m : MF) : Prop := m.num = (l.length : Int) ∧ m.prev = headM l ∧ (lastM l).trim ≤ m.trim ∧ (l.length = 0 ∨ m.fro = (lastM l).upto)
instance (l : List MF) (m : MF) : Decidable (folP l m) := by unfold folP; exact inferInstance
/-- An error's number of the manifest at a place. -/
def cerr (l : List MF) (i : Nat) : Nat := if mchk (mfd l i) ≠ 0 then mchk (mfd l i) else if folP (l.take i) (mfd l i) then 0 else 12
theorem cerr_zero {l : List MF} {i : Nat} (h : cerr l i = 0) : mchk (mfd l i) = 0 ∧ folP (l.take i) (mfd l i) := by
  unfold cerr at h
  by_cases h1 : mchk (mfd l i) ≠ 0
  · rw [if_pos h1] at h; exact absurd h h1
  · rw [if_neg h1] at h
    by_cases h2 : folP (l.take i) (mfd l i)
    · exact ⟨Classical.not_not.1 h1, h2⟩
    · rw [if_neg h2] at h; cases h
theorem cerr_good {l : List MF} {i : Nat} (h1 : mchk (mfd l i) = 0) (h2 : folP (l.take i) (mfd l i)) : cerr l i = 0 := by
  unfold cerr
  rw [if_neg (fun c => c h1), if_pos h2]
theorem cerr_bad {l : List MF} {i : Nat} (h1 : mchk (mfd l i) ≠ 0) : cerr l i = mchk (mfd l i) := by
  unfold cerr
  rw [if_pos h1]
theorem cerr_off {l : List MF} {i : Nat} (h1 : mchk (mfd l i) = 0) (h2 : ¬ folP (l.take i) (mfd l i)) : cerr l i = 12 := by
  unfold cerr
  rw [if_neg (fun c => c h1), if_neg h2]
/-- What Check answers: a place, an error's number. -/
def CChk (l : List MF) (n c : Nat) : Prop := (∀ j, j < n → cerr l j = 0) ∧ ((n = l.length ∧ c = 0) ∨ (n < l.length ∧ c = cerr l n ∧ c ≠ 0))
theorem CChk.unique {l : List MF} {n c n' c' : Nat} (h : CChk l n c) (h' : CChk l n' c') : n = n' ∧ c = c' := by
  obtain ⟨h1, h2⟩ := h
  obtain ⟨h3, h4⟩ := h'
  rcases h2 with ⟨rfl, rfl⟩ | ⟨h5, rfl, h6⟩
  · rcases h4 with ⟨rfl, rfl⟩ | ⟨h7, rfl, h8⟩
    · exact ⟨rfl, rfl⟩
    · exact absurd (h1 n' h7) h8
  · rcases h4 with ⟨rfl, rfl⟩ | ⟨h7, rfl, h8⟩
    · exact absurd (h3 n h5) h6
    · rcases Nat.lt_trichotomy n n' with h | h | h
      · exact absurd (h3 n h) h6
      · subst h; exact ⟨rfl, rfl⟩
      · exact absurd (h1 n' h) h8
theorem CChk.le {l : List MF} {n c : Nat} (h : CChk l n c) : n ≤ l.length := by
  rcases h.2 with ⟨rfl, _⟩ | ⟨h, _⟩ <;> omega
theorem CChk.all {l : List MF} {n : Nat} (h : CChk l n 0) : n = l.length ∧ ∀ j, j < l.length → cerr l j = 0 := by
  rcases h.2 with ⟨rfl, _⟩ | ⟨_, _, h⟩
  · exact ⟨rfl, h.1⟩
  · exact absurd rfl h
theorem CChk.right {l : List MF} {n : Nat} (h : CChk l n 0) : ∀ m ∈ l, mchk m = 0 := by
  intro m hm
  obtain ⟨i, hi, rfl⟩ := List.getElem_of_mem hm
  have := (cerr_zero (h.all.2 i hi)).1
  rwa [mfd_get (List.getElem?_eq_getElem hi)] at this
theorem cchk_of {l : List MF} (h : ∀ j, j < l.length → cerr l j = 0) : CChk l l.length 0 := ⟨h, .inl ⟨rfl, rfl⟩⟩
theorem cerr_app {a b : List MF} {i : Nat} (h : i < a.length) : cerr (a ++ b) i = cerr a i := by
  unfold cerr
  rw [mfd_app h, List.take_append_of_le_length (Nat.le_of_lt h)]
/-- A chain with what follows it is one. -/
theorem cchk_grow {l : List MF} {m : MF} {n : Nat} (h : CChk l n 0) (hm : mchk m = 0) (hf : folP l m) : CChk (l ++ [m]) (l.length + 1) 0 := by
  have := cchk_of (l := l ++ [m]) fun j hj => by
    by_cases h1 : j < l.length
    · rw [cerr_app h1]; exact h.all.2 j h1
    · obtain rfl : j = l.length := by rw [List.length_append] at hj; simp at hj; omega
      refine cerr_good (by rw [mfd_snoc]; exact hm) ?_
      rw [mfd_snoc, List.take_left']
      · exact hf
      · rfl
  rwa [List.length_append] at this
/-- The document's own words of what follows. -/
def folD (l : List MF) (i : Nat) : Prop := (mfd l i).num = (i : Int) ∧ (i = 0 ∨ ((mfd l i).fro = (mfd l (i - 1)).upto ∧ (mfd l (i - 1)).trim ≤ (mfd l i).trim ∧ (mfd l i).prev = mdig (mfd l (i - 1))))
theorem folD_iff {l : List MF} {i : Nat} (hi : i < l.length) (hz : mchk (mfd l i) = 0) : folD l i ↔ folP (l.take i) (mfd l i) := by
  obtain ⟨⟨_, _, _, hT⟩, _, hP, _, _⟩ := mchk_zero hz
  unfold folD folP
  rw [List.length_take, Nat.min_eq_left (Nat.le_of_lt hi)]
  by_cases h0 : i = 0
  · subst h0
    rw [List.take_zero]
    constructor
    · rintro ⟨h1, _⟩
      refine ⟨h1, ?_, ?_, .inl rfl⟩
      · exact Classical.byContradiction fun hc => hP ⟨h1, hc⟩
      · rw [lastM_nil]; exact hT.1
    · rintro ⟨h1, _⟩
      exact ⟨h1, .inl rfl⟩
  · have e1 : lastM (l.take i) = mfd l (i - 1) := lastM_take (by omega) (by omega)
    have e2 : headM (l.take i) = mdig (mfd l (i - 1)) := by unfold headM; rw [if_neg (by rw [List.length_take]; omega), e1]
    rw [e1, e2]
    constructor
    · rintro ⟨h1, h2 | ⟨h2, h3, h4⟩⟩
      · exact absurd h2 h0
      · exact ⟨h1, h4, h3, .inr h2⟩
    · rintro ⟨h1, h4, h3, h2 | h2⟩
      · exact absurd h2 h0
      · exact ⟨h1, .inr ⟨h2, h3, h4⟩⟩

/-- What Head answers. -/
def headC (l : List MF) : Nat := if l.length = 0 then 0 else mchk (lastM l)
def headR (l : List MF) : List Nat := if headC l ≠ 0 then zero32 else headM l
theorem headR_dg (l : List MF) : Dg (headR l) := by unfold headR; split; exact dg_zero; exact headM_dg _
theorem headC_right {l : List MF} (h : ∀ m ∈ l, mchk m = 0) : headC l = 0 := by
  unfold headC
  by_cases h0 : l.length = 0
  · rw [if_pos h0]
  · rw [if_neg h0]
    exact h _ (mfd_mem (by omega))
theorem headR_right {l : List MF} (h : ∀ m ∈ l, mchk m = 0) : headR l = headM l := by
  unfold headR
  rw [if_neg (by rw [headC_right h]; simp)]
/-- Where parts end that begin at an address. -/
def endP (x : Int) (ps : List PT) : Int := if ps.length = 0 then x else wrap64 ((ps.getD (ps.length - 1) p0).1 + (ps.getD (ps.length - 1) p0).2.1)
/-- The manifest that follows, and the error's number. -/
def nextM (l : List MF) (x t : Int) (ps : List PT) : MF := ⟨(l.length : Int), x, endP x ps, t, headM l, ps⟩
def nextC (l : List MF) (c0 : Nat) (x t : Int) (ps : List PT) : Nat :=
  if c0 ≠ 0 then c0 else if l.length ≠ 0 ∧ (x ≠ (lastM l).upto ∨ t < (lastM l).trim) then 12 else mchk (nextM l x t ps)
theorem nextC_zero {l : List MF} {c0 : Nat} {x t : Int} {ps : List PT} (h : nextC l c0 x t ps = 0) : c0 = 0 ∧ mchk (nextM l x t ps) = 0 ∧ folP l (nextM l x t ps) := by
  unfold nextC at h
  by_cases h0 : c0 ≠ 0
  · rw [if_pos h0] at h; exact absurd h h0
  rw [if_neg h0] at h
  by_cases h1 : l.length ≠ 0 ∧ (x ≠ (lastM l).upto ∨ t < (lastM l).trim)
  · rw [if_pos h1] at h; cases h
  rw [if_neg h1] at h
  refine ⟨Classical.not_not.1 h0, h, rfl, rfl, ?_, ?_⟩
  · show (lastM l).trim ≤ t
    by_cases h2 : l.length = 0
    · obtain rfl : l = [] := List.length_eq_zero_iff.1 h2
      exact (mchk_zero h).1.2.2.2.1
    · exact Int.not_lt.1 fun c => h1 ⟨h2, .inr c⟩
  · by_cases h2 : l.length = 0
    · exact .inl h2
    · exact .inr (Classical.byContradiction fun c => h1 ⟨h2, .inl c⟩)

end Go.Proofs.YtgnalcobcdgnkaaGreatDoor
