/- Chains of manifests: the mathematics. -/
import Derived.Test.YtgnalcobcdgnkaaDoorMfW
import Derived.Test.YtgnalcobcdgnkaaDoorQg
import Derived.Test.YtgnalcobcdgnkaaDoorMfC
namespace Go.Proofs.YtgnalcobcdgnkaaDoor
open Go.RowKit

/-- A manifest's digest. -/
def mdig (m : MF) : List Nat := shaOf shaK shaH (fr (mtext m))
theorem mdig_dg (m : MF) : Dg (mdig m) := sha_dg _
/-- A manifest by its place, the last one. -/
def mfd (l : List MF) (i : Nat) : MF := l.getD i mf0
def lastM (l : List MF) : MF := mfd l (l.length - 1)
theorem mfd_mem {l : List MF} {i : Nat} (h : i < l.length) : mfd l i ∈ l := by
  unfold mfd
  rw [List.getD_eq_getElem?_getD, List.getElem?_eq_getElem h]
  exact List.getElem_mem h
theorem mfd_get {l : List MF} {i : Nat} {m : MF} (h : l[i]? = some m) : mfd l i = m := by
  unfold mfd
  rw [List.getD_eq_getElem?_getD, h]; rfl
theorem mfd_take {l : List MF} {k i : Nat} (h : i < k) : mfd (l.take k) i = mfd l i := by
  unfold mfd
  rw [List.getD_eq_getElem?_getD, List.getD_eq_getElem?_getD, List.getElem?_take_of_lt h]
theorem mfd_app {a b : List MF} {i : Nat} (h : i < a.length) : mfd (a ++ b) i = mfd a i := by
  unfold mfd
  rw [List.getD_eq_getElem?_getD, List.getD_eq_getElem?_getD, List.getElem?_append_left h]
theorem mfd_snoc (a : List MF) (m : MF) : mfd (a ++ [m]) a.length = m := mfd_get (by simp)
theorem mfd_set {l : List MF} {i j : Nat} {m : MF} : mfd (l.set i m) j = if i = j ∧ i < l.length then m else mfd l j := by
  unfold mfd
  rw [List.getD_eq_getElem?_getD, List.getD_eq_getElem?_getD, List.getElem?_set]
  by_cases h1 : i = j
  · subst h1
    by_cases h2 : i < l.length
    · simp [h2]
    · simp [h2]
  · rw [if_neg h1, if_neg (fun c => h1 c.1)]
theorem lastM_take {l : List MF} {k : Nat} (h0 : 0 < k) (h : k ≤ l.length) : lastM (l.take k) = mfd l (k - 1) := by
  unfold lastM
  rw [List.length_take, Nat.min_eq_left h, mfd_take (by omega)]
theorem mfd_ext {a b : List MF} (hl : a.length = b.length) (h : ∀ i, i < a.length → mfd a i = mfd b i) : a = b := by
  refine List.ext_getElem hl fun i h1 h2 => ?_
  have := h i h1
  unfold mfd at this
  rwa [List.getD_eq_getElem?_getD, List.getD_eq_getElem?_getD, List.getElem?_eq_getElem h1, List.getElem?_eq_getElem h2] at this

/-- A chain's head. -/
def headM (l : List MF) : List Nat := if l.length = 0 then zero32 else mdig (lastM l)
theorem headM_dg (l : List MF) : Dg (headM l) := by unfold headM; split; exact dg_zero; exact mdig_dg _
/-- Whether a manifest follows. -/
def folP (l : List MF) (m : MF) : Prop := m.num = (l.length : Int) ∧ m.prev = headM l ∧ (lastM l).trim ≤ m.trim ∧ (l.length = 0 ∨ m.fro = (lastM l).upto)
instance (l : List MF) (m : MF) : Decidable (folP l m) := by unfold folP; exact inferInstance
/-- An error's number of the manifest at a place. -/
def cerr (l : List MF) (i : Nat) : Nat := if mchk (mfd l i) ≠ 0 then mchk (mfd l i) else if folP (l.take i) (mfd l i) then 0 else 12
theorem cerr_zero {l : List MF} {i : Nat} (h : cerr l i = 0) : mchk (mfd l i) = 0 ∧ folP (l.take i) (mfd l i) := by
  unfold cerr at h
  by_cases h1 : mchk (mfd l i) ≠ 0
  · rw [if_pos h1] at h; exact absurd h h1
  · rw [if_neg h1] at h
    by_cases h2 : folP (l.take i) (mfd l i)
    · exact ⟨Classical.not_not.1 h1, h2⟩
    · rw [if_neg h2] at h; cases h
theorem cerr_good {l : List MF} {i : Nat} (h1 : mchk (mfd l i) = 0) (h2 : folP (l.take i) (mfd l i)) : cerr l i = 0 := by
  unfold cerr
  rw [if_neg (fun c => c h1), if_pos h2]
theorem cerr_bad {l : List MF} {i : Nat} (h1 : mchk (mfd l i) ≠ 0) : cerr l i = mchk (mfd l i) := by
  unfold cerr
  rw [if_pos h1]
theorem cerr_off {l : List MF} {i : Nat} (h1 : mchk (mfd l i) = 0) (h2 : ¬ folP (l.take i) (mfd l i)) : cerr l i = 12 := by
  unfold cerr
  rw [if_neg (fun c => c h1), if_neg h2]
/-- What Check answers: a place, an error's number. -/
def CChk (l : List MF) (n c : Nat) : Prop := (∀ j, j < n → cerr l j = 0) ∧ ((n = l.length ∧ c = 0) ∨ (n < l.length ∧ c = cerr l n ∧ c ≠ 0))
theorem CChk.unique {l : List MF} {n c n' c' : Nat} (h : CChk l n c) (h' : CChk l n' c') : n = n' ∧ c = c' := by
  obtain ⟨h1, h2⟩ := h
  obtain ⟨h3, h4⟩ := h'
  rcases h2 with ⟨rfl, rfl⟩ | ⟨h5, rfl, h6⟩
  · rcases h4 with ⟨rfl, rfl⟩ | ⟨h7, rfl, h8⟩
    · exact ⟨rfl, rfl⟩
    · exact absurd (h1 n' h7) h8
  · rcases h4 with ⟨rfl, rfl⟩ | ⟨h7, rfl, h8⟩
    · exact absurd (h3 n h5) h6
    · rcases Nat.lt_trichotomy n n' with h | h | h
      · exact absurd (h3 n h) h6
      · subst h; exact ⟨rfl, rfl⟩
      · exact absurd (h1 n' h) h8
theorem CChk.le {l : List MF} {n c : Nat} (h : CChk l n c) : n ≤ l.length := by
  rcases h.2 with ⟨rfl, _⟩ | ⟨h, _⟩ <;> omega
theorem CChk.all {l : List MF} {n : Nat} (h : CChk l n 0) : n = l.length ∧ ∀ j, j < l.length → cerr l j = 0 := by
  rcases h.2 with ⟨rfl, _⟩ | ⟨_, _, h⟩
  · exact ⟨rfl, h.1⟩
  · exact absurd rfl h
theorem CChk.right {l : List MF} {n : Nat} (h : CChk l n 0) : ∀ m ∈ l, mchk m = 0 := by
  intro m hm
  obtain ⟨i, hi, rfl⟩ := List.getElem_of_mem hm
  have := (cerr_zero (h.all.2 i hi)).1
  rwa [mfd_get (List.getElem?_eq_getElem hi)] at this
theorem cchk_of {l : List MF} (h : ∀ j, j < l.length → cerr l j = 0) : CChk l l.length 0 := ⟨h, .inl ⟨rfl, rfl⟩⟩
theorem cerr_app {a b : List MF} {i : Nat} (h : i < a.length) : cerr (a ++ b) i = cerr a i := by
  unfold cerr
  rw [mfd_app h, List.take_append_of_le_length (Nat.le_of_lt h)]
/-- A chain with what follows it is one. -/
theorem cchk_grow {l : List MF} {m : MF} {n : Nat} (h : CChk l n 0) (hm : mchk m = 0) (hf : folP l m) : CChk (l ++ [m]) (l.length + 1) 0 := by
  have := cchk_of (l := l ++ [m]) fun j hj => by
    by_cases h1 : j < l.length
    · rw [cerr_app h1]; exact h.all.2 j h1
    · obtain rfl : j = l.length := by rw [List.length_append] at hj; simp at hj; omega
      refine cerr_good (by rw [mfd_snoc]; exact hm) ?_
      rw [mfd_snoc, List.take_left']
      · exact hf
      · rfl
  rwa [List.length_append] at this
/-- What a manifest's bytes say. -/
theorem fr_mtext_inj {a b : MF} (ha : mchk a = 0) (hb : mchk b = 0) (ka : MOk a) (kb : MOk b) (h : fr (mtext a) = fr (mtext b)) : a = b := by
  have h1 := rman_put ha ka
  rw [h] at h1
  exact (h1.unique (rman_put hb kb)).1
/-- Two unlike texts at one place have one digest. -/
def Coll (a b : List MF) : Prop := ∃ i, i < a.length ∧ fr (mtext (mfd a i)) ≠ fr (mtext (mfd b i)) ∧ mdig (mfd a i) = mdig (mfd b i)
/-- Chains with one head are the same, or two unlike texts have one digest. -/
theorem heads_same {a b : List MF} {n n' : Nat} (ha : CChk a n 0) (hb : CChk b n' 0) (ka : ∀ m ∈ a, MOk m) (kb : ∀ m ∈ b, MOk m) (hl : a.length = b.length) (hh : headM a = headM b) : a = b ∨ Coll a b := by
  by_cases hc : Coll a b
  · exact .inr hc
  left
  refine mfd_ext hl ?_
  have key : ∀ k i, i + k + 1 = a.length → mfd a i = mfd b i := by
    intro k
    induction k with
    | zero =>
      intro i hi
      have e1 : lastM a = mfd a i := by unfold lastM; congr 1; omega
      have e2 : lastM b = mfd b i := by unfold lastM; congr 1; omega
      have hd : mdig (mfd a i) = mdig (mfd b i) := by
        unfold headM at hh
        rw [if_neg (by omega), if_neg (by omega), e1, e2] at hh
        exact hh
      have ma := mfd_mem (l := a) (i := i) (by omega)
      have mb := mfd_mem (l := b) (i := i) (by omega)
      refine fr_mtext_inj (ha.right _ ma) (hb.right _ mb) (ka _ ma) (kb _ mb) ?_
      exact Classical.byContradiction fun hne => hc ⟨i, by omega, hne, hd⟩
    | succ k ih =>
      intro i hi
      have hs := ih (i + 1) (by omega)
      have fa := (cerr_zero (ha.all.2 (i + 1) (by omega))).2.2.1
      have fb := (cerr_zero (hb.all.2 (i + 1) (by omega))).2.2.1
      rw [hs, fb] at fa
      have hd : mdig (mfd a i) = mdig (mfd b i) := by
        unfold headM at fa
        rw [if_neg (by rw [List.length_take]; omega), if_neg (by rw [List.length_take]; omega), lastM_take (by omega) (by omega), lastM_take (by omega) (by omega)] at fa
        exact fa.symm
      have ma := mfd_mem (l := a) (i := i) (by omega)
      have mb := mfd_mem (l := b) (i := i) (by omega)
      refine fr_mtext_inj (ha.right _ ma) (hb.right _ mb) (ka _ ma) (kb _ mb) ?_
      exact Classical.byContradiction fun hne => hc ⟨i, by omega, hne, hd⟩
  exact fun i hi => key (a.length - i - 1) i (by omega)
/-- A manifest that is changed, but for the last one, breaks the chain, or two unlike texts have one digest. -/
theorem chain_breaks {l : List MF} {n i n' c : Nat} {m : MF} (hl : CChk l n 0) (hi : i + 1 < l.length) (hne : mfd l i ≠ m) (kl : ∀ x ∈ l, MOk x) (km : MOk m) (h : CChk (l.set i m) n' c) :
    (c = 0 ∧ Coll l (l.set i m)) ∨ (c ≠ 0 ∧ n' ≤ i + 1) := by
  by_cases hc : c = 0
  · subst hc
    refine .inl ⟨rfl, i, by omega, ?_, ?_⟩
    · have e : mfd (l.set i m) i = m := by rw [mfd_set, if_pos ⟨rfl, by omega⟩]
      rw [e]
      intro he
      have ml := mfd_mem (l := l) (i := i) (by omega)
      have mm : mfd (l.set i m) i ∈ l.set i m := mfd_mem (by rw [List.length_set]; omega)
      rw [e] at mm
      exact hne (fr_mtext_inj (hl.right _ ml) (h.right _ mm) (kl _ ml) km he)
    · have fa := (cerr_zero (hl.all.2 (i + 1) hi)).2.2.1
      have fb := (cerr_zero (h.all.2 (i + 1) (by rw [List.length_set]; omega))).2.2.1
      rw [mfd_set, if_neg (by omega), fa] at fb
      unfold headM at fb
      rw [if_neg (by rw [List.length_take]; omega), if_neg (by rw [List.length_take, List.length_set]; omega), lastM_take (by omega) (by omega), lastM_take (by omega) (by rw [List.length_set]; omega)] at fb
      exact fb
  · refine .inr ⟨hc, ?_⟩
    refine Classical.byContradiction fun hn => hc ?_
    rcases h.2 with ⟨h1, h2⟩ | ⟨h1, h2, h3⟩
    · exact h2
    · rw [h2]
      rw [List.length_set] at h1
      have hz := hl.all.2 n' h1
      have hz1 := cerr_zero hz
      refine cerr_good ?_ ?_
      · rw [mfd_set, if_neg (by omega)]; exact hz1.1
      · rw [mfd_set, if_neg (by omega)]
        obtain ⟨f1, f2, f3, f4⟩ := hz1.2
        have e1 : ((l.set i m).take n').length = (l.take n').length := by simp
        have e2 : lastM ((l.set i m).take n') = lastM (l.take n') := by
          rw [lastM_take (by omega) (by rw [List.length_set]; omega), lastM_take (by omega) (by omega), mfd_set, if_neg (by omega)]
        have e3 : headM ((l.set i m).take n') = headM (l.take n') := by unfold headM; rw [e1, e2]
        exact ⟨by rw [e1]; exact f1, by rw [e3]; exact f2, by rw [e2]; exact f3, by rw [e1, e2]; exact f4⟩

/-- What Head answers. -/
def headC (l : List MF) : Nat := if l.length = 0 then 0 else mchk (lastM l)
def headR (l : List MF) : List Nat := if headC l ≠ 0 then zero32 else headM l
theorem headR_dg (l : List MF) : Dg (headR l) := by unfold headR; split; exact dg_zero; exact headM_dg _
theorem headC_right {l : List MF} (h : ∀ m ∈ l, mchk m = 0) : headC l = 0 := by
  unfold headC
  by_cases h0 : l.length = 0
  · rw [if_pos h0]
  · rw [if_neg h0]
    exact h _ (mfd_mem (by omega))
theorem headR_right {l : List MF} (h : ∀ m ∈ l, mchk m = 0) : headR l = headM l := by
  unfold headR
  rw [if_neg (by rw [headC_right h]; simp)]
/-- Where parts end that begin at an address. -/
def endP (x : Int) (ps : List PT) : Int := if ps.length = 0 then x else wrap64 ((ps.getD (ps.length - 1) p0).1 + (ps.getD (ps.length - 1) p0).2.1)
/-- The manifest that follows, and the error's number. -/
def nextM (l : List MF) (x t : Int) (ps : List PT) : MF := ⟨(l.length : Int), x, endP x ps, t, headM l, ps⟩
def nextC (l : List MF) (c0 : Nat) (x t : Int) (ps : List PT) : Nat :=
  if c0 ≠ 0 then c0 else if l.length ≠ 0 ∧ (x ≠ (lastM l).upto ∨ t < (lastM l).trim) then 12 else mchk (nextM l x t ps)
theorem nextC_zero {l : List MF} {c0 : Nat} {x t : Int} {ps : List PT} (h : nextC l c0 x t ps = 0) : c0 = 0 ∧ mchk (nextM l x t ps) = 0 ∧ folP l (nextM l x t ps) := by
  unfold nextC at h
  by_cases h0 : c0 ≠ 0
  · rw [if_pos h0] at h; exact absurd h h0
  rw [if_neg h0] at h
  by_cases h1 : l.length ≠ 0 ∧ (x ≠ (lastM l).upto ∨ t < (lastM l).trim)
  · rw [if_pos h1] at h; cases h
  rw [if_neg h1] at h
  refine ⟨Classical.not_not.1 h0, h, rfl, rfl, ?_, ?_⟩
  · show (lastM l).trim ≤ t
    by_cases h2 : l.length = 0
    · obtain rfl : l = [] := List.length_eq_zero_iff.1 h2
      exact (mchk_zero h).1.2.2.2.1
    · exact Int.not_lt.1 fun c => h1 ⟨h2, .inr c⟩
  · by_cases h2 : l.length = 0
    · exact .inl h2
    · exact .inr (Classical.byContradiction fun c => h1 ⟨h2, .inl c⟩)

end Go.Proofs.YtgnalcobcdgnkaaDoor
