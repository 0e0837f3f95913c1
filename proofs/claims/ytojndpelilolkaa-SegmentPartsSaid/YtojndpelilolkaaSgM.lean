/- Segments: the mathematics. Which segments there are, their bytes, which bytes are one, there and back. -/
import Derived.Test.YtojndpelilolkaaCellRuns
import Derived.Test.YtojndpelilolkaaRqP
namespace Go.Proofs.Ytojndpelilolkaa
open Go.RowKit

/-- An error's number of a segment. -/
def sgC (f : Int) (cs : List IC) : Nat :=
  if f < 0 ∨ 1048576 < f then 1 else if 64 < cs.length then 3 else if 1048576 < f + (cs.length : Int) then 1 else firstBad cs
theorem firstBad_zero {cs : List IC} (h : firstBad cs = 0) : ∀ c ∈ cs, chk c.1 c.2.length = 0 := by
  induction cs with
  | nil => simp
  | cons x l ih =>
    unfold firstBad at h ih
    simp only [List.map_cons, List.foldr_cons] at h
    by_cases h1 : chk x.1 x.2.length = 0
    · rw [if_pos h1] at h
      intro c hc
      rcases List.mem_cons.1 hc with rfl | hc
      · exact h1
      · exact ih h c hc
    · rw [if_neg h1] at h; exact absurd h h1
theorem firstBad_good {cs : List IC} (h : ∀ c ∈ cs, chk c.1 c.2.length = 0) : firstBad cs = 0 := by
  induction cs with
  | nil => rfl
  | cons x l ih =>
    have := ih fun c hc => h c (by simp [hc])
    unfold firstBad at this ⊢
    simp only [List.map_cons, List.foldr_cons]
    rw [if_pos (h x (by simp))]
    exact this
theorem sgC_zero {f : Int} {cs : List IC} (h : sgC f cs = 0) : 0 ≤ f ∧ f + (cs.length : Int) ≤ 1048576 ∧ cs.length ≤ 64 ∧ ∀ c ∈ cs, chk c.1 c.2.length = 0 := by
  unfold sgC at h
  split at h
  · cases h
  split at h
  · cases h
  split at h
  · cases h
  · exact ⟨by omega, by omega, by omega, firstBad_zero h⟩
theorem sgC_good {f : Int} {cs : List IC} (h0 : 0 ≤ f) (h1 : f + (cs.length : Int) ≤ 1048576) (h2 : cs.length ≤ 64) (h : ∀ c ∈ cs, chk c.1 c.2.length = 0) : sgC f cs = 0 := by
  unfold sgC
  rw [if_neg (by omega), if_neg (by omega), if_neg (by omega)]
  exact firstBad_good h

/-- A segment's text. -/
def sgtext (f : Int) (cs : List IC) : List Nat := enc f.toNat ++ rbytes (cs.map toCC)
theorem sg_okC {cs : List IC} (hc : ∀ c ∈ cs, chk c.1 c.2.length = 0) (h8 : ∀ c ∈ cs, ∀ y ∈ c.2, y < 256) : ∀ c ∈ cs.map toCC, okC c := by
  intro c hm
  obtain ⟨x, hx, rfl⟩ := List.mem_map.1 hm
  exact okC_toCC (hc x hx) (h8 x hx)
theorem sgtext_len {f : Int} {cs : List IC} (h : sgC f cs = 0) (h8 : ∀ c ∈ cs, ∀ y ∈ c.2, y < 256) : (sgtext f cs).length ≤ 6420 ∧ ∀ y ∈ sgtext f cs, y < 256 := by
  obtain ⟨h0, h1, h2, h3⟩ := sgC_zero h
  have hu : U64 f.toNat := by unfold U64; omega
  have e1 := enc_len10 hu
  have e2 := rbytes_len (run := cs.map toCC) (by rw [List.length_map]; exact h2) (sg_okC h3 h8)
  have e3 := rbytes_byte (run := cs.map toCC) (by rw [List.length_map]; exact h2) (sg_okC h3 h8)
  unfold sgtext
  exact ⟨by rw [List.length_append]; omega, app_byte (enc_u64 hu) e3⟩

/-- Which bytes are a segment: the first address, the cells, an error's number. -/
def RSeg (b : List Nat) (f : Int) (cs : List IC) (c : Nat) : Prop :=
  ∃ t c0, FO b t c0 ∧ if c0 ≠ 0 then c = c0 ∧ f = 0 ∧ cs = [] else
    ∃ n r1 c1 run c2 fin, NumRel t 0 n r1 c1 ∧ TRun r1 (withinC n c1 1048576) run c2 fin ∧
      if endC fin.length c2 ≠ 0 then c = endC fin.length c2 ∧ f = 0 ∧ cs = [] else
        c = sgC (withinR n 1048576 : Nat) (run.map toIC) ∧ if c ≠ 0 then f = 0 ∧ cs = [] else f = (withinR n 1048576 : Nat) ∧ cs = run.map toIC
theorem sg_fo_unique {b t t' : List Nat} {c c' : Nat} (h : FO b t c) (h' : FO b t' c') : t = t' ∧ c = c' := h.unique h'
theorem RSeg.unique {b : List Nat} {f f' : Int} {cs cs' : List IC} {c c' : Nat} (h : RSeg b f cs c) (h' : RSeg b f' cs' c') : f = f' ∧ cs = cs' ∧ c = c' := by
  obtain ⟨t, c0, hfo, hif⟩ := h
  obtain ⟨t', c0', hfo', hif'⟩ := h'
  obtain ⟨rfl, rfl⟩ := sg_fo_unique hfo hfo'
  split at hif
  · rename_i h1
    rw [if_pos h1] at hif'
    obtain ⟨rfl, rfl, rfl⟩ := hif
    obtain ⟨rfl, rfl, rfl⟩ := hif'
    exact ⟨rfl, rfl, rfl⟩
  · rename_i h1
    rw [if_neg h1] at hif'
    obtain ⟨n, r1, c1, run, c2, fin, p1, p2, hif⟩ := hif
    obtain ⟨n', r1', c1', run', c2', fin', q1, q2, hif'⟩ := hif'
    obtain ⟨rfl, rfl, rfl⟩ := p1.unique q1
    obtain ⟨rfl, rfl, rfl⟩ := p2.unique q2
    split at hif
    · rename_i h2
      rw [if_pos h2] at hif'
      obtain ⟨rfl, rfl, rfl⟩ := hif
      obtain ⟨rfl, rfl, rfl⟩ := hif'
      exact ⟨rfl, rfl, rfl⟩
    · rename_i h2
      rw [if_neg h2] at hif'
      obtain ⟨rfl, hif⟩ := hif
      obtain ⟨rfl, hif'⟩ := hif'
      split at hif
      · rename_i h3
        rw [if_pos h3] at hif'
        obtain ⟨rfl, rfl⟩ := hif
        obtain ⟨rfl, rfl⟩ := hif'
        exact ⟨rfl, rfl, rfl⟩
      · rename_i h3
        rw [if_neg h3] at hif'
        obtain ⟨rfl, rfl⟩ := hif
        obtain ⟨rfl, rfl⟩ := hif'
        exact ⟨rfl, rfl, rfl⟩
theorem RSeg.bad {b : List Nat} {f : Int} {cs : List IC} {c : Nat} (h : RSeg b f cs c) (hc : c ≠ 0) : f = 0 ∧ cs = [] := by
  obtain ⟨t, c0, _, hif⟩ := h
  by_cases h1 : c0 ≠ 0
  · rw [if_pos h1] at hif
    exact hif.2
  · rw [if_neg h1] at hif
    obtain ⟨n, r1, c1, run, c2, fin, _, _, hif⟩ := hif
    by_cases h2 : endC fin.length c2 ≠ 0
    · rw [if_pos h2] at hif
      exact hif.2
    · rw [if_neg h2] at hif
      obtain ⟨_, hif⟩ := hif
      rw [if_pos hc] at hif
      exact hif
theorem endC_zero {n c : Nat} (h : ¬ endC n c ≠ 0) : n = 0 ∧ c = 0 := by
  unfold endC at h
  by_cases hc : c ≠ 0
  · rw [if_pos hc] at h; exact absurd hc h
  · rw [if_neg hc] at h
    by_cases hn : n = 0
    · exact ⟨hn, Classical.not_not.1 hc⟩
    · rw [if_neg hn] at h; omega
theorem trun_had {rest fin : List Nat} {run : List CC} {c c' : Nat} (h : TRun rest c run c' fin) (hc : c' = 0) : c = 0 := by
  obtain ⟨n, r1, c1, hn, h⟩ := h
  by_cases h0 : c = 0
  · exact h0
  have := (numr_had hn h0).2
  rcases h with ⟨_, _, h, _⟩ | ⟨h, _⟩ | ⟨h, _⟩ <;> omega
theorem sg_fo_good {b t : List Nat} {c : Nat} (h8 : ∀ y ∈ b, y < 256) (h : FO b t c) (hz : c = 0) : (∀ y ∈ t, y < 256) ∧ t.length ≤ 65536 ∧ b = fr t := by
  obtain ⟨t1, s1, c1, hft, hif⟩ := h
  by_cases h1 : c1 ≠ 0
  · rw [if_pos h1] at hif
    exact absurd (hif.2.symm.trans hz) h1
  · rw [if_neg h1] at hif
    obtain rfl : c1 = 0 := Classical.not_not.1 h1
    split at hif
    · rw [hif.2] at hz; cases hz
    · rename_i hs
      obtain ⟨_, _, h3, _, h5⟩ := hft.good
      rw [hif.1]
      exact ⟨fun y hy => h8 y (h5 y hy), h3, ft_whole hft hs⟩
theorem toCC_toIC (c : CC) : toCC (toIC c) = c := by simp [toIC, toCC]
theorem map_toCC (run : List CC) : (run.map toIC).map toCC = run := by
  rw [List.map_map]
  conv => rhs; rw [← List.map_id run]
  exact List.map_congr_left fun c _ => toCC_toIC c
theorem map_toIC {cs : List IC} (h : ∀ c ∈ cs, chk c.1 c.2.length = 0) : (cs.map toCC).map toIC = cs := (run_toCC h).symm
/-- What is taken has just those bytes. -/
theorem RSeg.back {b : List Nat} {f : Int} {cs : List IC} (h8 : ∀ y ∈ b, y < 256) (h : RSeg b f cs 0) : b = fr (sgtext f cs) ∧ sgC f cs = 0 ∧ ∀ c ∈ cs, ∀ y ∈ c.2, y < 256 := by
  obtain ⟨t, c0, hfo, hif⟩ := h
  by_cases h1 : c0 ≠ 0
  · rw [if_pos h1] at hif; exact absurd hif.1.symm h1
  rw [if_neg h1] at hif
  obtain rfl : c0 = 0 := Classical.not_not.1 h1
  obtain ⟨ht8, htl, hb⟩ := sg_fo_good h8 hfo rfl
  obtain ⟨n, r1, c1, run, c2, fin, p1, p2, hif⟩ := hif
  by_cases h2 : endC fin.length c2 ≠ 0
  · rw [if_pos h2] at hif; exact absurd hif.1.symm h2
  rw [if_neg h2] at hif
  obtain ⟨hfl, rfl⟩ := endC_zero h2
  obtain rfl : fin = [] := List.length_eq_zero_iff.1 hfl
  obtain ⟨hs, hif⟩ := hif
  rw [if_neg (by simp)] at hif
  obtain ⟨rfl, rfl⟩ := hif
  have hw := trun_had p2 rfl
  rw [hw] at p2
  obtain ⟨hn20, hc1⟩ : n ≤ 1048576 ∧ c1 = 0 := by
    unfold withinC at hw
    split at hw
    · split at hw <;> omega
    · exact ⟨by omega, hw⟩
  subst hc1
  obtain ⟨rfl, hu⟩ := num_back p1
  obtain ⟨hr1, hrl, hok⟩ := rbytes_trun (fun y hy => ht8 y (by simp [hy])) p2
  rw [List.append_nil] at hr1
  have hwr : withinR n 1048576 = n := (within_good (c := 0) (by omega)).1
  refine ⟨?_, hs.symm, ?_⟩
  · rw [hb, hwr, sgtext, map_toCC, Int.toNat_natCast, hr1]
  · intro c hc y hy
    obtain ⟨x, hx, rfl⟩ := List.mem_map.1 hc
    exact (hok x hx).2.2.2 y hy
/-- What was put is taken. -/
theorem rseg_put {f : Int} {cs : List IC} (h : sgC f cs = 0) (h8 : ∀ c ∈ cs, ∀ y ∈ c.2, y < 256) : RSeg (fr (sgtext f cs)) f cs 0 := by
  obtain ⟨h0, h1, h2, h3⟩ := sgC_zero h
  have hl := (sgtext_len h h8).1
  have hft := ft_fr (t := sgtext f cs) (by omega) []
  rw [List.append_nil] at hft
  obtain ⟨n, rfl⟩ : ∃ n : Nat, f = (n : Int) := ⟨f.toNat, by omega⟩
  have hw : withinR n 1048576 = n ∧ withinC n 0 1048576 = 0 := within_good (by omega)
  have ht := trun_rbytes (run := cs.map toCC) (by rw [List.length_map]; exact h2) (sg_okC h3 h8) []
  rw [List.append_nil] at ht
  refine ⟨sgtext n cs, 0, ⟨_, _, _, hft, by rw [if_neg (by decide), if_neg (by rw [fr_length]; omega)]; exact ⟨rfl, rfl⟩⟩, ?_⟩
  rw [if_neg (by decide)]
  refine ⟨n, rbytes (cs.map toCC), 0, cs.map toCC, 0, [], ?_, by rw [hw.2]; exact ht, ?_⟩
  · unfold sgtext
    rw [Int.toNat_natCast]
    exact num_of (by unfold U64; omega) _
  · rw [if_neg (by decide), hw.1, map_toIC h3]
    exact ⟨h.symm, by rw [if_neg (by decide)]; exact ⟨rfl, rfl⟩⟩

end Go.Proofs.Ytojndpelilolkaa
