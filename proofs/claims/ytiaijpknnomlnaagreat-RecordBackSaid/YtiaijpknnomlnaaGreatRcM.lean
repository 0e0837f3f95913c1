/- Acts as they are recorded: there and back, the mathematics. -/
import Derived.Test.YtiaijpknnomlnaaGreatRcQ
namespace Go.Proofs.YtiaijpknnomlnaaGreat
open Go.RowKit

theorem withinR_id {n most : Nat} (h : n ≤ most) (hm : most ≤ 4611686018427387904) : withinR n most = n ∧ withinC n 0 most = 0 := by
  have h1 := within_good (n := n) (c := 0) (most := most) (by omega)
  exact h1
/-- What is put is taken. -/
theorem tact_text {k e a : Nat} {d : List Nat} (h : rchk k e a d.length = 0) : TAct (rtext k e a d) k e a d [] 0 := by
  obtain ⟨z1, z2, z3, z4, z5, z6, z7, z8, z9, _⟩ := rchk_zero h
  have hk := withinR_id (n := k) (most := 5) (by omega) (by decide)
  have he := withinR_id (n := e) (most := 1099511627776) (by omega) (by decide)
  have ha := withinR_id (n := a) (most := 1048576) (by omega) (by decide)
  have hd := enc_len10 (u64_of_le (n := d.length) (by omega))
  refine ⟨k, enc e ++ ((if 1 < k then enc a else []) ++ if k = 2 then enc d.length ++ d else []), 0, e, (if 1 < k then enc a else []) ++ (if k = 2 then enc d.length ++ d else []), 0, if k = 2 then enc d.length ++ d else [], 0,
    .inr (.inl ⟨rfl, u64_of_le (by omega), by unfold rtext; simp, rfl⟩), hk.1.symm, ?_, he.1.symm, ?_, ?_⟩
  · rw [if_neg (show ¬ k < 1 by omega), hk.2]
    exact .inr (.inl ⟨rfl, u64_of_le (by omega), rfl, rfl⟩)
  · by_cases h1 : k = 1
    · rw [if_pos h1, if_neg (show ¬ 1 < k by omega), if_neg (show ¬ k = 2 by omega), he.2]
      have := z8 (by omega)
      exact ⟨by omega, rfl, rfl⟩
    · rw [if_neg h1, if_pos (show 1 < k by omega), he.2]
      exact ⟨a, 0, .inr (.inl ⟨rfl, u64_of_le (by omega), rfl, rfl⟩), ha.1.symm, ha.2.symm⟩
  · by_cases h2 : k = 2
    · rw [if_pos h2, if_pos h2]
      have hm := many_good (n := d.length) (c := 0) (most := 64) (by omega)
      refine ⟨d.length, d, 0, .inr (.inl ⟨rfl, u64_of_le (by omega), rfl, rfl⟩), ?_⟩
      rw [hm.1, hm.2]
      exact .inr (.inr ⟨rfl, by omega, by omega, by simp, by simp, rfl⟩)
    · rw [if_neg h2, if_neg h2]
      exact ⟨List.length_eq_zero_iff.1 (z9 (by omega)), rfl, rfl⟩
theorem FO.unique {b t t' : List Nat} {c c' : Nat} (h : FO b t c) (h' : FO b t' c') : t = t' ∧ c = c' := by
  obtain ⟨t1, s1, c1, hft, hif⟩ := h
  obtain ⟨t2, s2, c2, hft2, hif2⟩ := h'
  obtain ⟨rfl, rfl, rfl⟩ := hft.unique hft2
  split at hif
  · rename_i h1
    rw [if_pos h1] at hif2
    exact ⟨hif.1.trans hif2.1.symm, hif.2.trans hif2.2.symm⟩
  · rename_i h1
    rw [if_neg h1] at hif2
    split at hif
    · rename_i h2
      rw [if_pos h2] at hif2
      exact ⟨hif.1.trans hif2.1.symm, hif.2.trans hif2.2.symm⟩
    · rename_i h2
      rw [if_neg h2] at hif2
      exact ⟨hif.1.trans hif2.1.symm, hif.2.trans hif2.2.symm⟩
theorem RTake.unique {b : List Nat} {k e a k' e' a' c c' : Nat} {d d' : List Nat} (h : RTake b k e a d c) (h' : RTake b k' e' a' d' c') : k = k' ∧ e = e' ∧ a = a' ∧ d = d' ∧ c = c' := by
  obtain ⟨t, c0, hfo, hif⟩ := h
  obtain ⟨t', c0', hfo', hif'⟩ := h'
  obtain ⟨rfl, rfl⟩ := hfo.unique hfo'
  split at hif
  · rename_i h1
    rw [if_pos h1] at hif'
    obtain ⟨rfl, rfl, rfl, rfl, rfl⟩ := hif
    obtain ⟨rfl, rfl, rfl, rfl, rfl⟩ := hif'
    exact ⟨rfl, rfl, rfl, rfl, rfl⟩
  · rename_i h1
    rw [if_neg h1] at hif'
    obtain ⟨k1, e1, a1, d1, r1, c1, hta, hif⟩ := hif
    obtain ⟨k2, e2, a2, d2, r2, c2, hta', hif'⟩ := hif'
    obtain ⟨rfl, rfl, rfl, rfl, rfl, rfl⟩ := hta.unique hta'
    split at hif
    · rename_i h2
      rw [if_pos h2] at hif'
      obtain ⟨rfl, rfl, rfl, rfl, rfl⟩ := hif
      obtain ⟨rfl, rfl, rfl, rfl, rfl⟩ := hif'
      exact ⟨rfl, rfl, rfl, rfl, rfl⟩
    · rename_i h2
      rw [if_neg h2] at hif'
      split at hif
      · rename_i h3
        rw [if_pos h3] at hif'
        obtain ⟨rfl, rfl, rfl, rfl, rfl⟩ := hif
        obtain ⟨rfl, rfl, rfl, rfl, rfl⟩ := hif'
        exact ⟨rfl, rfl, rfl, rfl, rfl⟩
      · rename_i h3
        rw [if_neg h3] at hif'
        obtain ⟨rfl, rfl, rfl, rfl, rfl⟩ := hif
        obtain ⟨rfl, rfl, rfl, rfl, rfl⟩ := hif'
        exact ⟨rfl, rfl, rfl, rfl, rfl⟩
/-- Take of what Put wrote. -/
theorem rtake_text {k e a : Nat} {d : List Nat} (h : rchk k e a d.length = 0) : RTake (fr (rtext k e a d)) k e a d 0 := by
  obtain ⟨z1, z2, z3, z4, z5, z6, z7, z8, z9, _⟩ := rchk_zero h
  have hl : (rtext k e a d).length ≤ 65536 := Nat.le_trans (rtext_le (u64_of_le (by omega)) (u64_of_le (by omega)) (u64_of_le (by omega)) z7) (by decide)
  have h2 := ft_fr hl []
  rw [List.append_nil] at h2
  refine ⟨rtext k e a d, 0, ⟨_, _, _, h2, by rw [if_neg (by decide), if_neg (by rw [fr_length]; omega)]; exact ⟨rfl, rfl⟩⟩, ?_⟩
  rw [if_neg (by decide)]
  refine ⟨k, e, a, d, [], 0, tact_text h, ?_⟩
  rw [if_neg (by decide), if_neg (by rw [h]; decide)]
  exact ⟨rfl, rfl, rfl, rfl, rfl⟩
/-- A reader's errors stay. -/
theorem NumRel.err {rest r : List Nat} {c n c' : Nat} (h : NumRel rest c n r c') (hc : c' = 0) : c = 0 ∧ U64 n ∧ rest = enc n ++ r := by
  rcases h with ⟨h1, _, _, h4⟩ | ⟨h1, h2, h3, _⟩ | ⟨_, _, _, h4, _⟩
  · omega
  · exact ⟨h1, h2, h3⟩
  · omega
theorem withinC_err {n c most : Nat} (h : withinC n c most = 0) : c = 0 ∧ n ≤ most ∧ withinR n most = n := by
  unfold withinC at h
  split at h
  · split at h
    · cases h
    · omega
  · rename_i h1
    exact ⟨h, by omega, (within_good (c := c) h1).1⟩
/-- What is taken without an error has just these bytes. -/
theorem tact_back {t d r : List Nat} {k e a c : Nat} (h : TAct t k e a d r c) (hc : c = 0) (hr : r = []) : t = rtext k e a d := by
  obtain ⟨n1, r1, c1, n2, r2, c2, r3, c3, p1, rfl, p2, rfl, p3, p4⟩ := h
  have h4 : c3 = 0 ∧ (r3 = if withinR n1 5 = 2 then enc d.length ++ d else []) := by
    by_cases h2 : withinR n1 5 = 2
    · rw [if_pos h2] at p4
      obtain ⟨n4, r4, c5, x1, x2⟩ := p4
      rcases x2 with ⟨y1, _, _, y4⟩ | ⟨_, _, _, _, y5⟩ | ⟨y1, y2, y3, y4, y5, _⟩
      · omega
      · omega
      · have hmc : c5 = 0 ∧ manyR n4 64 = n4 := by
          unfold manyC at y1
          split at y1
          · split at y1
            · cases y1
            · omega
          · rename_i h9
            exact ⟨y1, (many_good (c := c5) h9).1⟩
        obtain ⟨q1, q2, q3⟩ := x1.err hmc.1
        rw [hmc.2] at y2 y3 y4 y5
        rw [hr] at y5
        have hlen : r4.length ≤ n4 := by
          have := congrArg List.length y5
          simp at this
          omega
        have hd : d = r4 := by rw [y4, Int.toNat_natCast, List.take_of_length_le hlen]
        refine ⟨q1, ?_⟩
        rw [if_pos h2, q3, hd, show n4 = r4.length by simp at y3; omega]
    · rw [if_neg h2] at p4
      rw [if_neg h2]
      exact ⟨by omega, by rw [← p4.2.1, hr]⟩
  obtain ⟨hc3, hr3⟩ := h4
  have h3 : withinC n2 c2 1099511627776 = 0 ∧ (r2 = (if 1 < withinR n1 5 then enc a else []) ++ r3 ∨ withinR n1 5 < 1) := by
    by_cases h1 : withinR n1 5 = 1
    · rw [if_pos h1] at p3
      exact ⟨by omega, .inl (by rw [if_neg (by omega), p3.2.1]; rfl)⟩
    · rw [if_neg h1] at p3
      obtain ⟨n3, c4, x1, x2, x3⟩ := p3
      obtain ⟨y1, y2, y3⟩ := withinC_err (x3.symm.trans hc3)
      obtain ⟨q1, q2, q3⟩ := x1.err y1
      refine ⟨q1, ?_⟩
      by_cases h9 : 1 < withinR n1 5
      · exact .inl (by rw [if_pos h9, q3, x2, y3])
      · exact .inr (by omega)
  obtain ⟨hc2, hr2⟩ := h3
  obtain ⟨y1, y2, y3⟩ := withinC_err hc2
  obtain ⟨q1, q2, q3⟩ := p2.err y1
  have hk : ¬ withinR n1 5 < 1 := by
    intro h9
    rw [if_pos h9] at q1
    split at q1
    · cases q1
    · rename_i h8
      exact h8 q1
  rw [if_neg hk] at q1
  obtain ⟨z1, z2, z3⟩ := withinC_err q1
  obtain ⟨s1, s2, s3⟩ := p1.err z1
  rcases hr2 with hr2 | hr2
  · rw [s3, q3, hr2, hr3, y3]
    unfold rtext
    rw [z3]
    simp
  · exact absurd hr2 hk
/-- Bytes that are one frame alone. -/
theorem ft_whole {b t : List Nat} {s : Nat} (h : FT b t s 0) (hs : ¬ s < b.length) : b = fr t := by
  rcases h with ⟨h1, _⟩ | ⟨n, hn, ⟨r, hp⟩, h⟩
  · cases h1
  · rcases h with ⟨h1, _⟩ | ⟨h1, _⟩ | ⟨h1, _⟩ | ⟨_, h2, h3, h4, h5, h6⟩
    · cases h1
    · cases h1
    · cases h1
    · have hlr : r.length = n + 4 := by
        have := congrArg List.length hp
        simp at this
        omega
      have ht : b.take ((enc n).length + n) = enc n ++ r.take n := by rw [← hp, List.take_length_add_append]
      have hd : b.drop ((enc n).length + n) = r.drop n := by rw [← hp, List.drop_length_add_append]
      have htt : t = r.take n := by rw [h2, ht, List.drop_left]
      have htl : t.length = n := by rw [htt, List.length_take]; omega
      have hfb : fbody t = b.take ((enc n).length + n) := by
        unfold fbody
        rw [htl, ht, htt]
      have h4' : (b.drop ((enc n).length + n)).take 4 = b.drop ((enc n).length + n) := by
        rw [hd, List.take_of_length_le (by rw [List.length_drop]; omega)]
      unfold fr
      rw [hfb, h6, h4', List.take_append_drop]
theorem rtake_back {b d : List Nat} {k e a : Nat} (h : RTake b k e a d 0) : b = fr (rtext k e a d) ∧ rchk k e a d.length = 0 := by
  obtain ⟨t, c0, ⟨t1, s1, c1, hft, hif1⟩, hif⟩ := h
  split at hif
  · rename_i h1
    exact absurd hif.2.2.2.2.symm h1
  · rename_i h1
    obtain rfl : c0 = 0 := Classical.not_not.1 h1
    split at hif1
    · rename_i h2
      exact absurd hif1.2.symm h2
    · rename_i h2
      obtain rfl : c1 = 0 := Classical.not_not.1 h2
      split at hif1
      · cases hif1.2
      · rename_i h3
        obtain ⟨k1, e1, a1, d1, r1, c2, hta, hif⟩ := hif
        split at hif
        · rename_i h4
          exact absurd hif.2.2.2.2.symm h4
        · rename_i h4
          split at hif
          · rename_i h5
            exact absurd hif.2.2.2.2.symm h5
          · rename_i h5
            obtain ⟨rfl, rfl, rfl, rfl, _⟩ := hif
            have h6 : endC r1.length c2 = 0 := Classical.not_not.1 h4
            unfold endC at h6
            split at h6
            · omega
            · rename_i h7
              split at h6
              · rename_i h8
                refine ⟨?_, Classical.not_not.1 h5⟩
                rw [← tact_back hta (Classical.not_not.1 h7) (List.length_eq_zero_iff.1 h8), hif1.1]
                exact ft_whole hft h3
              · cases h6
end Go.Proofs.YtiaijpknnomlnaaGreat
