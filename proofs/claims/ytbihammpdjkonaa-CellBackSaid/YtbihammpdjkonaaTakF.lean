/- An item of a run, as the program takes it, is an item as the document says it. -/
import Derived.Test.YtbihammpdjkonaaTakE
namespace Go.Proofs.Ytbihammpdjkonaa
open Go.RowKit

theorem com_ge : ∀ (a b : List Nat) (n : Nat), n ≤ a.length → n ≤ b.length → a.take n = b.take n → n ≤ com a b
  | _, _, 0, _, _, _ => Nat.zero_le _
  | [], _, n + 1, h, _, _ => by simp at h
  | _ :: _, [], n + 1, _, h, _ => by simp at h
  | x :: a, y :: b, n + 1, h1, h2, h3 => by
    simp only [List.take_succ_cons, List.cons.injEq] at h3
    unfold com
    rw [if_pos h3.1]
    have := com_ge a b n (by simpa using h1) (by simpa using h2) h3.2
    omega

/-- The kind of the row just ahead, of a run's last kind. -/
def rowO : Option Nat → Option Nat
  | none => none
  | some k => if k = 1 then none else some k
theorem rowO_iff {lk : Option Nat} {k : Nat} (hk : k ≠ 1) : rowO lk = some k ↔ lk = some k := by
  cases lk with
  | none => simp [rowO]
  | some j =>
    simp only [rowO]
    split
    · next h => subst h; simp; exact fun e => hk e.symm
    · simp
theorem within_up (k c : Nat) : withinC k c 3 = upC k c 3 1 := by
  unfold withinC upC
  by_cases h : 3 < k
  · rw [if_pos (.inl h), if_pos h]
  · rw [if_neg (by omega), if_neg h]

theorem numr_err {rest r1 : List Nat} {c n c1 : Nat} (h : NumRel rest c n r1 c1) (hc : c1 ≠ 0) : n = 0 := by
  rcases h with ⟨_, h, _⟩ | ⟨_, _, _, h⟩ | ⟨_, h, _⟩
  · exact h
  · exact absurd h hc
  · exact h
theorem numr_had {rest r1 : List Nat} {c n c1 : Nat} (h : NumRel rest c n r1 c1) (hc : c ≠ 0) : n = 0 ∧ c1 = c := by
  rcases h with ⟨_, h, _, h2⟩ | ⟨h, _⟩ | ⟨h, _⟩
  · exact ⟨h, h2⟩
  · exact absurd h hc
  · exact absurd h hc
theorem upC_had {n c1 most code c : Nat} (hn : n = 0) (h1 : c1 = c) : upC n c1 most code = c := by
  subst hn h1
  unfold upC
  rw [if_neg (by omega)]
theorem upR_nought (most : Nat) : upR 0 most = 0 := by unfold upR; split <;> rfl

/-- With an error ahead nothing is taken, and it stays. -/
theorem data_had {last rest : List Nat} {c c' : Nat} {text rest' : List Nat} (h : DataRel last rest c text rest' c') (hc : c ≠ 0) : c' = c := by
  obtain ⟨size, r1, c1, s, r2, c2, out, c3, h1, h2, h3, ht, hcc⟩ := h
  obtain ⟨hs0, hc1⟩ := numr_had h1 hc
  have hu1 : upC size c1 64 3 = c := upC_had hs0 hc1
  rw [hu1] at h2
  obtain ⟨hs2, hc2⟩ := numr_had h2 hc
  rw [upC_had hs2 hc2] at h3
  rcases h3 with ⟨_, ho, _, h3⟩ | ⟨h, _⟩ | ⟨h, _⟩
  · rw [hs2, upR_nought, List.take_zero, ho] at ht
    rw [hcc, hs2, upR_nought, ht, if_neg (by rw [com_none']; omega)]
    exact h3
  · exact absurd h hc
  · exact absurd h hc
where com_none' {d : List Nat} : com d ([] ++ []) = 0 := by cases d <;> rfl

theorem data_item {left : Nat} {last rest r1 : List Nat} {row : Option Nat} {text rest' : List Nat} {c' : Nat} (hn : NumRel rest 0 0 r1 0) (hll : last.length ≤ 64) (h : DataRel last r1 0 text rest' c') :
    ∃ cells last' row' rest'', Item left last row rest cells last' row' rest'' c' ∧ (c' = 0 → cells = [(1, text)] ∧ last' = text ∧ row' = none ∧ rest'' = rest' ∧ text.length ≤ 64) := by
  obtain ⟨size, r2, c2, s, r3, c3, out, c4, h1, h2, h3, ht, hcc⟩ := h
  by_cases hc2 : c2 = 0
  · subst hc2
    by_cases h64 : 64 < size
    · have hu : upC size 0 64 3 = 3 := by unfold upC; rw [if_pos h64, if_pos rfl]
      have hr : upR size 64 = 0 := (up_bad (c := 0) (code := 0) h64).1
      rw [hu] at h2
      obtain ⟨hs2, hc3⟩ := numr_had h2 (by decide)
      rw [upC_had hs2 hc3] at h3
      have : c' = 3 := by
        rcases h3 with ⟨_, ho, _, h3⟩ | ⟨h, _⟩ | ⟨h, _⟩
        · rw [hcc, ht, hs2, upR_nought, List.take_zero, ho, h3]
          rw [if_neg]
          cases last <;> simp [com]
        · cases h
        · cases h
      subst this
      exact ⟨[], [], none, [], ⟨0, r1, 0, hn, .inr (.inr (.inr ⟨rfl, rfl, size, r2, 0, h1, .inr (.inl ⟨rfl, h64, rfl, rfl, rfl, rfl, rfl⟩)⟩))⟩, fun h => by cases h⟩
    · have hu : upC size 0 64 3 = 0 := (up_good (c := 0) (code := 3) h64).2
      have hr : upR size 64 = size := (up_good (c := 0) (code := 3) h64).1
      rw [hu] at h2
      rw [hr] at h3 ht hcc
      by_cases hc3 : c3 = 0
      · subst hc3
        by_cases hs : min size last.length < s
        · have hu2 : upC s 0 (min size last.length) 2 = 2 := by unfold upC; rw [if_pos hs, if_pos rfl]
          have hr2 : upR s (min size last.length) = 0 := (up_bad (c := 0) (code := 0) hs).1
          rw [hu2] at h3
          have : c' = 2 := by
            rcases h3 with ⟨_, ho, _, h3⟩ | ⟨h, _⟩ | ⟨h, _⟩
            · rw [hcc, ht, hr2, List.take_zero, ho, h3]
              rw [if_neg]
              cases last <;> simp [com]
            · cases h
            · cases h
          subst this
          exact ⟨[], [], none, [], ⟨0, r1, 0, hn, .inr (.inr (.inr ⟨rfl, rfl, size, r2, 0, h1, .inr (.inr ⟨rfl, by omega, s, r3, 0, h2, .inr (.inl ⟨rfl, by omega, rfl, rfl, rfl, rfl, rfl⟩)⟩)⟩))⟩, fun h => by cases h⟩
        · have hu2 : upC s 0 (min size last.length) 2 = 0 := (up_good (c := 0) (code := 2) hs).2
          have hr2 : upR s (min size last.length) = s := (up_good (c := 0) (code := 2) hs).1
          rw [hu2, hr2] at h3
          rw [hr2] at ht hcc
          have hs1 : s ≤ size := by omega
          have hs2 : s ≤ last.length := by omega
          rcases h3 with ⟨h, _⟩ | ⟨_, hm, ho, _, h4⟩ | ⟨_, _, hm, ho, hrr, h4⟩
          · exact absurd rfl h
          · have hcom : com last text = s := by
              rw [ht, ho, List.append_nil]
              refine com_eq last (last.take s) s hs2 (by rw [List.length_take]; omega) (by rw [List.take_take]; simp) (.inr (.inl (by rw [List.length_take]; omega)))
            have : c' = 2 := by rw [hcc, hcom, if_neg (by omega), h4]
            subst this
            exact ⟨[], [], none, [], ⟨0, r1, 0, hn, .inr (.inr (.inr ⟨rfl, rfl, size, r2, 0, h1, .inr (.inr ⟨rfl, by omega, s, r3, 0, h2, .inr (.inr ⟨rfl, hs1, hs2, .inl ⟨by omega, rfl, rfl, rfl, rfl, rfl⟩⟩)⟩)⟩))⟩, fun h => by cases h⟩
          · have hmany : ((size : Int) - (s : Int)).toNat = size - s := by omega
            rw [hmany] at ho hrr
            rw [ho] at ht
            have htl : text.length = size := by rw [ht, List.length_append, List.length_take, List.length_take]; omega
            have htt : text.take s = last.take s := by rw [ht, List.take_left' (by rw [List.length_take]; omega)]
            have hge : s ≤ com text last := com_ge text last s (by omega) hs2 htt
            rw [com_comm] at hcc
            by_cases hc : com text last = s
            · have : c' = 0 := by rw [hcc, hc, if_neg (by omega), h4]
              subst this
              refine ⟨[(1, text)], text, none, rest', ⟨0, r1, 0, hn, .inr (.inr (.inr ⟨rfl, rfl, size, r2, 0, h1, .inr (.inr ⟨rfl, by omega, s, r3, 0, h2, .inr (.inr ⟨rfl, hs1, hs2, .inr (.inr ⟨by omega, ?_, ?_, ?_, rfl, hrr, rfl⟩)⟩)⟩)⟩))⟩, fun _ => ⟨rfl, rfl, rfl, rfl, by omega⟩⟩
              · rw [← ht]; exact hc
              · rw [← ht]
              · exact ht
            · have : c' = 2 := by rw [hcc, if_pos (by omega), h4, if_pos rfl]
              subst this
              exact ⟨[], [], none, [], ⟨0, r1, 0, hn, .inr (.inr (.inr ⟨rfl, rfl, size, r2, 0, h1, .inr (.inr ⟨rfl, by omega, s, r3, 0, h2, .inr (.inr ⟨rfl, hs1, hs2, .inr (.inl ⟨by omega, by rw [← ht]; exact hc, rfl, rfl, rfl, rfl, rfl⟩)⟩)⟩)⟩))⟩, fun h => by cases h⟩
      · have hs0 := numr_err h2 hc3
        have hu2 : upC s c3 (min size last.length) 2 = c3 := upC_had hs0 rfl
        rw [hu2] at h3
        have : c' = c3 := by
          rcases h3 with ⟨_, ho, _, h3⟩ | ⟨h, _⟩ | ⟨h, _⟩
          · rw [hcc, ht, hs0, upR_nought, List.take_zero, ho, h3]
            rw [if_neg]
            cases last <;> simp [com]
          · exact absurd h hc3
          · exact absurd h hc3
        subst this
        exact ⟨[], [], none, [], ⟨0, r1, 0, hn, .inr (.inr (.inr ⟨rfl, rfl, size, r2, 0, h1, .inr (.inr ⟨rfl, by omega, s, r3, c', h2, .inl ⟨hc3, rfl, rfl, rfl, rfl, rfl⟩⟩)⟩))⟩, fun h => absurd h hc3⟩
  · have hs0 := numr_err h1 hc2
    have hu : upC size c2 64 3 = c2 := upC_had hs0 rfl
    rw [hu] at h2
    obtain ⟨hs2, hc3⟩ := numr_had h2 hc2
    rw [upC_had hs2 hc3] at h3
    have : c' = c2 := by
      rcases h3 with ⟨_, ho, _, h3⟩ | ⟨h, _⟩ | ⟨h, _⟩
      · rw [hcc, ht, hs2, upR_nought, List.take_zero, ho, h3]
        rw [if_neg]
        cases last <;> simp [com]
      · exact absurd h hc2
      · exact absurd h hc2
    subst this
    exact ⟨[], [], none, [], ⟨0, r1, 0, hn, .inr (.inr (.inr ⟨rfl, rfl, size, r2, c', h1, .inl ⟨hc2, rfl, rfl, rfl, rfl, rfl⟩⟩))⟩, fun h => absurd h hc2⟩

theorem row_item {left n : Nat} {last rest r1 r2 : List Nat} {lk : Option Nat} {k c1 : Nat} (hn : NumRel rest 0 n r1 0) (h0 : 0 < n) (hl : n ≤ left) (hk : NumRel r1 0 k r2 c1) :
    ∃ cells last' row' rest', Item left last (rowO lk) rest cells last' row' rest' (rowC k c1 lk) ∧ (rowC k c1 lk = 0 → cells = List.replicate n (k, []) ∧ last' = last ∧ row' = some k ∧ rest' = r2 ∧ k ≠ 1) := by
  by_cases hu : upC k c1 3 1 = 0
  · obtain ⟨rfl, hk3, _⟩ := up_zero hu
    by_cases hb : k = 1 ∨ lk = some k
    · have hc : rowC k 0 lk = 2 := by unfold rowC; rw [if_neg (by simpa using hu), if_pos hb]
      rw [hc]
      refine ⟨[], [], none, [], ⟨n, r1, 0, hn, .inr (.inr (.inl ⟨rfl, h0, hl, k, r2, 0, hk, .inr (.inl ⟨by rw [within_up]; exact hu, ?_, rfl, rfl, rfl, rfl, rfl⟩)⟩))⟩, fun h => by cases h⟩
      rcases hb with hb | hb
      · exact .inl hb
      · by_cases h1 : k = 1
        · exact .inl h1
        · exact .inr ((rowO_iff h1).2 hb)
    · have hc : rowC k 0 lk = 0 := by unfold rowC; rw [if_neg (by simpa using hu), if_neg hb]
      have h1 : k ≠ 1 := fun h => hb (.inl h)
      rw [hc]
      exact ⟨List.replicate n (k, []), last, some k, r2, ⟨n, r1, 0, hn, .inr (.inr (.inl ⟨rfl, h0, hl, k, r2, 0, hk, .inr (.inr ⟨by rw [within_up]; exact hu, h1, fun h => hb (.inr ((rowO_iff h1).1 h)), rfl, rfl, rfl, rfl, rfl⟩)⟩))⟩, fun _ => ⟨rfl, rfl, rfl, rfl, h1⟩⟩
  · have hc : rowC k c1 lk = upC k c1 3 1 := by unfold rowC; rw [if_pos hu]
    rw [hc]
    exact ⟨[], [], none, [], ⟨n, r1, 0, hn, .inr (.inr (.inl ⟨rfl, h0, hl, k, r2, c1, hk, .inl ⟨by rw [within_up]; exact hu, rfl, rfl, rfl, rfl, by rw [within_up]⟩⟩))⟩, fun h => absurd h hu⟩

end Go.Proofs.Ytbihammpdjkonaa
