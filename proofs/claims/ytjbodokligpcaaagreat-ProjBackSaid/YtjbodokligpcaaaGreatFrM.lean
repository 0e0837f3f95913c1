/- Frames, as the document says them: numbers and lists; nothing of the program. -/
import Derived.Test.YtjbodokligpcaaaGreatEnc
import Derived.Test.YtjbodokligpcaaaGreatCrcM
namespace Go.Proofs.YtjbodokligpcaaaGreat

/-- A text's bytes: their number, and they. -/
def fbody (t : List Nat) : List Nat := enc t.length ++ t
/-- A text's frame. -/
def fr (t : List Nat) : List Nat := fbody t ++ four (crcx 0 (fbody t))
/-- Frames, one behind the other. -/
def frs (ls : List (List Nat)) : List Nat := (ls.map fr).flatten

theorem frs_nil : frs [] = [] := rfl
theorem frs_cons (t : List Nat) (ls : List (List Nat)) : frs (t :: ls) = fr t ++ frs ls := rfl
theorem frs_append (a b : List (List Nat)) : frs (a ++ b) = frs a ++ frs b := by simp [frs]
theorem frs_one (t : List Nat) : frs [t] = fr t := by simp [frs]

/-- How many bytes a text's frame has. -/
def fsize (t : List Nat) : Nat := (enc t.length).length + t.length + 4
theorem fr_length (t : List Nat) : (fr t).length = fsize t := by simp [fr, fbody, fsize, four]; omega
theorem fsize_ge (t : List Nat) : t.length + 5 ≤ fsize t := by have := enc_pos t.length; unfold fsize; omega
theorem fbody_length (t : List Nat) : (fbody t).length = (enc t.length).length + t.length := by simp [fbody]

theorem fbody_byte {t : List Nat} (ht : ∀ y ∈ t, y < 256) (hu : U64 t.length) : ∀ y ∈ fbody t, y < 256 := app_byte (enc_u64 hu) ht
theorem fr_byte {t : List Nat} (ht : ∀ y ∈ t, y < 256) (hu : U64 t.length) : ∀ y ∈ fr t, y < 256 := app_byte (fbody_byte ht hu) (four_byte _)
theorem frs_byte {ls : List (List Nat)} (h : ∀ t ∈ ls, (∀ y ∈ t, y < 256) ∧ U64 t.length) : ∀ y ∈ frs ls, y < 256 := by
  intro y hy
  obtain ⟨l, hl, hy⟩ := List.mem_flatten.1 hy
  obtain ⟨t, ht, rfl⟩ := List.mem_map.1 hl
  exact fr_byte (h t ht).1 (h t ht).2 y hy

/-- What bytes begin with: the text, how many bytes its frame has, the error's number. -/
def FT (b t : List Nat) (s c : Nat) : Prop :=
  (c = 2 ∧ t = [] ∧ s = 0 ∧ ∀ m, U64 m → ¬ enc m <+: b) ∨
  ∃ n, U64 n ∧ enc n <+: b ∧
    ((c = 3 ∧ t = [] ∧ s = 0 ∧ 65536 < n) ∨
     (c = 2 ∧ t = [] ∧ s = 0 ∧ n ≤ 65536 ∧ b.length < (enc n).length + n + 4) ∨
     (c = 11 ∧ t = [] ∧ s = 0 ∧ n ≤ 65536 ∧ (enc n).length + n + 4 ≤ b.length ∧ four (crcx 0 (b.take ((enc n).length + n))) ≠ (b.drop ((enc n).length + n)).take 4) ∨
     (c = 0 ∧ t = (b.take ((enc n).length + n)).drop (enc n).length ∧ s = (enc n).length + n + 4 ∧ n ≤ 65536 ∧ (enc n).length + n + 4 ≤ b.length ∧ four (crcx 0 (b.take ((enc n).length + n))) = (b.drop ((enc n).length + n)).take 4))

theorem FT.unique {b t t' : List Nat} {s s' c c' : Nat} (h : FT b t s c) (h' : FT b t' s' c') : t = t' ∧ s = s' ∧ c = c' := by
  rcases h with ⟨h1, h2, h3, h4⟩ | ⟨n, hn, hp, h⟩ <;> rcases h' with ⟨g1, g2, g3, g4⟩ | ⟨m, gn, gp, g⟩
  · exact ⟨by rw [h2, g2], by rw [h3, g3], by rw [h1, g1]⟩
  · exact absurd gp (h4 _ gn)
  · exact absurd hp (g4 _ hn)
  · obtain rfl := enc_prefix_unique hp gp
    rcases h with ⟨h1, h2, h3, h4⟩ | ⟨h1, h2, h3, h4, h5⟩ | ⟨h1, h2, h3, h4, h5, h6⟩ | ⟨h1, h2, h3, h4, h5, h6⟩ <;>
    rcases g with ⟨g1, g2, g3, g4⟩ | ⟨g1, g2, g3, g4, g5⟩ | ⟨g1, g2, g3, g4, g5, g6⟩ | ⟨g1, g2, g3, g4, g5, g6⟩ <;>
    first
      | omega
      | exact absurd g6 h6
      | exact absurd h6 g6
      | exact ⟨by rw [h2, g2], by rw [h3, g3], by rw [h1, g1]⟩

theorem FT.bad {b t : List Nat} {s c : Nat} (h : FT b t s c) (hc : c ≠ 0) : t = [] ∧ s = 0 := by
  rcases h with ⟨h1, h2, h3, h4⟩ | ⟨n, hn, hp, h⟩
  · exact ⟨h2, h3⟩
  · rcases h with ⟨h1, h2, h3, h4⟩ | ⟨h1, h2, h3, h4, h5⟩ | ⟨h1, h2, h3, h4, h5, h6⟩ | ⟨h1, h2, h3, h4, h5, h6⟩
    · exact ⟨h2, h3⟩
    · exact ⟨h2, h3⟩
    · exact ⟨h2, h3⟩
    · exact absurd h1 hc

theorem FT.good {b t : List Nat} {s : Nat} (h : FT b t s 0) : 5 ≤ s ∧ s ≤ b.length ∧ t.length ≤ 65536 ∧ t.length ≤ s ∧ (∀ x ∈ t, x ∈ b) := by
  rcases h with ⟨h1, h2, h3, h4⟩ | ⟨n, hn, hp, h⟩
  · omega
  · rcases h with ⟨h1, h2, h3, h4⟩ | ⟨h1, h2, h3, h4, h5⟩ | ⟨h1, h2, h3, h4, h5, h6⟩ | ⟨h1, h2, h3, h4, h5, h6⟩
    · omega
    · omega
    · omega
    · have := enc_pos n
      subst h2
      refine ⟨by omega, by omega, ?_, ?_, fun x hx => List.mem_of_mem_take (List.mem_of_mem_drop hx)⟩
      · simp only [List.length_drop, List.length_take]; omega
      · simp only [List.length_drop, List.length_take]; omega

theorem FT.code {b t : List Nat} {s c : Nat} (h : FT b t s c) : c = 0 ∨ c = 2 ∨ c = 3 ∨ c = 11 := by
  rcases h with ⟨h1, _⟩ | ⟨n, _, _, h⟩
  · omega
  · rcases h with ⟨h1, _⟩ | ⟨h1, _⟩ | ⟨h1, _⟩ | ⟨h1, _⟩ <;> omega

/-- The texts of the frames ahead of the first one that has an error, how many bytes these have, that error's number (none: 0). -/
inductive Led : List Nat → List (List Nat) → Nat → Nat → Prop
  | over : Led [] [] 0 0
  | bad {b : List Nat} {c : Nat} : b ≠ [] → FT b [] 0 c → c ≠ 0 → Led b [] 0 c
  | more {b t : List Nat} {s : Nat} {ls : List (List Nat)} {k c : Nat} : FT b t s 0 → Led (b.drop s) ls k c → Led b (t :: ls) (s + k) c

theorem Led.unique {b : List Nat} {ls ls' : List (List Nat)} {k k' c c' : Nat} (h : Led b ls k c) (h' : Led b ls' k' c') : ls = ls' ∧ k = k' ∧ c = c' := by
  induction h generalizing ls' k' c' with
  | over =>
    cases h' with
    | over => exact ⟨rfl, rfl, rfl⟩
    | bad h1 => exact absurd rfl h1
    | more h1 _ => have := h1.good; simp at this; omega
  | bad h1 h2 h3 =>
    cases h' with
    | over => exact absurd rfl h1
    | bad g1 g2 g3 => exact ⟨rfl, rfl, (h2.unique g2).2.2⟩
    | more g1 _ => exact absurd (h2.unique g1).2.2 h3
  | more h1 h2 ih =>
    cases h' with
    | over => have := h1.good; simp at this; omega
    | bad g1 g2 g3 => exact absurd (g2.unique h1).2.2 g3
    | more g1 g2 =>
      obtain ⟨rfl, rfl, _⟩ := h1.unique g1
      obtain ⟨rfl, rfl, rfl⟩ := ih g2
      exact ⟨rfl, rfl, rfl⟩

theorem Led.le {b : List Nat} {ls : List (List Nat)} {k c : Nat} (h : Led b ls k c) : k ≤ b.length ∧ 5 * ls.length ≤ k := by
  induction h with
  | over => simp
  | bad => simp
  | more h1 _ ih =>
    have := h1.good
    simp only [List.length_drop] at ih
    simp only [List.length_cons]
    omega

theorem Led.texts {b : List Nat} {ls : List (List Nat)} {k c : Nat} (h : Led b ls k c) : ∀ t ∈ ls, ∀ x ∈ t, x ∈ b := by
  induction h with
  | over => simp
  | bad => simp
  | more h1 _ ih =>
    intro t ht x hx
    rcases List.mem_cons.1 ht with rfl | ht
    · exact h1.good.2.2.2.2 x hx
    · exact List.mem_of_mem_drop (ih t ht x hx)

theorem Led.all {b : List Nat} {ls : List (List Nat)} {k : Nat} (h : Led b ls k 0) : k = b.length := by
  generalize hc : 0 = c at h
  induction h with
  | over => rfl
  | bad _ _ h3 => exact absurd hc.symm h3
  | more h1 _ ih =>
    have := h1.good
    have := ih hc
    simp only [List.length_drop] at this
    omega

theorem u64_small {n : Nat} (h : n ≤ 65536) : U64 n := by unfold U64; omega

theorem take_fr {t : List Nat} (r : List Nat) : (fr t ++ r).take ((enc t.length).length + t.length) = fbody t ∧ ((fr t ++ r).drop ((enc t.length).length + t.length)).take 4 = four (crcx 0 (fbody t)) := by
  have h := fbody_length t
  constructor
  · unfold fr
    rw [List.append_assoc, List.take_left' h]
  · unfold fr
    rw [List.append_assoc, List.drop_left' h, List.take_left' (by rfl)]

/-- A frame, whatever stands behind it. -/
theorem ft_fr {t : List Nat} (ht : t.length ≤ 65536) (r : List Nat) : FT (fr t ++ r) t (fsize t) 0 := by
  obtain ⟨h1, h2⟩ := take_fr (t := t) r
  refine .inr ⟨t.length, u64_small ht, ?_, .inr (.inr (.inr ⟨rfl, ?_, rfl, ht, ?_, ?_⟩))⟩
  · exact ⟨t ++ four (crcx 0 (fbody t)) ++ r, by simp [fr, fbody]⟩
  · rw [h1]; simp [fbody]
  · rw [List.length_append, fr_length]; unfold fsize; omega
  · rw [h1, h2]

/-- What is cut off within its first frame. -/
theorem ft_cut {t : List Nat} (ht : t.length ≤ 65536) (r : List Nat) {k : Nat} (hk : k < fsize t) : FT ((fr t ++ r).take k) [] 0 2 := by
  have hu := u64_small ht
  have hpre : ∀ m, U64 m → enc m <+: (fr t ++ r).take k → m = t.length := fun m hm hp => by
    refine enc_prefix_unique (hp.trans (List.take_prefix _ _)) ?_
    exact ⟨t ++ four (crcx 0 (fbody t)) ++ r, by simp [fr, fbody]⟩
  by_cases h : enc t.length <+: (fr t ++ r).take k
  · refine .inr ⟨t.length, hu, h, .inr (.inl ⟨rfl, rfl, rfl, ht, ?_⟩)⟩
    rw [List.length_take]
    unfold fsize at hk
    omega
  · refine .inl ⟨rfl, rfl, rfl, fun m hm hp => h ?_⟩
    rw [← hpre m hm hp]
    exact hp

/-- Frames of texts that aren't too long are taken as they were. -/
theorem led_frs : ∀ (ls : List (List Nat)), (∀ t ∈ ls, t.length ≤ 65536) → Led (frs ls) ls (frs ls).length 0
  | [], _ => .over
  | t :: ls, h => by
    have h1 := led_frs ls fun x hx => h x (by simp [hx])
    have h2 := ft_fr (h t (by simp)) (frs ls)
    rw [frs_cons, List.length_append, fr_length]
    refine .more h2 ?_
    rw [List.drop_left' (fr_length t)]
    exact h1

/-- How many frames are whole within k bytes. -/
def whole : List (List Nat) → Nat → Nat
  | [], _ => 0
  | t :: ls, k => if fsize t ≤ k then whole ls (k - fsize t) + 1 else 0

theorem led_cut : ∀ (ls : List (List Nat)) (k : Nat), (∀ t ∈ ls, t.length ≤ 65536) → k ≤ (frs ls).length → ∃ c, Led ((frs ls).take k) (ls.take (whole ls k)) (frs (ls.take (whole ls k))).length c
  | [], k, _, hk => by
    refine ⟨0, ?_⟩
    simp only [frs_nil, List.take_nil, List.length_nil]
    exact .over
  | t :: ls, k, h, hk => by
    have ht := h t (by simp)
    by_cases hf : fsize t ≤ k
    · obtain ⟨c, hc⟩ := led_cut ls (k - fsize t) (fun x hx => h x (by simp [hx])) (by rw [frs_cons, List.length_append, fr_length] at hk; omega)
      refine ⟨c, ?_⟩
      rw [whole, if_pos hf, List.take_succ_cons, frs_cons, frs_cons, List.length_append, fr_length]
      have e : (fr t ++ frs ls).take k = fr t ++ (frs ls).take (k - fsize t) := by
        rw [List.take_append, fr_length, List.take_of_length_le (by rw [fr_length]; exact hf)]
      rw [e]
      refine .more (ft_fr ht _) ?_
      rw [List.drop_left' (fr_length t)]
      exact hc
    · rw [whole, if_neg hf]
      simp only [List.take_zero, frs_nil, List.length_nil]
      by_cases h0 : k = 0
      · subst h0
        exact ⟨0, by rw [List.take_zero]; exact .over⟩
      · refine ⟨2, .bad ?_ ?_ (by decide)⟩
        · intro he
          have h4 := congrArg List.length he
          rw [List.length_take, List.length_nil] at h4
          have h3 : (frs (t :: ls)).length = fsize t + (frs ls).length := by rw [frs_cons, List.length_append, fr_length]
          have := fsize_ge t
          omega
        · rw [frs_cons]
          exact ft_cut ht _ (by omega)

/-- What the statement's own count comes to. -/
theorem whole_stop : ∀ (ls : List (List Nat)) (k i : Nat), i ≤ ls.length → (frs (ls.take i)).length ≤ k → (i = ls.length ∨ k < (frs (ls.take i)).length + fsize (ls.getD i [])) → whole ls k = i
  | [], k, i, hi, _, _ => by simp at hi; subst hi; rfl
  | t :: ls, k, 0, _, _, h => by
    rcases h with h | h
    · simp at h
    · rw [whole, if_neg]
      simp [frs_nil] at h
      omega
  | t :: ls, k, i + 1, hi, h1, h2 => by
    rw [List.take_succ_cons, frs_cons, List.length_append, fr_length] at h1 h2
    rw [whole, if_pos (by omega), whole_stop ls (k - fsize t) i (by simpa using hi) (by omega)]
    rcases h2 with h2 | h2
    · left; simpa using h2
    · right
      rw [List.getD_cons_succ] at h2
      omega

/-- A frame of which one bit of its text or its sum is turned. -/
theorem ft_turned {t : List Nat} (ht : t.length ≤ 65536) (hb : ∀ y ∈ t, y < 256) {p : Nat} (hp : (enc t.length).length * 8 ≤ p) (hp2 : p < 8 * fsize t) : FT (cflip (fr t) p) [] 0 11 := by
  have hu := u64_small ht
  have hlen : (fr t).length = fsize t := fr_length t
  have hfb := fbody_length t
  have hbb := fbody_byte hb hu
  have hle : (cflip (fr t) p).length = fsize t := by rw [cflip_length, hlen]
  have hpre : enc t.length <+: cflip (fr t) p := by
    have e : (cflip (fr t) p).take (enc t.length).length = (fr t).take (enc t.length).length := by
      unfold cflip
      rw [List.take_set_of_le (by omega)]
    have e2 : (fr t).take (enc t.length).length = enc t.length := by
      unfold fr fbody
      rw [List.append_assoc, List.take_left' rfl]
    rw [e2] at e
    rw [← e]
    exact List.take_prefix _ _
  refine .inr ⟨t.length, hu, hpre, .inr (.inr (.inl ⟨rfl, rfl, rfl, ht, by rw [hle]; unfold fsize; omega, ?_⟩))⟩
  by_cases hin : p < 8 * (fbody t).length
  · have e1 : cflip (fr t) p = cflip (fbody t) p ++ four (crcx 0 (fbody t)) := by
      unfold cflip fr
      have hg : (fbody t ++ four (crcx 0 (fbody t))).getD (p / 8) 0 = (fbody t).getD (p / 8) 0 := by
        rw [List.getD_eq_getElem?_getD, List.getElem?_append_left (by omega), ← List.getD_eq_getElem?_getD]
      rw [hg, List.set_append_left _ _ (by omega)]
    have e2 : (cflip (fbody t) p).length = (enc t.length).length + t.length := by rw [cflip_length, hfb]
    rw [e1, List.take_left' e2, List.drop_left' e2]
    have e3 : (four (crcx 0 (fbody t))).take 4 = four (crcx 0 (fbody t)) := rfl
    rw [e3]
    intro he
    have hne : crcx 0 (cflip (fbody t) p) ≠ crcx 0 (fbody t) := by
      refine crcx_finds (place := p) (D := 1) (cflip_length _ _) ?_ (by omega) (by decide) (by decide)
      rw [cnum_flip hin, Nat.mul_one]
    exact hne (four_inj (crcx_lt (by decide) (cflip_byte hbb)) (crcx_lt (by decide) hbb) he)
  · have hge : (fbody t).length ≤ p / 8 := by omega
    have e1 : ∃ q, q ≠ four (crcx 0 (fbody t)) ∧ q.length = 4 ∧ cflip (fr t) p = fbody t ++ q := by
      refine ⟨(four (crcx 0 (fbody t))).set (p / 8 - (fbody t).length) ((four (crcx 0 (fbody t))).getD (p / 8 - (fbody t).length) 0 ^^^ 2 ^ (p % 8)), ?_, by simp [four], ?_⟩
      · intro he
        have hlt : p / 8 - (fbody t).length < (four (crcx 0 (fbody t))).length := by
          show _ < 4
          unfold fsize at hp2
          omega
        have h2 := congrArg (fun l => l.getD (p / 8 - (fbody t).length) 0) he
        simp only [List.getD_eq_getElem?_getD, List.getElem?_set_self hlt, Option.getD_some] at h2
        generalize (four (crcx 0 (fbody t)))[p / 8 - (fbody t).length]?.getD 0 = x at h2
        have h3 : x ^^^ (x ^^^ 2 ^ (p % 8)) = x ^^^ x := by rw [h2]
        rw [← Nat.xor_assoc, Nat.xor_self, Nat.zero_xor] at h3
        have := Nat.pow_pos (n := p % 8) (show 0 < 2 by decide)
        omega
      · unfold cflip fr
        have hg : (fbody t ++ four (crcx 0 (fbody t))).getD (p / 8) 0 = (four (crcx 0 (fbody t))).getD (p / 8 - (fbody t).length) 0 := by
          rw [List.getD_eq_getElem?_getD, List.getElem?_append_right hge, ← List.getD_eq_getElem?_getD]
        rw [hg, List.set_append_right _ _ hge]
    obtain ⟨q, hq, hq4, e1⟩ := e1
    rw [e1, List.take_left' hfb, List.drop_left' hfb, List.take_of_length_le (by omega)]
    exact fun h => hq h.symm

end Go.Proofs.YtjbodokligpcaaaGreat
