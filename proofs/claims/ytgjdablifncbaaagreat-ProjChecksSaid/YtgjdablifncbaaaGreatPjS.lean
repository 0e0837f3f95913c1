/- What follows a projection, scanned as the document scans it: numbers and lists; nothing of the program. -/
import Derived.Test.YtgjdablifncbaaaGreatPjN
namespace Go.Proofs.YtgjdablifncbaaaGreat

/-- How many have been taken ahead of spare k. -/
def tkn (f : Int → Bool) (sp : List Int) (t need k : Nat) : Nat := max t (min (onceL f (sp.take k)).length (t + need))
/-- The chain's row then. -/
def rowk (f : Int → Bool) (sp l : List Int) (t need k : Nat) : List Int := l ++ ((onceL f sp).take (tkn f sp t need k)).drop t
theorem tkn_ge (f : Int → Bool) (sp : List Int) (t need k : Nat) : t ≤ tkn f sp t need k := Nat.le_max_left _ _
theorem tkn_le (f : Int → Bool) (sp : List Int) (t need k : Nat) : tkn f sp t need k ≤ t + need := by unfold tkn; omega
theorem once_le (f : Int → Bool) (sp : List Int) (k : Nat) : (onceL f (sp.take k)).length ≤ (onceL f sp).length := (onceL_prefix f sp k).length_le
theorem rowk_length (f : Int → Bool) (sp l : List Int) (t need k : Nat) : (rowk f sp l t need k).length = l.length + (min (tkn f sp t need k) (onceL f sp).length - t) := by
  unfold rowk
  rw [List.length_append, List.length_drop, List.length_take]
theorem rowk_zero (f : Int → Bool) (sp l : List Int) (t need : Nat) : rowk f sp l t need 0 = l := by
  unfold rowk tkn
  rw [List.take_zero, onceL_nil, List.length_nil, Nat.zero_min, Nat.max_eq_left (Nat.zero_le _)]
  rw [List.drop_eq_nil_of_le (by rw [List.length_take]; omega), List.append_nil]
theorem rowk_le (f : Int → Bool) (sp l : List Int) (t need k : Nat) : (rowk f sp l t need k).length ≤ l.length + need := by
  rw [rowk_length]
  have := tkn_le f sp t need k
  omega
/-- One spare more. -/
theorem rowk_step {f : Int → Bool} {sp l : List Int} {t need k : Nat} (hk : k < sp.length) (hfull : (rowk f sp l t need k).length < l.length + need) :
    rowk f sp l t need (k + 1) = if f (sp.getD k 0) = true ∧ ¬ sp.getD k 0 ∈ (onceL f sp).take (tkn f sp t need k) then rowk f sp l t need k ++ [sp.getD k 0] else rowk f sp l t need k := by
  have hpre := once_le f sp k
  rw [rowk_length] at hfull
  have hlt : max t (min (onceL f (sp.take k)).length (t + need)) < t + need := by unfold tkn at hfull; omega
  have hs : (if f (sp.getD k 0) = true ∧ ¬ sp.getD k 0 ∈ (onceL f sp).take (tkn f sp t need k) then (onceL f sp).take (tkn f sp t need k) ++ [sp.getD k 0] else (onceL f sp).take (tkn f sp t need k)) = (onceL f sp).take (tkn f sp t need (k + 1)) := by
    by_cases htF : t ≤ (onceL f sp).length
    · exact scan_step hk (by omega) htF hlt
    · have hall : ∀ j, (onceL f sp).take (tkn f sp t need j) = onceL f sp := fun j => List.take_of_length_le (by have := tkn_ge f sp t need j; omega)
      rw [hall, hall, if_neg]
      rintro ⟨h1, h2⟩
      exact h2 (((onceL_facts f sp).2.1 _).2 ⟨by rw [List.getD_eq_getElem?_getD, List.getElem?_eq_getElem hk]; exact List.getElem_mem hk, h1⟩)
  unfold rowk
  rw [← hs]
  split
  · rename_i hc
    rw [if_pos hc] at hs
    have hlen := congrArg List.length hs
    rw [List.length_append, List.length_singleton, List.length_take, List.length_take] at hlen
    have hge := tkn_ge f sp t need k
    rw [List.drop_append_of_le_length (by rw [List.length_take]; omega), List.append_assoc]
  · rfl
/-- At the end the chain has its spares. -/
theorem rowk_end {f : Int → Bool} {sp l : List Int} {t need k : Nat} (h : sp.length ≤ k ∨ ¬ (rowk f sp l t need k).length < l.length + need) : rowk f sp l t need k = l ++ ((onceL f sp).drop t).take need := by
  have hge := tkn_ge f sp t need k
  have hle := tkn_le f sp t need k
  rw [rowk_length] at h
  unfold rowk
  congr 1
  rw [List.drop_take]
  rcases h with h | h
  · have e : onceL f (sp.take k) = onceL f sp := by rw [List.take_of_length_le h]
    have et : tkn f sp t need k = max t (min (onceL f sp).length (t + need)) := by unfold tkn; rw [e]
    rw [et]
    by_cases hn : (onceL f sp).length ≤ t + need
    · rw [List.take_of_length_le (by rw [List.length_drop]; omega), List.take_of_length_le (by rw [List.length_drop]; omega)]
    · congr 1; omega
  · congr 1; omega

/-- Who is in a chain, where the spares of the first i chains have been dealt out. -/
theorem deal_mem {x : Int} : ∀ (cs ls : List (List Int)) (fr : List Int) (i : Nat), cs.length = ls.length → i ≤ cs.length → (x ∈ ((deal cs ls fr).take i).flatten ↔ x ∈ (ls.take i).flatten ∨ x ∈ fr.take (dealt cs ls i))
  | [], [], fr, i, _, hi => by
    have h0 : i = 0 := by simpa using hi
    subst h0
    simp [deal, dealt]
  | c :: cs, l :: ls, fr, 0, _, _ => by simp [dealt]
  | c :: cs, l :: ls, fr, i + 1, h, hi => by
    have ih := deal_mem (x := x) cs ls (fr.drop (c.length - l.length)) i (by simpa using h) (by simpa using hi)
    simp only [deal, List.take_succ_cons, List.flatten_cons, List.mem_append, dealt]
    rw [ih, List.take_add, List.mem_append]
    constructor
    · rintro ((h | h) | h | h)
      · exact .inl (.inl h)
      · exact .inr (.inl h)
      · exact .inl (.inr h)
      · exact .inr (.inr h)
    · rintro ((h | h) | h | h)
      · exact .inl (.inl h)
      · exact .inr (.inl h)
      · exact .inl (.inr h)
      · exact .inr (.inr h)

/-- A spare is taken just where it fits, and hasn't been taken. -/
theorem fits_iff {cs : List (List Int)} {dead sp : List Int} {i k : Nat} {x : Int} (hi : i < cs.length) (need : Nat) (rows : List (List Int))
    (hrows : rows = (deal cs (leftL cs dead) (freeL cs dead sp)).take i ++ rowk (fun u => !inB dead u && !inB (unitsL cs.flatten) u) sp ((leftL cs dead).getD i []) (dealt cs (leftL cs dead) i) need k :: (leftL cs dead).drop (i + 1)) :
    (inB dead x = false ∧ rows.flatten.count x = 0) ↔ ((!inB dead x && !inB (unitsL cs.flatten) x) = true ∧ ¬ x ∈ (freeL cs dead sp).take (tkn (fun u => !inB dead u && !inB (unitsL cs.flatten) u) sp (dealt cs (leftL cs dead) i) need k)) := by
  have hll := leftL_length cs dead
  have hdm := deal_mem (x := x) cs (leftL cs dead) (freeL cs dead sp) i hll.symm (by omega)
  have hge := tkn_ge (fun u => !inB dead u && !inB (unitsL cs.flatten) u) sp (dealt cs (leftL cs dead) i) need k
  have hF : freeL cs dead sp = onceL (fun u => !inB dead u && !inB (unitsL cs.flatten) u) sp := rfl
  have hmem : x ∈ rows.flatten ↔ x ∈ (leftL cs dead).flatten ∨ x ∈ (freeL cs dead sp).take (tkn (fun u => !inB dead u && !inB (unitsL cs.flatten) u) sp (dealt cs (leftL cs dead) i) need k) := by
    have hsplit : (leftL cs dead).flatten = ((leftL cs dead).take i).flatten ++ ((leftL cs dead).getD i [] ++ ((leftL cs dead).drop (i + 1)).flatten) := by
      conv => lhs; rw [← List.take_append_drop i (leftL cs dead), List.drop_eq_getElem_cons (show i < (leftL cs dead).length by omega)]
      rw [List.flatten_append, List.flatten_cons, List.getD_eq_getElem?_getD, List.getElem?_eq_getElem (show i < (leftL cs dead).length by omega)]
      rfl
    have htk : (freeL cs dead sp).take (tkn (fun u => !inB dead u && !inB (unitsL cs.flatten) u) sp (dealt cs (leftL cs dead) i) need k) = (freeL cs dead sp).take (dealt cs (leftL cs dead) i) ++ ((freeL cs dead sp).take (tkn (fun u => !inB dead u && !inB (unitsL cs.flatten) u) sp (dealt cs (leftL cs dead) i) need k)).drop (dealt cs (leftL cs dead) i) := by
      conv => lhs; rw [← List.take_append_drop (dealt cs (leftL cs dead) i) (List.take (tkn _ sp (dealt cs (leftL cs dead) i) need k) (freeL cs dead sp))]
      rw [List.take_take, Nat.min_eq_left hge]
    rw [hrows, hsplit, htk]
    simp only [List.flatten_append, List.flatten_cons, List.mem_append]
    unfold rowk
    rw [hdm, List.mem_append, ← hF]
    constructor
    · rintro ((h | h) | (h | h) | h)
      · exact .inl (.inl h)
      · exact .inr (.inl h)
      · exact .inl (.inr (.inl h))
      · exact .inr (.inr h)
      · exact .inl (.inr (.inr h))
    · rintro ((h | h | h) | h | h)
      · exact .inl (.inl h)
      · exact .inr (.inl (.inl h))
      · exact .inr (.inr h)
      · exact .inl (.inr h)
      · exact .inr (.inl (.inr h))
  rw [List.count_eq_zero, hmem, left_flatten, List.mem_filter, Bool.and_eq_true]
  have hun : inB (unitsL cs.flatten) x = true ↔ x ∈ cs.flatten := inB_iff.trans mem_unitsL
  constructor
  · rintro ⟨h1, h2⟩
    refine ⟨⟨by rw [h1]; rfl, ?_⟩, fun h => h2 (.inr h)⟩
    rw [Bool.not_eq_true', Bool.eq_false_iff]
    intro h
    exact h2 (.inl ⟨hun.1 h, by rw [h1]; rfl⟩)
  · rintro ⟨⟨h1, h2⟩, h3⟩
    have h1 : inB dead x = false := by simpa using h1
    refine ⟨h1, ?_⟩
    rintro (⟨h4, _⟩ | h4)
    · rw [hun.2 h4] at h2; cases h2
    · exact h3 h4

end Go.Proofs.YtgjdablifncbaaaGreat
