/- What follows a projection, as the document says it: numbers and lists; nothing of the program. -/
import Derived.Test.YtjbodokligpcaaaGreatPjM
namespace Go.Proofs.YtjbodokligpcaaaGreat

/-- A chain without what is gone. -/
def dropL (g : Int → Bool) (c : List Int) : List Int := c.filter fun u => !g u
def inB (d : List Int) (u : Int) : Bool := d.contains u
theorem inB_iff {d : List Int} {u : Int} : inB d u = true ↔ u ∈ d := by simp [inB]

/-- Those that fit, each once. -/
def onceL (f : Int → Bool) (l : List Int) : List Int := l.foldl (fun acc u => if f u = true ∧ ¬ u ∈ acc then acc ++ [u] else acc) []
theorem onceL_snoc (f : Int → Bool) (l : List Int) (u : Int) : onceL f (l ++ [u]) = if f u = true ∧ ¬ u ∈ onceL f l then onceL f l ++ [u] else onceL f l := by unfold onceL; rw [List.foldl_append]; rfl
theorem onceL_nil (f : Int → Bool) : onceL f [] = [] := rfl
theorem onceL_facts (f : Int → Bool) (l : List Int) : (onceL f l).Nodup ∧ (∀ x, x ∈ onceL f l ↔ x ∈ l ∧ f x = true) ∧ (onceL f l).length ≤ l.length := by
  have key : ∀ r : List Int, (onceL f r.reverse).Nodup ∧ (∀ x, x ∈ onceL f r.reverse ↔ x ∈ r.reverse ∧ f x = true) ∧ (onceL f r.reverse).length ≤ r.reverse.length := by
    intro r
    induction r with
    | nil => simp [onceL]
    | cons u r ih =>
      obtain ⟨h1, h2, h3⟩ := ih
      rw [List.reverse_cons, onceL_snoc]
      split
      · rename_i h
        refine ⟨?_, fun x => ?_, ?_⟩
        · rw [List.nodup_append]
          refine ⟨h1, by simp, fun a ha b hb => ?_⟩
          rw [List.mem_singleton] at hb
          subst hb
          intro e
          subst e
          exact h.2 ha
        · rw [List.mem_append, List.mem_append, h2, List.mem_singleton]
          constructor
          · rintro (⟨a, b⟩ | rfl)
            · exact ⟨.inl a, b⟩
            · exact ⟨.inr rfl, h.1⟩
          · rintro ⟨a | rfl, b⟩
            · exact .inl ⟨a, b⟩
            · exact .inr rfl
        · simp only [List.length_append, List.length_cons, List.length_nil]; omega
      · rename_i h
        refine ⟨h1, fun x => ?_, by simp only [List.length_append, List.length_cons, List.length_nil]; omega⟩
        rw [h2, List.mem_append, List.mem_singleton]
        constructor
        · rintro ⟨a, b⟩; exact ⟨.inl a, b⟩
        · rintro ⟨a | rfl, b⟩
          · exact ⟨a, b⟩
          · have : x ∈ onceL f r.reverse := Classical.byContradiction fun hn => h ⟨b, hn⟩
            exact (h2 x).1 this
  have := key l.reverse
  rwa [List.reverse_reverse] at this
theorem onceL_prefix (f : Int → Bool) (l : List Int) (k : Nat) : onceL f (l.take k) <+: onceL f l := by
  have key : ∀ (m a : List Int), onceL f a <+: onceL f (a ++ m) := by
    intro m
    induction m with
    | nil => intro a; simp
    | cons u m ih =>
      intro a
      have h1 := ih (a ++ [u])
      rw [List.append_assoc] at h1
      refine List.IsPrefix.trans ?_ h1
      rw [onceL_snoc]
      split
      · exact ⟨[u], rfl⟩
      · exact List.prefix_rfl
  have := key (l.drop k) (l.take k)
  rwa [List.take_append_drop] at this

/-- The spares dealt out: each chain is as long as it was, as far as they go. -/
def deal : List (List Int) → List (List Int) → List Int → List (List Int)
  | c :: cs, l :: ls, fr => (l ++ fr.take (c.length - l.length)) :: deal cs ls (fr.drop (c.length - l.length))
  | _, _, _ => []
/-- What is free. -/
def freeL (cs : List (List Int)) (dead spares : List Int) : List Int := onceL (fun u => !inB dead u && !inB (unitsL cs.flatten) u) spares
def leftL (cs : List (List Int)) (dead : List Int) : List (List Int) := cs.map (dropL (inB dead))
def nextL (cs : List (List Int)) (dead spares : List Int) : List (List Int) := deal cs (leftL cs dead) (freeL cs dead spares)
/-- The error. -/
def nchk (ep : Int) (cs : List (List Int)) (dead spares : List Int) : Nat :=
  if pchk ep cs ≠ 0 then pchk ep cs else if dead.all unitB = false ∨ spares.all unitB = false then 1 else if ep = 1099511627776 then 5 else if (leftL cs dead).all (fun c => !c.isEmpty) = false then 13 else 0

theorem deal_length : ∀ (cs ls : List (List Int)) (fr : List Int), cs.length = ls.length → (deal cs ls fr).length = cs.length
  | [], [], _, _ => rfl
  | c :: cs, l :: ls, fr, h => by
    rw [deal, List.length_cons, deal_length cs ls _ (by simpa using h), List.length_cons]
theorem leftL_length (cs : List (List Int)) (dead : List Int) : (leftL cs dead).length = cs.length := by simp [leftL]
/-- How many have been dealt out ahead of chain i. -/
def dealt : List (List Int) → List (List Int) → Nat → Nat
  | c :: cs, l :: ls, i + 1 => (c.length - l.length) + dealt cs ls i
  | _, _, _ => 0
theorem deal_get : ∀ (cs ls : List (List Int)) (fr : List Int) (i : Nat), cs.length = ls.length → i < cs.length →
    (deal cs ls fr).getD i [] = ls.getD i [] ++ (fr.drop (dealt cs ls i)).take ((cs.getD i []).length - (ls.getD i []).length)
  | c :: cs, l :: ls, fr, 0, _, _ => by simp [deal, dealt]
  | c :: cs, l :: ls, fr, i + 1, h, hi => by
    have h1 := deal_get cs ls (fr.drop (c.length - l.length)) i (by simpa using h) (by simpa using hi)
    simp only [deal, dealt, List.getD_cons_succ]
    rw [h1, List.drop_drop]
theorem dealt_succ : ∀ (cs ls : List (List Int)) (i : Nat), cs.length = ls.length → i < cs.length → dealt cs ls (i + 1) = dealt cs ls i + ((cs.getD i []).length - (ls.getD i []).length)
  | c :: cs, l :: ls, 0, _, _ => by simp [dealt]
  | c :: cs, l :: ls, i + 1, h, hi => by
    have h1 := dealt_succ cs ls i (by simpa using h) (by simpa using hi)
    simp only [dealt, List.getD_cons_succ] at h1 ⊢
    omega

theorem dropL_le (g : Int → Bool) (c : List Int) : (dropL g c).length ≤ c.length := List.length_filter_le _ _
theorem leftL_get (cs : List (List Int)) (dead : List Int) (i : Nat) (h : i < cs.length) : (leftL cs dead).getD i [] = dropL (inB dead) (cs.getD i []) := by
  unfold leftL
  rw [List.getD_eq_getElem?_getD, List.getD_eq_getElem?_getD, List.getElem?_map, List.getElem?_eq_getElem h]
  rfl

/-- What is dealt out and what is left is what was there: each in one place. -/
theorem deal_perm : ∀ (cs ls : List (List Int)) (fr : List Int), cs.length = ls.length → ((deal cs ls fr).flatten ++ fr.drop (dealt cs ls cs.length)).Perm (ls.flatten ++ fr)
  | [], [], fr, _ => by simp [deal, dealt]
  | c :: cs, l :: ls, fr, h => by
    have h1 := deal_perm cs ls (fr.drop (c.length - l.length)) (by simpa using h)
    simp only [deal, List.length_cons, dealt, List.flatten_cons]
    rw [List.drop_drop] at h1
    have e : fr = fr.take (c.length - l.length) ++ fr.drop (c.length - l.length) := (List.take_append_drop _ _).symm
    refine List.Perm.trans ?_ (show (l ++ fr.take (c.length - l.length) ++ (ls.flatten ++ fr.drop (c.length - l.length))).Perm _ from ?_)
    · rw [List.append_assoc (l ++ _)]
      exact List.Perm.append_left _ h1
    · conv => rhs; rw [e]
      rw [List.append_assoc, List.append_assoc]
      refine List.Perm.append_left _ ?_
      rw [← List.append_assoc, ← List.append_assoc]
      exact List.Perm.append_right _ List.perm_append_comm

theorem flatten_all {p : Int → Bool} {cs : List (List Int)} : cs.flatten.all p = true ↔ ∀ c ∈ cs, ∀ u ∈ c, p u = true := by
  rw [List.all_eq_true]
  constructor
  · intro h c hc u hu; exact h u (List.mem_flatten.2 ⟨c, hc, hu⟩)
  · intro h u hu
    obtain ⟨c, hc, hu⟩ := List.mem_flatten.1 hu
    exact h c hc u hu
theorem left_flatten (cs : List (List Int)) (dead : List Int) : (leftL cs dead).flatten = cs.flatten.filter fun u => !inB dead u := by
  unfold leftL dropL
  rw [List.filter_flatten]

/-- What follows a right projection is right. -/
theorem next_right {ep : Int} {cs : List (List Int)} {dead spares : List Int} (h : nchk ep cs dead spares = 0) : pchk ep cs = 0 ∧ pchk (ep + 1) (nextL cs dead spares) = 0 := by
  unfold nchk at h
  split at h
  · exact absurd h ‹_›
  rename_i h0
  have h0 : pchk ep cs = 0 := Classical.not_not.1 h0
  split at h
  · cases h
  rename_i h1
  split at h
  · cases h
  rename_i h2
  split at h
  · cases h
  rename_i h3
  refine ⟨h0, ?_⟩
  obtain ⟨e1, e2, e3, e4⟩ := pchk_zero.1 h0
  have e1 := epochB_iff.1 e1
  have e2 := formedB_iff.1 e2
  have hll := leftL_length cs dead
  have hdl := deal_length cs (leftL cs dead) (freeL cs dead spares) hll.symm
  have hof := onceL_facts (fun u => !inB dead u && !inB (unitsL cs.flatten) u) spares
  have hp := deal_perm cs (leftL cs dead) (freeL cs dead spares) hll.symm
  have h1 : dead.all unitB = true ∧ spares.all unitB = true := by
    constructor
    · exact Classical.byContradiction fun hc => h1 (.inl (by simpa using hc))
    · exact Classical.byContradiction fun hc => h1 (.inr (by simpa using hc))
  refine pchk_zero.2 ⟨epochB_iff.2 (by omega), formedB_iff.2 ⟨?_, fun c hc => ?_⟩, ?_, ?_⟩
  · unfold nextL; omega
  · obtain ⟨i, hi, rfl⟩ := List.getElem_of_mem hc
    have hi2 : i < cs.length := by unfold nextL at hi; omega
    have hg : (nextL cs dead spares).getD i [] = (nextL cs dead spares)[i] := by
      rw [List.getD_eq_getElem?_getD, List.getElem?_eq_getElem hi]; rfl
    rw [← hg]
    unfold nextL
    rw [deal_get _ _ _ _ hll.symm hi2, List.length_append, List.length_take, leftL_get _ _ _ hi2]
    have a := e2.2 (cs.getD i []) (by rw [List.getD_eq_getElem?_getD, List.getElem?_eq_getElem hi2]; exact List.getElem_mem hi2)
    have b := dropL_le (inB dead) (cs.getD i [])
    have d : 1 ≤ (dropL (inB dead) (cs.getD i [])).length := by
      have h4 : (leftL cs dead).all (fun c => !c.isEmpty) = true := (Bool.not_eq_false _).mp h3
      have h5 := List.all_eq_true.1 h4 ((leftL cs dead).getD i []) (by rw [List.getD_eq_getElem?_getD, List.getElem?_eq_getElem (by omega)]; exact List.getElem_mem (by omega))
      rw [leftL_get _ _ _ hi2] at h5
      cases hd : dropL (inB dead) (cs.getD i []) with
      | nil => rw [hd] at h5; cases h5
      | cons x l => simp
    omega
  · rw [List.all_eq_true]
    intro u hu
    have := (hp.mem_iff (a := u)).1 (List.mem_append.2 (.inl hu))
    rcases List.mem_append.1 this with hm | hm
    · rw [left_flatten] at hm
      exact List.all_eq_true.1 e3 u (List.mem_filter.1 hm).1
    · exact List.all_eq_true.1 h1.2 u ((hof.2.1 u).1 hm).1
  · have hn : ((leftL cs dead).flatten ++ freeL cs dead spares).Nodup := by
      rw [List.nodup_append]
      refine ⟨by rw [left_flatten]; exact e4.filter _, hof.1, fun a ha b hb => ?_⟩
      rw [left_flatten] at ha
      have ha := (List.mem_filter.1 ha).1
      have hb := ((hof.2.1 b).1 hb).2
      rintro rfl
      rw [Bool.and_eq_true] at hb
      have : inB (unitsL cs.flatten) a = true := inB_iff.2 (mem_unitsL.2 ha)
      rw [this] at hb
      cases hb.2
    exact (List.nodup_append.1 (hp.nodup_iff.2 hn)).1

/-- The scan of the spares for one chain, as the document does it: what is taken ahead of spare k. -/
theorem scan_step {f : Int → Bool} {sp : List Int} {k t need : Nat} (hk : k < sp.length) (hneed : 0 < need) (_hT : t ≤ (onceL f sp).length)
    (hful : max t (min (onceL f (sp.take k)).length (t + need)) < t + need) :
    (if f (sp.getD k 0) = true ∧ ¬ sp.getD k 0 ∈ (onceL f sp).take (max t (min (onceL f (sp.take k)).length (t + need))) then
      (onceL f sp).take (max t (min (onceL f (sp.take k)).length (t + need))) ++ [sp.getD k 0] else (onceL f sp).take (max t (min (onceL f (sp.take k)).length (t + need))))
    = (onceL f sp).take (max t (min (onceL f (sp.take (k + 1))).length (t + need))) := by
  have hs : sp.take (k + 1) = sp.take k ++ [sp.getD k 0] := by
    rw [List.take_succ_eq_append_getElem hk, List.getD_eq_getElem?_getD, List.getElem?_eq_getElem hk]; rfl
  have hp := onceL_prefix f sp k
  have hp1 := onceL_prefix f sp (k + 1)
  have hof := onceL_facts f sp
  rw [hs] at hp1 ⊢
  rw [onceL_snoc] at hp1 ⊢
  generalize sp.getD k 0 = x at *
  generalize onceL f (sp.take k) = d at *
  generalize onceL f sp = F at *
  have hd : d = F.take d.length := (List.prefix_iff_eq_take.1 hp)
  have hdl := hp.length_le
  by_cases hx : f x = true ∧ ¬ x ∈ d
  · rw [if_pos hx] at hp1 ⊢
    have hd1 : d ++ [x] = F.take (d.length + 1) := by have := List.prefix_iff_eq_take.1 hp1; simpa using this
    have hl1 := hp1.length_le
    simp only [List.length_append, List.length_cons, List.length_nil] at hl1 ⊢
    have hget : F[d.length]'(by omega) = x := by
      have h := congrArg (fun l => l[d.length]?) hd1
      rw [List.getElem?_append_right (Nat.le_refl _), List.getElem?_take, if_pos (Nat.lt_succ_self _), List.getElem?_eq_getElem (show d.length < F.length by omega)] at h
      simpa using h.symm
    by_cases hdt : d.length < t
    · have hin : x ∈ F.take (max t (min d.length (t + need))) := by
        rw [← hget, List.mem_take_iff_getElem]
        exact ⟨d.length, by omega, rfl⟩
      rw [if_neg (fun h => h.2 hin)]
      congr 1
      omega
    · have e : max t (min d.length (t + need)) = d.length := by omega
      have e1 : max t (min (d.length + 1) (t + need)) = d.length + 1 := by omega
      rw [e, e1, ← hd, if_pos hx, hd1]
  · rw [if_neg hx] at hp1 ⊢
    rw [if_neg]
    intro h
    apply hx
    refine ⟨h.1, fun hm => h.2 ?_⟩
    rw [hd] at hm
    rw [List.mem_take_iff_getElem] at hm ⊢
    obtain ⟨j, hj, e⟩ := hm
    exact ⟨j, by omega, e⟩

end Go.Proofs.YtjbodokligpcaaaGreat
