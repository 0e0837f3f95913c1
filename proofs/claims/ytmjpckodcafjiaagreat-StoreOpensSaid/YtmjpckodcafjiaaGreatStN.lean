/- For StoreWhole, mathematics: what a put, a delete and an opening leave of a disk whose files are all objects. -/
import Derived.Test.YtmjpckodcafjiaaGreatStM
namespace Go.Proofs.YtmjpckodcafjiaaGreat
open Go.RowKit

theorem Apart.del {α : Type} {l : Fm α} (h : Apart l) (n : Nm) : Apart (fdel l n) := List.Pairwise.filter _ h
theorem fdel_ne' {α : Type} {l : Fm α} {n : Nm} {x : Nm × α} (h : x ∈ fdel l n) : x.1 ≠ n := by
  have := (List.mem_filter.1 h).2
  simpa using this
theorem apart_fins {α : Type} {n : Nm} {t : α} : ∀ {l : Fm α}, Apart l → (∀ x ∈ l, x.1 ≠ n) → Apart (fins n t l)
  | [], _, _ => by unfold fins Apart; simp
  | x :: r, h, hn => by
    have h2 := List.pairwise_cons.1 h
    unfold fins
    split
    · exact List.pairwise_cons.2 ⟨fun y hy => (hn y hy).symm, h⟩
    · refine List.pairwise_cons.2 ⟨fun y hy => ?_, apart_fins h2.2 fun y hy => hn y (by simp [hy])⟩
      rcases mem_fins.1 hy with rfl | hy
      · exact hn x (by simp)
      · exact h2.1 y hy
theorem Apart.put {α : Type} {l : Fm α} (h : Apart l) (n : Nm) (t : α) : Apart (fput l n t) := apart_fins (h.del n) fun _ hx => fdel_ne' hx
theorem filter_fins {α : Type} {q : Nm → Bool} {n : Nm} (t : α) (hq : q n = false) : ∀ l : Fm α, (fins n t l).filter (fun f => q f.1) = l.filter fun f => q f.1
  | [] => by unfold fins; simp [hq]
  | x :: r => by
    unfold fins
    split
    · rw [List.filter_cons_of_neg (by simp [hq])]
    · rw [List.filter_cons, List.filter_cons, filter_fins t hq r]
theorem fdel_of_not {α : Type} {l : Fm α} {n : Nm} (h : ∀ x ∈ l, x.1 ≠ n) : fdel l n = l := List.filter_eq_self.2 fun x hx => by simpa using h x hx
theorem fdel_fins {α : Type} {l : Fm α} {n : Nm} (t : α) (h : ∀ x ∈ l, x.1 ≠ n) : fdel (fins n t l) n = l := by
  have h1 := filter_fins (q := fun m => !(m == n)) (n := n) t (by simp) l
  exact h1.trans (fdel_of_not h)
theorem fdel_put {α : Type} {l : Fm α} {n : Nm} (t : α) (h : ∀ x ∈ l, x.1 ≠ n) : fdel (fput l n t) n = l := by
  unfold fput
  rw [fdel_of_not h]
  exact fdel_fins t h
theorem fget_fins_same {α : Type} {n : Nm} (t : α) : ∀ {l : Fm α}, (∀ x ∈ l, x.1 ≠ n) → fget (fins n t l) n = some t
  | [], _ => by unfold fins fget; simp
  | x :: r, h => by
    have h1 := fget_fins_same t (l := r) fun y hy => h y (by simp [hy])
    have hx := h x (by simp)
    unfold fget at h1 ⊢
    unfold fins
    split
    · rw [List.find?_cons_of_pos (by simp)]; rfl
    · rw [List.find?_cons_of_neg (by simpa using hx)]; exact h1
theorem fget_put_same {α : Type} (l : Fm α) (n : Nm) (t : α) : fget (fput l n t) n = some t := fget_fins_same t fun _ hx => fdel_ne' hx

/-! ### Names of objects, and of what is under way -/
theorem snamed_named {n : Nm} (h : snamed n = true) : named n = true := by
  unfold snamed at h
  simp only [Bool.and_eq_true] at h
  exact h.1.2
theorem snamed_no {n : Nm} (h : snamed n = true) : tildeN n = false := by
  unfold snamed at h
  simp only [Bool.and_eq_true, Bool.not_eq_true'] at h
  cases n with
  | nil => rfl
  | cons a r =>
    have h2 := h.2
    unfold hasT at h2
    rw [List.any_cons, Bool.or_eq_false_iff] at h2
    unfold tildeN til
    have h3 : ¬ a = 126 := by simpa using h2.1
    simp [h3]
theorem til_named {n : Nm} (h : snamed n = true) : named (til :: n) = true := by
  unfold snamed named at h
  unfold named
  simp only [Bool.and_eq_true, decide_eq_true_eq, List.length_cons, List.all_cons] at h ⊢
  exact ⟨⟨by omega, by omega⟩, rfl, h.1.2.2⟩
theorem til_tilde (n : Nm) : tildeN (til :: n) = true := by unfold tildeN; simp
theorem til_ne (n : Nm) : til :: n ≠ n := fun e => by
  have := congrArg List.length e
  simp at this

/-- A disk whose files are all objects, and nothing is pending. -/
structure Fine (d : DS) : Prop where
  up : d.down = false
  chs : d.chs = []
  all : ∀ f ∈ d.sure, snamed f.1 = true
  apart : Apart d.sure
theorem Fine.shown {d : DS} (h : Fine d) : d.shown = d.sure := by unfold DS.shown; rw [h.chs]; rfl
theorem Fine.no {d : DS} (h : Fine d) {n : Nm} : ∀ x ∈ d.sure, x.1 ≠ til :: n := fun x hx e => by
  have h1 := snamed_no (h.all x hx)
  rw [e, til_tilde] at h1
  cases h1

/-! ### Opening -/
theorem swp_keeps : ∀ (ns : List Nm) (D D' : DS) (sm : Bool), D.down = false → D.fuse = -1 → (sm = true ∨ D.chs = []) → swp ns D sm = (D', 0) → D'.fuse = -1 ∧ D'.chs = []
  | [], D, D', sm, h1, h2, h3, h => by
    unfold swp at h
    cases sm
    · rcases h3 with h3 | h3
      · cases h3
      · cases h; exact ⟨h2, h3⟩
    · rw [if_pos rfl, dsync_calm h1 h2] at h
      cases h
      exact ⟨h2, rfl⟩
  | n :: r, D, D', sm, h1, h2, h3, h => by
    unfold swp at h
    split at h
    · have hdead : ¬ D.dead := by
        rintro (h | h)
        · rw [h1] at h; cases h
        · omega
      split at h
      · rename_i hz
        have e : (dremove D n).1.down = false ∧ (dremove D n).1.fuse = -1 := by
          obtain ⟨_, q2, q3⟩ := (opOk_remove D n).alive hdead
          exact ⟨q2.trans h1, by rw [q3, if_pos h2]⟩
        exact swp_keeps r _ D' true e.1 e.2 (.inl rfl) h
      · rename_i hz
        exact absurd (by rw [h]) hz
    · exact swp_keeps r D D' sm h1 h2 h3 h
/-- What is left of a disk that was cut and started: any files that are named, of which those under way go. -/
theorem reopen {d : DS} (h1 : d.down = false) (h2 : d.fuse = -1) (h3 : d.chs = []) (hn : ∀ f ∈ d.sure, named f.1 = true) (ha : Apart d.sure) :
    ∃ D, sopen d = (D, 0) ∧ D.down = false ∧ D.fuse = -1 ∧ D.chs = [] ∧ D.sure = d.sure.filter (fun f => !tildeN f.1) := by
  have hs : d.shown = d.sure := by unfold DS.shown; rw [h3]; rfl
  obtain ⟨D, e1, e2, e3, _⟩ := sopen_calm h1 h2 (by rw [hs]; exact hn) (by rw [hs]; exact ha)
  have e4 : D.fuse = -1 ∧ D.chs = [] := by
    have h4 := e1
    unfold sopen at h4
    split at h4
    · rename_i hz; exact absurd (congrArg Prod.snd h4) hz
    · exact swp_keeps _ d D false h1 h2 (.inr h3) h4
  refine ⟨D, e1, e2, e4.1, e4.2, ?_⟩
  rw [← hs, ← e3]
  unfold DS.shown
  rw [e4.2]; rfl

/-! ### A cut within an act -/
/-- A cut, a start, an opening: the files are then those of one of two rows. -/
def Reopens (d : DS) (A B : Fm (List Nat)) : Prop := ∀ ks, ∃ D, sopen (dstart (dcut d ks)) = (D, 0) ∧ Fine D ∧ D.fuse = -1 ∧ (D.sure = A ∨ D.sure = B)
theorem reopens_of {d : DS} {A B : Fm (List Nat)} (hA : ∀ f ∈ A, snamed f.1 = true) (hB : ∀ f ∈ B, snamed f.1 = true) (hpA : Apart A) (hpB : Apart B)
    (h : ∀ ks, (∀ f ∈ picked d.sure d.chs ks, named f.1 = true) ∧ Apart (picked d.sure d.chs ks) ∧ ((picked d.sure d.chs ks).filter (fun f => !tildeN f.1) = A ∨ (picked d.sure d.chs ks).filter (fun f => !tildeN f.1) = B)) : Reopens d A B := fun ks => by
  obtain ⟨k1, k2, k3⟩ := h ks
  have e : dstart (dcut d ks) = { d with sure := picked d.sure d.chs ks, chs := [], down := false, fuse := -1 } := by
    unfold dstart dcut
    simp
  obtain ⟨D, e1, e2, e3, e4, e5⟩ := reopen (d := dstart (dcut d ks)) (by rw [e]) (by rw [e]) (by rw [e]) (by rw [e]; exact k1) (by rw [e]; exact k2)
  rw [e] at e5
  simp only at e5
  refine ⟨D, e1, ?_, e3, ?_⟩
  · rcases k3 with k3 | k3
    · exact ⟨e2, e4, by rw [e5, k3]; exact hA, by rw [e5, k3]; exact hpA⟩
    · exact ⟨e2, e4, by rw [e5, k3]; exact hB, by rw [e5, k3]; exact hpB⟩
  · rw [e5]; exact k3
theorem all_put {l : Fm (List Nat)} (h : ∀ f ∈ l, snamed f.1 = true) {n : Nm} (hn : snamed n = true) (t : List Nat) : ∀ f ∈ fput l n t, snamed f.1 = true := fun f hf => by
  rcases mem_fput hf with rfl | hf
  · exact hn
  · exact h f hf
theorem keep_all {l : Fm (List Nat)} (h : ∀ f ∈ l, snamed f.1 = true) : l.filter (fun f => !tildeN f.1) = l := List.filter_eq_self.2 fun f hf => by rw [snamed_no (h f hf)]; rfl
theorem keep_til {l : Fm (List Nat)} (h : ∀ f ∈ l, snamed f.1 = true) (n : Nm) (t : List Nat) : (fput l (til :: n) t).filter (fun f => !tildeN f.1) = l := by
  unfold fput
  rw [fdel_of_not (fun x hx e => by have h1 := snamed_no (h x hx); rw [e, til_tilde] at h1; cases h1), filter_fins (q := fun m => !tildeN m) t (by rw [til_tilde]; rfl)]
  exact keep_all h

end Go.Proofs.YtmjpckodcafjiaaGreat
