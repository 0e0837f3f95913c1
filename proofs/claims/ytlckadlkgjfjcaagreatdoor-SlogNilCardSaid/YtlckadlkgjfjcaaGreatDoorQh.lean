/- A disk without power, or calm, as mathematics: what an operation leaves of changes and names. · A store on a disk, as mathematics: opening a calm disk; what a put, a delete, a cut and an opening leave. -/
import Derived.Test.YtlckadlkgjfjcaaGreatDoorDeP
namespace Go.Proofs.YtlckadlkgjfjcaaGreatDoor
open Go.RowKit

theorem fget_del_other {α : Type} {l : Fm α} {n m : Nm} (h : m ≠ n) : fget (fdel l m) n = fget l n := by
  unfold fget fdel
  induction l with
  | nil => rfl
  | cons x r ih =>
    by_cases hx : x.1 == m
    · rw [List.filter_cons_of_neg (by simp [hx])]
      have hxm : x.1 = m := by simpa using hx
      rw [List.find?_cons_of_neg (by rw [hxm]; simpa using h)]
      exact ih
    · rw [List.filter_cons_of_pos (by simp [hx])]
      rw [List.find?_cons, List.find?_cons]
      cases hn : x.1 == n
      · exact ih
      · rfl
theorem fget_ins_other {α : Type} {n m : Nm} (h : m ≠ n) (t : α) : ∀ l : Fm α, fget (fins m t l) n = fget l n
  | [] => by unfold fget fins; simp [h]
  | x :: r => by
    have ih := fget_ins_other h t r
    unfold fget at ih ⊢
    unfold fins
    split
    · rw [List.find?_cons_of_neg (by simpa using h)]
    · rw [List.find?_cons, List.find?_cons]
      cases hn : x.1 == n
      · exact ih
      · rfl
theorem fget_put_other {α : Type} {l : Fm α} {n m : Nm} (h : m ≠ n) (t : α) : fget (fput l m t) n = fget l n := by
  unfold fput
  rw [fget_ins_other h, fget_del_other h]
/-- What an operation leaves of changes: none where it fails, one where not. -/
theorem dwork_keeps (d : DS) : (dwork d).1.sure = d.sure ∧ (dwork d).1.chs = d.chs := by unfold dwork; split <;> exact ⟨rfl, rfl⟩
theorem dwrite_keeps (d : DS) (n : Nm) (b : List Nat) : (dwrite d n b).1.sure = d.sure ∧ (((dwrite d n b).2 = 0 ∧ (dwrite d n b).1.chs = d.chs ++ [⟨0, n, [], b⟩]) ∨ ((dwrite d n b).2 ≠ 0 ∧ (dwrite d n b).1.chs = d.chs)) := by
  obtain ⟨h1, h2⟩ := dwork_keeps d
  unfold dwrite
  split
  · rename_i h; exact ⟨h1, .inr ⟨h, h2⟩⟩
  · split
    · exact ⟨h1, .inr ⟨by simp, h2⟩⟩
    · split
      · exact ⟨h1, .inr ⟨by simp, h2⟩⟩
      · split
        · exact ⟨h1, .inr ⟨by simp, h2⟩⟩
        · exact ⟨h1, .inl ⟨rfl, by show (dwork d).1.chs ++ _ = _; rw [h2]⟩⟩
theorem drename_keeps (d : DS) (a b : Nm) : (drename d a b).1.sure = d.sure ∧ (((drename d a b).2 = 0 ∧ (drename d a b).1.chs = d.chs ++ [⟨1, a, b, []⟩]) ∨ ((drename d a b).2 ≠ 0 ∧ (drename d a b).1.chs = d.chs)) := by
  obtain ⟨h1, h2⟩ := dwork_keeps d
  unfold drename
  split
  · rename_i h; exact ⟨h1, .inr ⟨h, h2⟩⟩
  · split
    · exact ⟨h1, .inr ⟨by simp, h2⟩⟩
    · split
      · exact ⟨h1, .inr ⟨by simp, h2⟩⟩
      · exact ⟨h1, .inl ⟨rfl, by show (dwork d).1.chs ++ _ = _; rw [h2]⟩⟩
/-- An empty cut, a start. -/
theorem cut_start {d : DS} (hc : d.chs = []) (ks : List Bool) : dstart (dcut d ks) = { d with chs := [], down := false, fuse := -1 } := by
  unfold dstart dcut
  rw [hc]
  cases ks <;> rfl
theorem dsync_calm {d : DS} (h1 : d.down = false) (h2 : d.fuse = -1) : dsync d = ({ d with sure := d.shown, chs := [] }, 0) := by
  have h : ¬ d.dead := by
    rintro (h | h)
    · rw [h1] at h; cases h
    · omega
  unfold dsync
  rw [dwork_alive h, if_pos h2]
  obtain ⟨room, sure, chs, fuse, down⟩ := d
  simp only at h2
  subst h2
  rfl
theorem dlist_up {d : DS} (h : d.down = false) : dlist d = (srt (d.shown.map (·.1)), 0) := by unfold dlist; rw [if_neg (by rw [h]; decide)]
/-- A calm disk: the power is on, and no fuse is set. -/
def Calm (d : DS) (k : Nat) : Prop := d.down = false ∧ d.fuse = -1 ∧ d.sz ≤ k
theorem Calm.next {d : DS} {k : Nat} {r : DS × Nat} (h : Calm d k) (ho : OpOk d r) : Calm r.1 (k + 1) := by
  obtain ⟨h1, h2, h3⟩ := h
  obtain ⟨q1, q2, q3⟩ := ho.alive (by
    rintro (h | h)
    · rw [h1] at h; cases h
    · omega)
  exact ⟨by rw [q2, h1], by rw [q3, if_pos h2], by have := ho.sz; omega⟩
theorem fhas_put_same {α : Type} (l : Fm α) (n : Nm) (t : α) : fhas (fput l n t) n = true := by
  unfold fhas fput
  exact List.any_eq_true.2 ⟨(n, t), mem_fins.2 (.inl rfl), by simp⟩
end Go.Proofs.YtlckadlkgjfjcaaGreatDoor

namespace Go.Proofs.YtlckadlkgjfjcaaGreatDoor
open Go.RowKit

def tildeN (n : Nm) : Bool := n.take 1 == [til]
theorem fhas_iff {α : Type} {l : Fm α} {n : Nm} : fhas l n = true ↔ n ∈ l.map (·.1) := by
  unfold fhas
  rw [List.any_eq_true, List.mem_map]
  constructor
  · rintro ⟨f, hf, h⟩; exact ⟨f, hf, by simpa using h⟩
  · rintro ⟨f, hf, h⟩; exact ⟨f, hf, by simpa using h⟩
theorem dremove_calm {d : DS} {n : Nm} (h1 : d.down = false) (h2 : d.fuse = -1) (hn : named n = true) (hh : fhas d.shown n = true) : dremove d n = (dadd d ⟨2, n, [], []⟩, 0) ∧ (dadd d ⟨2, n, [], []⟩).shown = fdel d.shown n := by
  have h : ¬ d.dead := by
    rintro (h | h)
    · rw [h1] at h; cases h
    · omega
  constructor
  · unfold dremove
    rw [dwork_alive h, if_pos h2, if_neg (by simp), if_neg (by rw [hn]; simp), if_neg (by rw [hh]; simp)]
    obtain ⟨room, sure, chs, fuse, down⟩ := d
    simp only at h2
    subst h2
    rfl
  · have e : (dadd d ⟨2, n, [], []⟩).shown = capply d.shown ⟨2, n, [], []⟩ := by
      unfold DS.shown dadd
      exact shownOf_snoc _ _ _
    rw [e]
    unfold capply
    rw [if_neg (show ¬ ((2 : Nat) = 0) from by decide)]
    rw [fhas_get] at hh
    obtain ⟨t, ht⟩ := Option.isSome_iff_exists.1 hh
    simp only [ht]
    rfl
theorem swp_calm : ∀ (ns : List Nm) (D : DS) (sm : Bool), D.down = false → D.fuse = -1 → ns.Nodup → (∀ x ∈ ns, tildeN x = true → named x = true ∧ fhas D.shown x = true) →
    ∃ D', swp ns D sm = (D', 0) ∧ D'.down = false ∧ D'.shown = D.shown.filter (fun f => !(tildeN f.1 && ns.contains f.1)) ∧ D'.sz ≤ D.sz + ns.length
  | [], D, sm, h1, h2, _, _ => by
    have e : D.shown.filter (fun f => !(tildeN f.1 && ([] : List Nm).contains f.1)) = D.shown := List.filter_eq_self.2 fun x _ => by simp
    cases sm
    · exact ⟨D, rfl, h1, e.symm, Nat.le_refl _⟩
    · refine ⟨{ D with sure := D.shown, chs := [] }, ?_, h1, ?_, ?_⟩
      · show (if true = true then dsync D else (D, 0)) = _
        rw [if_pos rfl, dsync_calm h1 h2]
      · rw [e]; rfl
      · have := lenShown D
        show D.shown.length + 0 ≤ D.sz + 0
        omega
  | n :: r, D, sm, h1, h2, hnd, hn => by
    have hnd2 := List.nodup_cons.1 hnd
    unfold swp
    cases ht : tildeN n
    · have ht' : (n.take 1 == [til]) = false := ht
      rw [if_neg (by rw [ht']; decide)]
      obtain ⟨D', e1, e2, e3, e4⟩ := swp_calm r D sm h1 h2 hnd2.2 fun x hx => hn x (by simp [hx])
      refine ⟨D', e1, e2, ?_, by simp only [List.length_cons]; omega⟩
      rw [e3]
      refine List.filter_congr fun f _ => ?_
      by_cases hf : f.1 = n
      · rw [hf, ht]; rfl
      · rw [List.contains_cons, show (f.1 == n) = false from by simpa using hf, Bool.false_or]
    · have ht' : (n.take 1 == [til]) = true := ht
      rw [if_pos ht']
      obtain ⟨a1, a2⟩ := hn n (by simp) ht
      obtain ⟨b1, b2⟩ := dremove_calm h1 h2 a1 a2
      rw [b1]
      simp only [if_true]
      obtain ⟨D', e1, e2, e3, e4⟩ := swp_calm r (dadd D ⟨2, n, [], []⟩) true h1 h2 hnd2.2 fun x hx hx2 => by
        obtain ⟨c1, c2⟩ := hn x (by simp [hx]) hx2
        refine ⟨c1, ?_⟩
        rw [b2, fhas_get, fget_del_other (fun e => hnd2.1 (by rw [e]; exact hx)), ← fhas_get]
        exact c2
      refine ⟨D', e1, e2, ?_, ?_⟩
      · rw [e3, b2]
        unfold fdel
        rw [List.filter_filter]
        refine List.filter_congr fun f _ => ?_
        by_cases hf : f.1 = n
        · rw [hf, ht]; simp
        · rw [List.contains_cons, show (f.1 == n) = false from by simpa using hf, Bool.false_or]; simp
      · have e5 : (dadd D ⟨2, n, [], []⟩).sz = D.sz + 1 := by unfold DS.sz dadd; simp; omega
        simp only [List.length_cons]
        omega
theorem sopen_calm {d : DS} (h1 : d.down = false) (h2 : d.fuse = -1) (hn : ∀ f ∈ d.shown, named f.1 = true) (ha : Apart d.shown) :
    ∃ D, sopen d = (D, 0) ∧ D.down = false ∧ D.shown = d.shown.filter (fun f => !tildeN f.1) ∧ D.sz ≤ 2 * d.sz := by
  have hp := List.mergeSort_perm (d.shown.map (·.1)) (fun a b => decide (bytesBefore b a = false))
  obtain ⟨ns, hns⟩ : ∃ ns, ns = srt (d.shown.map (·.1)) := ⟨_, rfl⟩
  have hmem : ∀ x, x ∈ ns ↔ x ∈ d.shown.map (·.1) := fun x => by rw [hns]; exact List.mem_mergeSort
  have hnd : ns.Nodup := by
    rw [hns]
    unfold srt
    exact (List.mergeSort_perm _ _).nodup_iff.2 (List.pairwise_map.2 ha)
  have hl : ns.length ≤ d.sz := by rw [hns, srt_length, List.length_map]; exact lenShown d
  have e : dlist d = (ns, 0) := by rw [dlist_up h1, hns]
  obtain ⟨D, e1, e2, e3, e4⟩ := swp_calm ns d false h1 h2 hnd fun x hx _ => by
    have hx2 := (hmem x).1 hx
    obtain ⟨f, hf, rfl⟩ := List.mem_map.1 hx2
    exact ⟨hn f hf, fhas_iff.2 hx2⟩
  refine ⟨D, ?_, e2, ?_, by omega⟩
  · unfold sopen
    rw [e]
    exact e1
  · rw [e3]
    refine List.filter_congr fun f hf => ?_
    have : ns.contains f.1 = true := List.contains_iff_mem.2 ((hmem _).2 (List.mem_map_of_mem hf))
    rw [this, Bool.and_true]
theorem fget_filter {α : Type} {l : Fm α} {q : Nm → Bool} {n : Nm} : fget (l.filter fun f => q f.1) n = if q n = true then fget l n else none := by
  unfold fget
  induction l with
  | nil => simp
  | cons x r ih =>
    by_cases hx : x.1 = n
    · by_cases hq : q n = true
      · rw [List.filter_cons_of_pos (by rw [hx]; exact hq), List.find?_cons_of_pos (by simp [hx]), List.find?_cons_of_pos (by simp [hx]), if_pos hq]
      · rw [List.filter_cons_of_neg (by rw [hx]; exact hq), ih, if_neg hq, if_neg hq]
    · have h2 : (x.1 == n) = false := by simpa using hx
      rw [List.find?_cons_of_neg (by simp [hx])]
      by_cases hq : q x.1 = true
      · rw [List.filter_cons_of_pos (p := fun f : Nm × α => q f.1) hq, List.find?_cons_of_neg (by simp [hx]), ih]
      · rw [List.filter_cons_of_neg (p := fun f : Nm × α => q f.1) hq, ih]
theorem fget_del_same {α : Type} {l : Fm α} {n : Nm} : fget (fdel l n) n = none := by
  unfold fdel
  rw [fget_filter (q := fun m => !(m == n))]
  simp
theorem Apart.del {α : Type} {l : Fm α} (h : Apart l) (n : Nm) : Apart (fdel l n) := List.Pairwise.filter _ h
theorem fdel_ne' {α : Type} {l : Fm α} {n : Nm} {x : Nm × α} (h : x ∈ fdel l n) : x.1 ≠ n := by
  have := (List.mem_filter.1 h).2
  simpa using this
theorem apart_fins {α : Type} {n : Nm} {t : α} : ∀ {l : Fm α}, Apart l → (∀ x ∈ l, x.1 ≠ n) → Apart (fins n t l)
  | [], _, _ => by unfold fins Apart; simp
  | x :: r, h, hn => by
    have h2 := List.pairwise_cons.1 h
    unfold fins
    split
    · exact List.pairwise_cons.2 ⟨fun y hy => (hn y hy).symm, h⟩
    · refine List.pairwise_cons.2 ⟨fun y hy => ?_, apart_fins h2.2 fun y hy => hn y (by simp [hy])⟩
      rcases mem_fins.1 hy with rfl | hy
      · exact hn x (by simp)
      · exact h2.1 y hy
theorem Apart.put {α : Type} {l : Fm α} (h : Apart l) (n : Nm) (t : α) : Apart (fput l n t) := apart_fins (h.del n) fun _ hx => fdel_ne' hx
theorem filter_fins {α : Type} {q : Nm → Bool} {n : Nm} (t : α) (hq : q n = false) : ∀ l : Fm α, (fins n t l).filter (fun f => q f.1) = l.filter fun f => q f.1
  | [] => by unfold fins; simp [hq]
  | x :: r => by
    unfold fins
    split
    · rw [List.filter_cons_of_neg (by simp [hq])]
    · rw [List.filter_cons, List.filter_cons, filter_fins t hq r]
theorem fdel_of_not {α : Type} {l : Fm α} {n : Nm} (h : ∀ x ∈ l, x.1 ≠ n) : fdel l n = l := List.filter_eq_self.2 fun x hx => by simpa using h x hx
theorem fdel_fins {α : Type} {l : Fm α} {n : Nm} (t : α) (h : ∀ x ∈ l, x.1 ≠ n) : fdel (fins n t l) n = l := by
  have h1 := filter_fins (q := fun m => !(m == n)) (n := n) t (by simp) l
  exact h1.trans (fdel_of_not h)
theorem fdel_put {α : Type} {l : Fm α} {n : Nm} (t : α) (h : ∀ x ∈ l, x.1 ≠ n) : fdel (fput l n t) n = l := by
  unfold fput
  rw [fdel_of_not h]
  exact fdel_fins t h
theorem fget_fins_same {α : Type} {n : Nm} (t : α) : ∀ {l : Fm α}, (∀ x ∈ l, x.1 ≠ n) → fget (fins n t l) n = some t
  | [], _ => by unfold fins fget; simp
  | x :: r, h => by
    have h1 := fget_fins_same t (l := r) fun y hy => h y (by simp [hy])
    have hx := h x (by simp)
    unfold fget at h1 ⊢
    unfold fins
    split
    · rw [List.find?_cons_of_pos (by simp)]; rfl
    · rw [List.find?_cons_of_neg (by simpa using hx)]; exact h1
theorem fget_put_same {α : Type} (l : Fm α) (n : Nm) (t : α) : fget (fput l n t) n = some t := fget_fins_same t fun _ hx => fdel_ne' hx

/-! ### Names of objects, and of what is under way -/
theorem snamed_named {n : Nm} (h : snamed n = true) : named n = true := by
  unfold snamed at h
  simp only [Bool.and_eq_true] at h
  exact h.1.2
theorem snamed_no {n : Nm} (h : snamed n = true) : tildeN n = false := by
  unfold snamed at h
  simp only [Bool.and_eq_true, Bool.not_eq_true'] at h
  cases n with
  | nil => rfl
  | cons a r =>
    have h2 := h.2
    unfold hasT at h2
    rw [List.any_cons, Bool.or_eq_false_iff] at h2
    unfold tildeN til
    have h3 : ¬ a = 126 := by simpa using h2.1
    simp [h3]
theorem til_named {n : Nm} (h : snamed n = true) : named (til :: n) = true := by
  unfold snamed named at h
  unfold named
  simp only [Bool.and_eq_true, decide_eq_true_eq, List.length_cons, List.all_cons] at h ⊢
  exact ⟨⟨by omega, by omega⟩, rfl, h.1.2.2⟩
theorem til_tilde (n : Nm) : tildeN (til :: n) = true := by unfold tildeN; simp
/-- A disk whose files are all objects, and nothing is pending. -/
structure Fine (d : DS) : Prop where
  up : d.down = false
  chs : d.chs = []
  all : ∀ f ∈ d.sure, snamed f.1 = true
  apart : Apart d.sure
theorem Fine.shown {d : DS} (h : Fine d) : d.shown = d.sure := by unfold DS.shown; rw [h.chs]; rfl
theorem Fine.no {d : DS} (h : Fine d) {n : Nm} : ∀ x ∈ d.sure, x.1 ≠ til :: n := fun x hx e => by
  have h1 := snamed_no (h.all x hx)
  rw [e, til_tilde] at h1
  cases h1

/-! ### Opening -/
theorem swp_keeps : ∀ (ns : List Nm) (D D' : DS) (sm : Bool), D.down = false → D.fuse = -1 → (sm = true ∨ D.chs = []) → swp ns D sm = (D', 0) → D'.fuse = -1 ∧ D'.chs = []
  | [], D, D', sm, h1, h2, h3, h => by
    unfold swp at h
    cases sm
    · rcases h3 with h3 | h3
      · cases h3
      · cases h; exact ⟨h2, h3⟩
    · rw [if_pos rfl, dsync_calm h1 h2] at h
      cases h
      exact ⟨h2, rfl⟩
  | n :: r, D, D', sm, h1, h2, h3, h => by
    unfold swp at h
    split at h
    · have hdead : ¬ D.dead := by
        rintro (h | h)
        · rw [h1] at h; cases h
        · omega
      split at h
      · rename_i hz
        have e : (dremove D n).1.down = false ∧ (dremove D n).1.fuse = -1 := by
          obtain ⟨_, q2, q3⟩ := (opOk_remove D n).alive hdead
          exact ⟨q2.trans h1, by rw [q3, if_pos h2]⟩
        exact swp_keeps r _ D' true e.1 e.2 (.inl rfl) h
      · rename_i hz
        exact absurd (by rw [h]) hz
    · exact swp_keeps r D D' sm h1 h2 h3 h
/-- What is left of a disk that was cut and started: any files that are named, of which those under way go. -/
theorem reopen {d : DS} (h1 : d.down = false) (h2 : d.fuse = -1) (h3 : d.chs = []) (hn : ∀ f ∈ d.sure, named f.1 = true) (ha : Apart d.sure) :
    ∃ D, sopen d = (D, 0) ∧ D.down = false ∧ D.fuse = -1 ∧ D.chs = [] ∧ D.sure = d.sure.filter (fun f => !tildeN f.1) := by
  have hs : d.shown = d.sure := by unfold DS.shown; rw [h3]; rfl
  obtain ⟨D, e1, e2, e3, _⟩ := sopen_calm h1 h2 (by rw [hs]; exact hn) (by rw [hs]; exact ha)
  have e4 : D.fuse = -1 ∧ D.chs = [] := by
    have h4 := e1
    unfold sopen at h4
    split at h4
    · rename_i hz; exact absurd (congrArg Prod.snd h4) hz
    · exact swp_keeps _ d D false h1 h2 (.inr h3) h4
  refine ⟨D, e1, e2, e4.1, e4.2, ?_⟩
  rw [← hs, ← e3]
  unfold DS.shown
  rw [e4.2]; rfl

/-! ### A cut within an act -/
/-- A cut, a start, an opening: the files are then those of one of two rows. -/
def Reopens (d : DS) (A B : Fm (List Nat)) : Prop := ∀ ks, ∃ D, sopen (dstart (dcut d ks)) = (D, 0) ∧ Fine D ∧ D.fuse = -1 ∧ (D.sure = A ∨ D.sure = B)
theorem reopens_of {d : DS} {A B : Fm (List Nat)} (hA : ∀ f ∈ A, snamed f.1 = true) (hB : ∀ f ∈ B, snamed f.1 = true) (hpA : Apart A) (hpB : Apart B)
    (h : ∀ ks, (∀ f ∈ picked d.sure d.chs ks, named f.1 = true) ∧ Apart (picked d.sure d.chs ks) ∧ ((picked d.sure d.chs ks).filter (fun f => !tildeN f.1) = A ∨ (picked d.sure d.chs ks).filter (fun f => !tildeN f.1) = B)) : Reopens d A B := fun ks => by
  obtain ⟨k1, k2, k3⟩ := h ks
  have e : dstart (dcut d ks) = { d with sure := picked d.sure d.chs ks, chs := [], down := false, fuse := -1 } := by
    unfold dstart dcut
    simp
  obtain ⟨D, e1, e2, e3, e4, e5⟩ := reopen (d := dstart (dcut d ks)) (by rw [e]) (by rw [e]) (by rw [e]) (by rw [e]; exact k1) (by rw [e]; exact k2)
  rw [e] at e5
  simp only at e5
  refine ⟨D, e1, ?_, e3, ?_⟩
  · rcases k3 with k3 | k3
    · exact ⟨e2, e4, by rw [e5, k3]; exact hA, by rw [e5, k3]; exact hpA⟩
    · exact ⟨e2, e4, by rw [e5, k3]; exact hB, by rw [e5, k3]; exact hpB⟩
  · rw [e5]; exact k3
theorem all_put {l : Fm (List Nat)} (h : ∀ f ∈ l, snamed f.1 = true) {n : Nm} (hn : snamed n = true) (t : List Nat) : ∀ f ∈ fput l n t, snamed f.1 = true := fun f hf => by
  rcases mem_fput hf with rfl | hf
  · exact hn
  · exact h f hf
theorem keep_all {l : Fm (List Nat)} (h : ∀ f ∈ l, snamed f.1 = true) : l.filter (fun f => !tildeN f.1) = l := List.filter_eq_self.2 fun f hf => by rw [snamed_no (h f hf)]; rfl
theorem keep_til {l : Fm (List Nat)} (h : ∀ f ∈ l, snamed f.1 = true) (n : Nm) (t : List Nat) : (fput l (til :: n) t).filter (fun f => !tildeN f.1) = l := by
  unfold fput
  rw [fdel_of_not (fun x hx e => by have h1 := snamed_no (h x hx); rw [e, til_tilde] at h1; cases h1), filter_fins (q := fun m => !tildeN m) t (by rw [til_tilde]; rfl)]
  exact keep_all h
/-- One change, or none. -/
def OneCh (d : DS) (c : Ch) (r : DS × Nat) : Prop :=
  r.1.sure = d.sure ∧ ((r.2 = 14 ∧ r.1.chs = []) ∨ (r.2 ≠ 0 ∧ r.2 ≠ 14 ∧ r.1.chs = [] ∧ r.1.down = false) ∨ (r.2 = 0 ∧ r.1.chs = [c] ∧ r.1.down = false))
theorem one_of {d : DS} {c : Ch} {r : DS × Nat} (hk : r.1.sure = d.sure ∧ ((r.2 = 0 ∧ r.1.chs = d.chs ++ [c]) ∨ (r.2 ≠ 0 ∧ r.1.chs = d.chs))) (ho : OpOk d r) (h1 : d.down = false) (h2 : d.chs = []) : OneCh d c r := by
  obtain ⟨k1, k2⟩ := hk
  rw [h2] at k2
  refine ⟨k1, ?_⟩
  by_cases hd : d.dead
  · have h3 := (ho.dead hd).1
    rcases k2 with ⟨z, _⟩ | ⟨_, z⟩
    · rw [h3] at z; cases z
    · exact .inl ⟨h3, z⟩
  · obtain ⟨q1, q2, _⟩ := ho.alive hd
    rcases k2 with ⟨z, y⟩ | ⟨z, y⟩
    · exact .inr (.inr ⟨z, y, q2.trans h1⟩)
    · exact .inr (.inl ⟨z, q1, y, q2.trans h1⟩)
theorem sync_one {d : DS} {c : Ch} (h1 : d.down = false) (h2 : d.chs = [c]) :
    ((dsync d).2 = 14 ∧ (dsync d).1.sure = d.sure ∧ (dsync d).1.chs = [c]) ∨ ((dsync d).2 = 0 ∧ (dsync d).1.sure = capply d.sure c ∧ (dsync d).1.chs = [] ∧ (dsync d).1.down = false) := by
  have hs : d.shown = capply d.sure c := by unfold DS.shown; rw [h2]; rfl
  by_cases hd : d.dead
  · left
    have e : dsync d = ({ d with down := true }, 14) := by
      unfold dsync
      rw [dwork_dead hd, if_pos (by simp)]
    rw [e]
    exact ⟨rfl, rfl, h2⟩
  · right
    have e : dsync d = ({ d with sure := d.shown, chs := [], fuse := if d.fuse = -1 then -1 else d.fuse - 1 }, 0) := by
      unfold dsync
      rw [dwork_alive hd, if_neg (by simp)]
    rw [e]
    exact ⟨rfl, hs, rfl, h1⟩
theorem picked_one (S : Fm (List Nat)) (c : Ch) : ∀ ks, picked S [c] ks = S ∨ picked S [c] ks = capply S c
  | [] => .inl rfl
  | k :: ks => by
    cases k
    · left; cases ks <;> rfl
    · right; cases ks <;> rfl
theorem picked_none (S : Fm (List Nat)) (ks : List Bool) : picked S [] ks = S := by cases ks <;> rfl

/-- How a put or a delete ends. -/
def Next (d : DS) (S : Fm (List Nat)) (r : DS × Nat) : Prop :=
  (r.2 = 0 ∧ Fine r.1 ∧ r.1.sure = S) ∨ (r.2 ≠ 0 ∧ r.2 ≠ 14 ∧ Fine r.1 ∧ r.1.sure = d.sure) ∨ (r.2 = 14 ∧ Reopens r.1 d.sure S)
/-- What may lie there behind a cut. -/
structure MayLie (A B P : Fm (List Nat)) : Prop where
  named : ∀ f ∈ P, named f.1 = true
  apart : Apart P
  is : P.filter (fun f => !tildeN f.1) = A ∨ P.filter (fun f => !tildeN f.1) = B
theorem reopens_may {d : DS} {A B : Fm (List Nat)} (hA : ∀ f ∈ A, snamed f.1 = true) (hB : ∀ f ∈ B, snamed f.1 = true) (hpA : Apart A) (hpB : Apart B) (h : ∀ ks, MayLie A B (picked d.sure d.chs ks)) : Reopens d A B :=
  reopens_of hA hB hpA hpB fun ks => ⟨(h ks).named, (h ks).apart, (h ks).is⟩

theorem rename_zero {d : DS} {a b : Nm} (hd : ¬ d.dead) (ha : named a = true) (hb : named b = true) (hh : fhas d.shown a = true) : (drename d a b).2 = 0 := by
  unfold drename
  rw [dwork_alive hd, if_neg (by simp), if_neg (by rw [ha, hb]; simp), if_neg (by rw [hh]; simp)]

theorem put_next {d : DS} (h : Fine d) (n : Nm) (b : List Nat) : Next d (fput d.sure n b) (sput d n b) := by
  unfold sput
  split
  · exact .inr (.inl ⟨by simp, by simp, h, rfl⟩)
  · rename_i hsn
    have hn : snamed n = true := by simpa using hsn
    have hB := all_put h.all hn b
    have hpB := h.apart.put n b
    have hpT := h.apart.put (til :: n) b
    have mA : MayLie d.sure (fput d.sure n b) d.sure := ⟨fun f hf => snamed_named (h.all f hf), h.apart, .inl (keep_all h.all)⟩
    have mB : MayLie d.sure (fput d.sure n b) (fput d.sure n b) := ⟨fun f hf => snamed_named (hB f hf), hpB, .inr (keep_all hB)⟩
    have mT : MayLie d.sure (fput d.sure n b) (fput d.sure (til :: n) b) := ⟨fun f hf => by
      rcases mem_fput hf with rfl | hf
      · exact til_named hn
      · exact snamed_named (h.all f hf), hpT, .inl (keep_til h.all n b)⟩
    obtain ⟨e1, e2⟩ := one_of (dwrite_keeps d (til :: n) b) (opOk_write d (til :: n) b) h.up h.chs
    rcases e2 with ⟨z, y⟩ | ⟨z, z2, y, u⟩ | ⟨z, y, u⟩
    · rw [if_pos (by rw [z]; decide)]
      exact .inr (.inr ⟨z, reopens_may h.all hB h.apart hpB fun ks => by rw [y, e1, picked_none]; exact mA⟩)
    · rw [if_pos z]
      exact .inr (.inl ⟨z, z2, ⟨u, y, by rw [e1]; exact h.all, by rw [e1]; exact h.apart⟩, e1⟩)
    · rw [if_neg (by rw [z]; decide)]
      obtain ⟨d1, hd1⟩ : ∃ d1, d1 = (dwrite d (til :: n) b).1 := ⟨_, rfl⟩
      rw [← hd1] at e1 y u ⊢
      have hc : capply d.sure ⟨0, til :: n, [], b⟩ = fput d.sure (til :: n) b := rfl
      rcases sync_one u y with ⟨a1, a2, a3⟩ | ⟨a1, a2, a3, a4⟩
      · rw [if_pos (by rw [a1]; decide)]
        refine .inr (.inr ⟨a1, reopens_may h.all hB h.apart hpB fun ks => ?_⟩)
        rw [a2, a3, e1]
        rcases picked_one d.sure ⟨0, til :: n, [], b⟩ ks with e | e
        · rw [e]; exact mA
        · rw [e, hc]; exact mT
      · rw [if_neg (by rw [a1]; decide)]
        rw [e1, hc] at a2
        obtain ⟨d2, hd2⟩ : ∃ d2, d2 = (dsync d1).1 := ⟨_, rfl⟩
        rw [← hd2] at a2 a3 a4 ⊢
        have hsh : d2.shown = fput d.sure (til :: n) b := by unfold DS.shown; rw [a3, a2]; rfl
        have hcr : capply (fput d.sure (til :: n) b) ⟨1, til :: n, n, []⟩ = fput d.sure n b := by
          unfold capply
          rw [if_neg (show ¬ ((1 : Nat) = 0) from by decide), fget_put_same]
          simp only [if_true]
          rw [fdel_put b h.no]
        obtain ⟨f1, f2⟩ := one_of (drename_keeps d2 (til :: n) n) (opOk_rename d2 (til :: n) n) a4 a3
        rcases f2 with ⟨z3, y3⟩ | ⟨z3, z4, y3, u3⟩ | ⟨z3, y3, u3⟩
        · rw [if_pos (by rw [z3]; decide)]
          exact .inr (.inr ⟨z3, reopens_may h.all hB h.apart hpB fun ks => by rw [y3, f1, a2, picked_none]; exact mT⟩)
        · exfalso
          have hdd : ¬ d2.dead := fun hdd => z4 ((opOk_rename d2 (til :: n) n).dead hdd).1
          exact z3 (rename_zero hdd (til_named hn) (snamed_named hn) (by rw [hsh]; exact fhas_put_same _ _ _))
        · rw [if_neg (by rw [z3]; decide)]
          rcases sync_one u3 y3 with ⟨b1, b2, b3⟩ | ⟨b1, b2, b3, b4⟩
          · refine .inr (.inr ⟨b1, reopens_may h.all hB h.apart hpB fun ks => ?_⟩)
            rw [b2, b3, f1, a2]
            rcases picked_one (fput d.sure (til :: n) b) ⟨1, til :: n, n, []⟩ ks with e | e
            · rw [e]; exact mT
            · rw [e, hcr]; exact mB
          · rw [f1, a2, hcr] at b2
            exact .inl ⟨b1, ⟨b4, b3, by rw [b2]; exact hB, by rw [b2]; exact hpB⟩, b2⟩

end Go.Proofs.YtlckadlkgjfjcaaGreatDoor
