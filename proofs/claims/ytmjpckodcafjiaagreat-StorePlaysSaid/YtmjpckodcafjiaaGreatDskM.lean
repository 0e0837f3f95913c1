/- Files as mathematics: names, what stands at them, what a change does; a disk. Nothing of the program. -/
import Derived.Test.YtmjpckodcafjiaaGreatBase
import Derived.Maps.OwnSet
namespace Go.Proofs.YtmjpckodcafjiaaGreat
open Go.RowKit

abbrev Nm := List UInt8
/-- Names, rising, each with what stands at it. -/
abbrev Fm (α : Type) := List (Nm × α)

section
variable {α β : Type}
def fget (l : Fm α) (n : Nm) : Option α := (l.find? fun f => f.1 == n).map (·.2)
def fhas (l : Fm α) (n : Nm) : Bool := l.any fun f => f.1 == n
def fdel (l : Fm α) (n : Nm) : Fm α := l.filter fun f => !(f.1 == n)
def fins (n : Nm) (t : α) : Fm α → Fm α
  | [] => [(n, t)]
  | x :: r => if bytesBefore n x.1 then (n, t) :: x :: r else x :: fins n t r
def fput (l : Fm α) (n : Nm) (t : α) : Fm α := fins n t (fdel l n)

theorem fins_length (n : Nm) (t : α) : ∀ l : Fm α, (fins n t l).length = l.length + 1
  | [] => rfl
  | x :: r => by
    unfold fins
    split
    · rfl
    · simp [fins_length n t r]
theorem fdel_length (l : Fm α) (n : Nm) : (fdel l n).length ≤ l.length := List.length_filter_le _ _
theorem fget_some {l : Fm α} {n : Nm} {t : α} (h : fget l n = some t) : (n, t) ∈ l := by
  unfold fget at h
  obtain ⟨f, hf, rfl⟩ := Option.map_eq_some_iff.1 h
  have h1 := List.mem_of_find?_eq_some hf
  have h2 := List.find?_some hf
  obtain rfl : f.1 = n := by simpa using h2
  exact h1
theorem fhas_get (l : Fm α) (n : Nm) : fhas l n = (fget l n).isSome := by
  unfold fhas fget
  rw [Option.isSome_map]
  induction l with
  | nil => rfl
  | cons x r ih =>
    rw [List.any_cons, List.find?_cons]
    cases h : x.1 == n
    · simpa using ih
    · rfl
theorem mem_fins {n : Nm} {t : α} {y : Nm × α} : ∀ {l : Fm α}, y ∈ fins n t l ↔ y = (n, t) ∨ y ∈ l
  | [] => by simp [fins]
  | x :: r => by
    unfold fins
    split
    · simp
    · rw [List.mem_cons, mem_fins (l := r), List.mem_cons]
      constructor
      · rintro (h | h | h)
        · exact .inr (.inl h)
        · exact .inl h
        · exact .inr (.inr h)
      · rintro (h | h | h)
        · exact .inr (.inl h)
        · exact .inl h
        · exact .inr (.inr h)
theorem mem_fput {l : Fm α} {n : Nm} {t : α} {y : Nm × α} (h : y ∈ fput l n t) : y = (n, t) ∨ y ∈ l := by
  rcases mem_fins.1 h with h | h
  · exact .inl h
  · exact .inr (List.mem_filter.1 h).1
theorem mem_fdel {l : Fm α} {n : Nm} {y : Nm × α} (h : y ∈ fdel l n) : y ∈ l := (List.mem_filter.1 h).1

/-- Two rows of the same names; what stands at them is told by R. -/
inductive Zip (R : α → β → Prop) : Fm α → Fm β → Prop
  | nil : Zip R [] []
  | cons {n : Nm} {a : α} {b : β} {l : Fm α} {m : Fm β} : R a b → Zip R l m → Zip R ((n, a) :: l) ((n, b) :: m)
theorem Zip.length {R : α → β → Prop} {l : Fm α} {m : Fm β} (h : Zip R l m) : l.length = m.length := by
  induction h with
  | nil => rfl
  | cons _ _ ih => simp [ih]
theorem Zip.mono {R S : α → β → Prop} {l : Fm α} {m : Fm β} (h : Zip R l m) (hs : ∀ a b, R a b → S a b) : Zip S l m := by
  induction h with
  | nil => exact .nil
  | cons h _ ih => exact .cons (hs _ _ h) ih
theorem Zip.names {R : α → β → Prop} {l : Fm α} {m : Fm β} (h : Zip R l m) : l.map (·.1) = m.map (·.1) := by
  induction h with
  | nil => rfl
  | cons _ _ ih => simp [ih]
theorem Zip.del {R : α → β → Prop} {l : Fm α} {m : Fm β} (h : Zip R l m) (n : Nm) : Zip R (fdel l n) (fdel m n) := by
  induction h with
  | nil => exact .nil
  | @cons k a b l m hr _ ih =>
    unfold fdel at ih ⊢
    cases hk : k == n
    · simp only [List.filter_cons, hk, Bool.not_false, if_true]; exact .cons hr ih
    · simp only [List.filter_cons, hk, Bool.not_true, Bool.false_eq_true, if_false]; exact ih
theorem Zip.ins {R : α → β → Prop} {l : Fm α} {m : Fm β} (h : Zip R l m) (n : Nm) {a : α} {b : β} (hr : R a b) : Zip R (fins n a l) (fins n b m) := by
  induction h with
  | nil => exact .cons hr .nil
  | @cons k a' b' l m hr' h' ih =>
    unfold fins
    by_cases hk : bytesBefore n k = true
    · simp only [hk, if_true]; exact .cons hr (.cons hr' h')
    · simp only [hk]; exact .cons hr' ih
theorem Zip.put {R : α → β → Prop} {l : Fm α} {m : Fm β} (h : Zip R l m) (n : Nm) {a : α} {b : β} (hr : R a b) : Zip R (fput l n a) (fput m n b) := (h.del n).ins n hr
theorem Zip.get {R : α → β → Prop} {l : Fm α} {m : Fm β} (h : Zip R l m) (n : Nm) : (fget l n = none ∧ fget m n = none) ∨ ∃ a b, fget l n = some a ∧ fget m n = some b ∧ R a b := by
  induction h with
  | nil => exact .inl ⟨rfl, rfl⟩
  | @cons k a' b' l m hr' h' ih =>
    unfold fget at ih ⊢
    rw [List.find?_cons, List.find?_cons]
    cases hk : k == n
    · exact ih
    · exact .inr ⟨a', b', rfl, rfl, hr'⟩
theorem Zip.has {R : α → β → Prop} {l : Fm α} {m : Fm β} (h : Zip R l m) (n : Nm) : fhas l n = fhas m n := by
  rw [fhas_get, fhas_get]
  rcases h.get n with ⟨h1, h2⟩ | ⟨a, b, h1, h2, _⟩ <;> rw [h1, h2] <;> rfl

/-- No name stands twice. -/
def Apart (l : Fm α) : Prop := l.Pairwise fun a b => a.1 ≠ b.1
theorem Apart.zip {R : α → β → Prop} {l : Fm α} {m : Fm β} (h : Apart l) (hz : Zip R l m) : Apart m := by
  have e := hz.names
  have h1 : (l.map (·.1)).Pairwise (fun a b : Nm => a ≠ b) := List.pairwise_map.2 h
  rw [e] at h1
  exact List.pairwise_map.1 h1
theorem fdel_none {l : Fm α} {n : Nm} (h : fget l n = none) : fdel l n = l := by
  unfold fget at h
  rw [Option.map_eq_none_iff, List.find?_eq_none] at h
  exact List.filter_eq_self.2 fun x hx => by simpa using h x hx
theorem fdel_some {l : Fm α} {n : Nm} {t : α} (h : Apart l) (hg : fget l n = some t) : ∃ a b, l = a ++ (n, t) :: b ∧ fdel l n = a ++ b := by
  induction l with
  | nil => cases hg
  | cons x r ih =>
    have h2 := List.pairwise_cons.1 h
    unfold fget at hg ih
    rw [List.find?_cons] at hg
    cases hk : x.1 == n
    · rw [hk] at hg
      obtain ⟨a, b, rfl, e2⟩ := ih h2.2 hg
      refine ⟨x :: a, b, rfl, ?_⟩
      unfold fdel at e2 ⊢
      rw [List.filter_cons_of_pos (by simp [hk]), e2]
      rfl
    · rw [hk] at hg
      obtain rfl : x.1 = n := by simpa using hk
      obtain rfl : x.2 = t := by simpa using hg
      refine ⟨[], r, rfl, ?_⟩
      unfold fdel
      rw [List.filter_cons_of_neg (by simp)]
      exact List.filter_eq_self.2 fun y hy => by simpa using fun e => h2.1 y hy e.symm
end

/-! ### Texts -/
/-- How many bytes files have. -/
def tot (l : Fm (List Nat)) : Nat := (l.map fun f => f.2.length).sum
theorem tot_app (a b : Fm (List Nat)) : tot (a ++ b) = tot a + tot b := by simp [tot]
theorem tot_ins (n : Nm) (t : List Nat) : ∀ l : Fm (List Nat), tot (fins n t l) = tot l + t.length
  | [] => by simp [fins, tot]
  | x :: r => by
    unfold fins
    split
    · simp [tot]; omega
    · have := tot_ins n t r
      simp only [tot, List.map_cons, List.sum_cons] at *
      omega
/-- The size of what stands at a name. -/
def fsz (l : Fm (List Nat)) (n : Nm) : Nat := ((fget l n).getD []).length
theorem tot_del {l : Fm (List Nat)} (h : Apart l) (n : Nm) : tot l = tot (fdel l n) + fsz l n := by
  unfold fsz
  cases hg : fget l n with
  | none => rw [fdel_none hg]; rfl
  | some t =>
    obtain ⟨a, b, rfl, e⟩ := fdel_some h hg
    rw [e, tot_app, tot_app]
    simp [tot]
    omega
theorem tot_put {l : Fm (List Nat)} (h : Apart l) (n : Nm) (t : List Nat) : tot (fput l n t) + fsz l n = tot l + t.length := by
  unfold fput
  rw [tot_ins, tot_del h n]
  omega
theorem fput_length {l : Fm (List Nat)} (h : Apart l) (n : Nm) (t : List Nat) : (fput l n t).length = if fhas l n then l.length else l.length + 1 := by
  unfold fput
  rw [fins_length, fhas_get]
  cases hg : fget l n with
  | none => rw [fdel_none hg]; rfl
  | some t' =>
    obtain ⟨a, b, rfl, e⟩ := fdel_some h hg
    rw [e]
    simp
    omega
theorem fput_length_le (l : Fm (List Nat)) (n : Nm) (t : List Nat) : (fput l n t).length ≤ l.length + 1 := by
  unfold fput
  rw [fins_length]
  have := fdel_length l n
  omega
theorem fsz_le {l : Fm (List Nat)} {m : Nat} (h : ∀ f ∈ l, f.2.length ≤ m) (n : Nm) : fsz l n ≤ m := by
  unfold fsz
  cases hg : fget l n with
  | none => simp
  | some t => exact h _ (fget_some hg)
theorem tot_le {l : Fm (List Nat)} {m : Nat} (h : ∀ f ∈ l, f.2.length ≤ m) : tot l ≤ l.length * m := by
  induction l with
  | nil => simp [tot]
  | cons x r ih =>
    have h1 := ih fun f hf => h f (by simp [hf])
    have h2 := h x (by simp)
    simp only [tot, List.map_cons, List.sum_cons, List.length_cons] at *
    rw [Nat.add_mul]
    omega

/-! ### Names -/
def nsign (b : UInt8) : Bool := (decide (97 ≤ b.toNat) && decide (b.toNat ≤ 122)) || (decide (48 ≤ b.toNat) && decide (b.toNat ≤ 57)) || b.toNat == 45 || b.toNat == 46 || b.toNat == 126
def named (n : Nm) : Bool := decide (1 ≤ n.length) && decide (n.length ≤ 24) && n.all nsign

/-! ### A disk -/
structure Ch where
  kind : Nat
  name : Nm
  to : Nm
  text : List Nat
/-- Files with a change done. -/
def capply (l : Fm (List Nat)) (c : Ch) : Fm (List Nat) :=
  if c.kind = 0 then fput l c.name c.text
  else match fget l c.name with
    | none => l
    | some t => if c.kind = 1 then fput (fdel l c.name) c.to t else fdel l c.name
theorem capply_length (l : Fm (List Nat)) (c : Ch) : (capply l c).length ≤ l.length + 1 := by
  unfold capply
  split
  · exact fput_length_le _ _ _
  · split
    · omega
    · split
      · exact Nat.le_trans (fput_length_le _ _ _) (Nat.add_le_add_right (fdel_length _ _) 1)
      · exact Nat.le_trans (fdel_length _ _) (Nat.le_succ _)
/-- Texts that are no longer than m, whatever is done. -/
def Small (m : Nat) (l : Fm (List Nat)) : Prop := ∀ f ∈ l, f.2.length ≤ m ∧ ∀ y ∈ f.2, y < 256
theorem Small.del {m : Nat} {l : Fm (List Nat)} (h : Small m l) (n : Nm) : Small m (fdel l n) := fun f hf => h f (mem_fdel hf)
theorem Small.put {m : Nat} {l : Fm (List Nat)} (h : Small m l) (n : Nm) {t : List Nat} (ht : t.length ≤ m ∧ ∀ y ∈ t, y < 256) : Small m (fput l n t) := fun f hf => by
  rcases mem_fput hf with rfl | hf
  · exact ht
  · exact h f hf
theorem Small.apply {m : Nat} {l : Fm (List Nat)} (h : Small m l) {c : Ch} (ht : c.text.length ≤ m ∧ ∀ y ∈ c.text, y < 256) : Small m (capply l c) := by
  unfold capply
  split
  · exact h.put _ ht
  · split
    · exact h
    · rename_i t hg
      split
      · exact (h.del _).put _ (h _ (fget_some hg))
      · exact h.del _
def shownOf (l : Fm (List Nat)) (cs : List Ch) : Fm (List Nat) := cs.foldl capply l
theorem shownOf_snoc (l : Fm (List Nat)) (cs : List Ch) (c : Ch) : shownOf l (cs ++ [c]) = capply (shownOf l cs) c := by simp [shownOf]
theorem shownOf_length (cs : List Ch) : ∀ l : Fm (List Nat), (shownOf l cs).length ≤ l.length + cs.length := by
  induction cs with
  | nil => intro l; exact Nat.le_refl _
  | cons c r ih =>
    intro l
    have h1 := ih (capply l c)
    have h2 := capply_length l c
    simp only [shownOf, List.foldl_cons, List.length_cons] at *
    omega
theorem Small.shown {m : Nat} {cs : List Ch} (hc : ∀ c ∈ cs, c.text.length ≤ m ∧ ∀ y ∈ c.text, y < 256) : ∀ {l : Fm (List Nat)}, Small m l → Small m (shownOf l cs) := by
  induction cs with
  | nil => intro l h; exact h
  | cons c r ih =>
    intro l h
    exact ih (fun x hx => hc x (by simp [hx])) (h.apply (hc c (by simp)))

structure DS where
  room : Nat
  sure : Fm (List Nat)
  chs : List Ch
  fuse : Int
  down : Bool
def DS.shown (d : DS) : Fm (List Nat) := shownOf d.sure d.chs
def dnew (room : Nat) : DS := ⟨room, [], [], -1, false⟩
/-- An operation begins; the error's number. -/
def dwork (d : DS) : DS × Nat :=
  if d.down = true ∨ d.fuse = 0 then ({ d with down := true }, 14) else ({ d with fuse := if d.fuse = -1 then -1 else d.fuse - 1 }, 0)
def dadd (d : DS) (c : Ch) : DS := { d with chs := d.chs ++ [c] }
def dwrite (d : DS) (n : Nm) (b : List Nat) : DS × Nat :=
  if (dwork d).2 ≠ 0 then dwork d
  else if named n = false then ((dwork d).1, 2)
  else if 65536 < b.length then ((dwork d).1, 3)
  else if 512 < (fput d.shown n b).length ∨ d.room < tot (fput d.shown n b) then ((dwork d).1, 5)
  else (dadd (dwork d).1 ⟨0, n, [], b⟩, 0)
def drename (d : DS) (a b : Nm) : DS × Nat :=
  if (dwork d).2 ≠ 0 then dwork d
  else if named a = false ∨ named b = false then ((dwork d).1, 2)
  else if fhas d.shown a = false then ((dwork d).1, 4)
  else (dadd (dwork d).1 ⟨1, a, b, []⟩, 0)
def dremove (d : DS) (a : Nm) : DS × Nat :=
  if (dwork d).2 ≠ 0 then dwork d
  else if named a = false then ((dwork d).1, 2)
  else if fhas d.shown a = false then ((dwork d).1, 4)
  else (dadd (dwork d).1 ⟨2, a, [], []⟩, 0)
def dsync (d : DS) : DS × Nat :=
  if (dwork d).2 ≠ 0 then dwork d else ({ (dwork d).1 with sure := d.shown, chs := [] }, 0)
def dread (d : DS) (n : Nm) : List Nat × Nat :=
  if d.down = true then ([], 14) else match fget d.shown n with | none => ([], 4) | some t => (t, 0)
/-- The changes that are picked are done. -/
def picked : Fm (List Nat) → List Ch → List Bool → Fm (List Nat)
  | l, c :: cs, k :: ks => picked (if k then capply l c else l) cs ks
  | l, _, _ => l
def dcut (d : DS) (keep : List Bool) : DS := { d with sure := picked d.sure d.chs keep, chs := [], down := true }
def dstart (d : DS) : DS := { d with chs := if d.down then [] else d.chs, down := false, fuse := -1 }

theorem dwork_shown (d : DS) : (dwork d).1.shown = d.shown := by unfold dwork; split <;> rfl
theorem dwork_room (d : DS) : (dwork d).1.room = d.room := by unfold dwork; split <;> rfl

end Go.Proofs.YtmjpckodcafjiaaGreat
