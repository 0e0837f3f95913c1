/- A disk without power, or calm, as mathematics: what an operation leaves of changes and names. -/
import Derived.Test.YteknibaappcgmaaGreatDoorDeP
namespace Go.Proofs.YteknibaappcgmaaGreatDoor
open Go.RowKit

theorem fget_del_other {α : Type} {l : Fm α} {n m : Nm} (h : m ≠ n) : fget (fdel l m) n = fget l n := by
  unfold fget fdel
  induction l with
  | nil => rfl
  | cons x r ih =>
    by_cases hx : x.1 == m
    · rw [List.filter_cons_of_neg (by simp [hx])]
      have hxm : x.1 = m := by simpa using hx
      rw [List.find?_cons_of_neg (by rw [hxm]; simpa using h)]
      exact ih
    · rw [List.filter_cons_of_pos (by simp [hx])]
      rw [List.find?_cons, List.find?_cons]
      cases hn : x.1 == n
      · exact ih
      · rfl
theorem fget_ins_other {α : Type} {n m : Nm} (h : m ≠ n) (t : α) : ∀ l : Fm α, fget (fins m t l) n = fget l n
  | [] => by unfold fget fins; simp [h]
  | x :: r => by
    have ih := fget_ins_other h t r
    unfold fget at ih ⊢
    unfold fins
    split
    · rw [List.find?_cons_of_neg (by simpa using h)]
    · rw [List.find?_cons, List.find?_cons]
      cases hn : x.1 == n
      · exact ih
      · rfl
theorem fget_put_other {α : Type} {l : Fm α} {n m : Nm} (h : m ≠ n) (t : α) : fget (fput l m t) n = fget l n := by
  unfold fput
  rw [fget_ins_other h, fget_del_other h]
/-- What an operation leaves of changes: none where it fails, one where not. -/
theorem dwork_keeps (d : DS) : (dwork d).1.sure = d.sure ∧ (dwork d).1.chs = d.chs := by unfold dwork; split <;> exact ⟨rfl, rfl⟩
theorem dwrite_keeps (d : DS) (n : Nm) (b : List Nat) : (dwrite d n b).1.sure = d.sure ∧ (((dwrite d n b).2 = 0 ∧ (dwrite d n b).1.chs = d.chs ++ [⟨0, n, [], b⟩]) ∨ ((dwrite d n b).2 ≠ 0 ∧ (dwrite d n b).1.chs = d.chs)) := by
  obtain ⟨h1, h2⟩ := dwork_keeps d
  unfold dwrite
  split
  · rename_i h; exact ⟨h1, .inr ⟨h, h2⟩⟩
  · split
    · exact ⟨h1, .inr ⟨by simp, h2⟩⟩
    · split
      · exact ⟨h1, .inr ⟨by simp, h2⟩⟩
      · split
        · exact ⟨h1, .inr ⟨by simp, h2⟩⟩
        · exact ⟨h1, .inl ⟨rfl, by show (dwork d).1.chs ++ _ = _; rw [h2]⟩⟩
theorem drename_keeps (d : DS) (a b : Nm) : (drename d a b).1.sure = d.sure ∧ (((drename d a b).2 = 0 ∧ (drename d a b).1.chs = d.chs ++ [⟨1, a, b, []⟩]) ∨ ((drename d a b).2 ≠ 0 ∧ (drename d a b).1.chs = d.chs)) := by
  obtain ⟨h1, h2⟩ := dwork_keeps d
  unfold drename
  split
  · rename_i h; exact ⟨h1, .inr ⟨h, h2⟩⟩
  · split
    · exact ⟨h1, .inr ⟨by simp, h2⟩⟩
    · split
      · exact ⟨h1, .inr ⟨by simp, h2⟩⟩
      · exact ⟨h1, .inl ⟨rfl, by show (dwork d).1.chs ++ _ = _; rw [h2]⟩⟩
theorem dremove_keeps (d : DS) (a : Nm) : (dremove d a).1.sure = d.sure ∧ (((dremove d a).2 = 0 ∧ (dremove d a).1.chs = d.chs ++ [⟨2, a, [], []⟩]) ∨ ((dremove d a).2 ≠ 0 ∧ (dremove d a).1.chs = d.chs)) := by
  obtain ⟨h1, h2⟩ := dwork_keeps d
  unfold dremove
  split
  · rename_i h; exact ⟨h1, .inr ⟨h, h2⟩⟩
  · split
    · exact ⟨h1, .inr ⟨by simp, h2⟩⟩
    · split
      · exact ⟨h1, .inr ⟨by simp, h2⟩⟩
      · exact ⟨h1, .inl ⟨rfl, by show (dwork d).1.chs ++ _ = _; rw [h2]⟩⟩

/-- An empty cut, a start. -/
theorem cut_start {d : DS} (hc : d.chs = []) (ks : List Bool) : dstart (dcut d ks) = { d with chs := [], down := false, fuse := -1 } := by
  unfold dstart dcut
  rw [hc]
  cases ks <;> rfl
theorem dsync_calm {d : DS} (h1 : d.down = false) (h2 : d.fuse = -1) : dsync d = ({ d with sure := d.shown, chs := [] }, 0) := by
  have h : ¬ d.dead := by
    rintro (h | h)
    · rw [h1] at h; cases h
    · omega
  unfold dsync
  rw [dwork_alive h, if_pos h2]
  obtain ⟨room, sure, chs, fuse, down⟩ := d
  simp only at h2
  subst h2
  rfl
theorem dlist_up {d : DS} (h : d.down = false) : dlist d = (srt (d.shown.map (·.1)), 0) := by unfold dlist; rw [if_neg (by rw [h]; decide)]
/-- A calm disk: the power is on, and no fuse is set. -/
def Calm (d : DS) (k : Nat) : Prop := d.down = false ∧ d.fuse = -1 ∧ d.sz ≤ k
theorem Calm.next {d : DS} {k : Nat} {r : DS × Nat} (h : Calm d k) (ho : OpOk d r) : Calm r.1 (k + 1) := by
  obtain ⟨h1, h2, h3⟩ := h
  obtain ⟨q1, q2, q3⟩ := ho.alive (by
    rintro (h | h)
    · rw [h1] at h; cases h
    · omega)
  exact ⟨by rw [q2, h1], by rw [q3, if_pos h2], by have := ho.sz; omega⟩
theorem fhas_put_same {α : Type} (l : Fm α) (n : Nm) (t : α) : fhas (fput l n t) n = true := by
  unfold fhas fput
  exact List.any_eq_true.2 ⟨(n, t), mem_fins.2 (.inl rfl), by simp⟩
theorem fhas_put_mono {α : Type} {l : Fm α} {m : Nm} (n : Nm) (t : α) (h : fhas l m = true) : fhas (fput l n t) m = true := by
  by_cases e : n = m
  · subst e; exact fhas_put_same l n t
  · rw [fhas_get, fget_put_other e, ← fhas_get]; exact h

end Go.Proofs.YteknibaappcgmaaGreatDoor
