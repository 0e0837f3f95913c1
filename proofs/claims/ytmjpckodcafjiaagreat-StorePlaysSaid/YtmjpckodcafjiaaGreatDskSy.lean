/- DiskSyncs, walked. -/
import Derived.Test.YtmjpckodcafjiaaGreatDskX
namespace Go.Proofs.YtmjpckodcafjiaaGreat
open Go.RowKit

/-- An empty cut, a start. -/
theorem cut_start {d : DS} (hc : d.chs = []) (ks : List Bool) : dstart (dcut d ks) = { d with chs := [], down := false, fuse := -1 } := by
  unfold dstart dcut
  rw [hc]
  cases ks <;> rfl
theorem dsync_calm {d : DS} (h1 : d.down = false) (h2 : d.fuse = -1) : dsync d = ({ d with sure := d.shown, chs := [] }, 0) := by
  have h : ¬ d.dead := by
    rintro (h | h)
    · rw [h1] at h; cases h
    · omega
  unfold dsync
  rw [dwork_alive h, if_pos h2]
  obtain ⟨room, sure, chs, fuse, down⟩ := d
  simp only at h2
  subst h2
  rfl
theorem dlist_up {d : DS} (h : d.down = false) : dlist d = (srt (d.shown.map (·.1)), 0) := by unfold dlist; rw [if_neg (by rw [h]; decide)]
/-- A calm disk: the power is on, and no fuse is set. -/
def Calm (d : DS) (k : Nat) : Prop := d.down = false ∧ d.fuse = -1 ∧ d.sz ≤ k
theorem Calm.next {d : DS} {k : Nat} {r : DS × Nat} (h : Calm d k) (ho : OpOk d r) : Calm r.1 (k + 1) := by
  obtain ⟨h1, h2, h3⟩ := h
  obtain ⟨q1, q2, q3⟩ := ho.alive (by
    rintro (h | h)
    · rw [h1] at h; cases h
    · omega)
  exact ⟨by rw [q2, h1], by rw [q3, if_pos h2], by have := ho.sz; omega⟩
theorem conv_same {w : World} {v : Value} {l : List Nat} (h : Reads w .u8 v l) : ∃ s : ByteArray, s = strOfNums (l.map fun n : Nat => (n : Int)) ∧ (convert 41 9 v).run Tryz.prog w = .ok (.string s) w := ⟨_, rfl, conv_reads v l w h⟩

end Go.Proofs.YtmjpckodcafjiaaGreat
