/- A disk that a statement drives: all its blocks are the call's own. -/
import Derived.Test.YtmjpckodcafjiaaGreatDskS
namespace Go.Proofs.YtmjpckodcafjiaaGreat
open Go.RowKit

/-- A disk that was made behind w0, and nothing of w0 was written. -/
def Drv (w0 w : World) (p : Nat) (d : DS) : Prop := ∃ S, Dk w S p d ∧ (∀ j, S j → w0.heap.size ≤ j) ∧ Below w0.heap.size w0 w
theorem Drv.below {w0 w : World} {p : Nat} {d : DS} (h : Drv w0 w p d) : Below w0.heap.size w0 w := by obtain ⟨S, _, _, h⟩ := h; exact h
theorem Drv.more {w0 w w' : World} {p : Nat} {d : DS} (h : Drv w0 w p d) (hb : Below w.heap.size w w') : Drv w0 w' p d := by
  obtain ⟨S, h1, h2, h3⟩ := h
  exact ⟨S, h1.keep (kept_new hb S), h2, h3.trans (hb.mono h3.size)⟩
theorem Drv.post {w0 w w' : World} {S : Nat → Prop} {p : Nat} {d' : DS} (hs : ∀ j, S j → w0.heap.size ≤ j) (hb : Below w0.heap.size w0 w) (h : DPost S p w w' d') : Drv w0 w' p d' := by
  obtain ⟨S', hd, hf, _, ht⟩ := h
  refine ⟨S', hd, fun j hj => ?_, hb.trans (hf.below hb.size fun j hj h => Nat.not_le_of_lt hj (hs j h))⟩
  rcases ht j hj with h | h
  · exact hs j h
  · exact Nat.le_trans hb.size h
theorem drv_new {w0 w w' : World} {p : Nat} {d : DS} (hb : Below w0.heap.size w0 w) (h : Dk w' (fun j => j = w.heap.size) p d) (hb2 : Below w.heap.size w w') : Drv w0 w' p d :=
  ⟨_, h, fun j hj => by subst hj; exact hb.size, hb.trans (hb2.mono hb.size)⟩

section
variable {w0 w : World} {p : Nat} {d : DS}
def DrvPost (w0 : World) (p : Nat) (r : DS × Nat) (e : Ending) (w' : World) : Prop := e = .returned (errV r.2) ∧ Drv w0 w' p r.1

theorem Drv.write (h : Drv w0 w p d) (hsz : d.sz < 1099511627776) {n : Nm} (hn : n.length ≤ 9223372036854775807) {v : Value} {b : List Nat} (hv : At w0 (fun j => j < w0.heap.size) .u8 v b) (hb : ∀ y ∈ b, y < 256) :
    Calls Tryz.prog 41 #[.pointer (some ⟨p, 0, none⟩), nmV n, v] w (DrvPost w0 p (dwrite d n b)) := by
  obtain ⟨S, h1, h2, h3⟩ := h
  refine (writeD_any h1 hsz hn ((hv.keep (kept_below h3)).mono fun j _ hj hS => Nat.not_le_of_lt hj (h2 j hS)) hb).mono fun e w' hp => ?_
  exact ⟨hp.1, Drv.post h2 h3 hp.2⟩
theorem Drv.rename (h : Drv w0 w p d) (hsz : d.sz < 1099511627776) {n n2 : Nm} (hn : n.length ≤ 9223372036854775807) (hn2 : n2.length ≤ 9223372036854775807) :
    Calls Tryz.prog 43 #[.pointer (some ⟨p, 0, none⟩), nmV n, nmV n2] w (DrvPost w0 p (drename d n n2)) := by
  obtain ⟨S, h1, h2, h3⟩ := h
  exact (renameD_any h1 hsz hn hn2).mono fun e w' hp => ⟨hp.1, Drv.post h2 h3 hp.2⟩
theorem Drv.remove (h : Drv w0 w p d) (hsz : d.sz < 1099511627776) {n : Nm} (hn : n.length ≤ 9223372036854775807) :
    Calls Tryz.prog 44 #[.pointer (some ⟨p, 0, none⟩), nmV n] w (DrvPost w0 p (dremove d n)) := by
  obtain ⟨S, h1, h2, h3⟩ := h
  exact (removeD_any h1 hsz hn).mono fun e w' hp => ⟨hp.1, Drv.post h2 h3 hp.2⟩
theorem Drv.sync (h : Drv w0 w p d) (hsz : d.sz < 1099511627776) : Calls Tryz.prog 42 #[.pointer (some ⟨p, 0, none⟩)] w (DrvPost w0 p (dsync d)) := by
  obtain ⟨S, h1, h2, h3⟩ := h
  exact (syncD_any h1 hsz).mono fun e w' hp => ⟨hp.1, Drv.post h2 h3 hp.2⟩
theorem Drv.fuse (h : Drv w0 w p d) (n : Int) (h0 : 0 ≤ n) (hn : n ≤ 9223372036854775807) :
    Calls Tryz.prog 53 #[.pointer (some ⟨p, 0, none⟩), .int .i64 n] w (DrvPost w0 p ({ d with fuse := n }, 0)) := by
  obtain ⟨S, h1, h2, h3⟩ := h
  refine (fuseD_any h1 n hn).mono fun e w' hp => ?_
  rw [if_neg (by omega), if_neg (by omega)] at hp
  exact ⟨hp.1, Drv.post h2 h3 (DPost.same hp.2.1 (hp.2.2.mono fun j _ hj => by rw [hj]; exact h1.inS))⟩
theorem Drv.cut (h : Drv w0 w p d) (hsz : d.sz < 1099511627776) {kv : Value} {ks : List Bool} (hkv : RowV w0 (fun j => j < w0.heap.size) kv (ks.map Value.bool)) :
    Calls Tryz.prog 25 #[.pointer (some ⟨p, 0, none⟩), kv] w fun e w' => e = .returned (.tuple #[]) ∧ Drv w0 w' p (dcut d ks) := by
  obtain ⟨S, h1, h2, h3⟩ := h
  exact (cutD_any h1 hsz ((hkv.keep (kept_below h3)).mono fun j _ hj hS => Nat.not_le_of_lt hj (h2 j hS))).mono fun e w' hp => ⟨hp.1, Drv.post h2 h3 hp.2⟩
theorem Drv.start (h : Drv w0 w p d) : Calls Tryz.prog 26 #[.pointer (some ⟨p, 0, none⟩)] w fun e w' => e = .returned (.tuple #[]) ∧ Drv w0 w' p (dstart d) := by
  obtain ⟨S, h1, h2, h3⟩ := h
  exact (startD_any h1).mono fun e w' hp => ⟨hp.1, Drv.post h2 h3 hp.2⟩
theorem Drv.down (h : Drv w0 w p d) : Calls Tryz.prog 56 #[.pointer (some ⟨p, 0, none⟩)] w fun e w' => e = .returned (.bool d.down) ∧ w' = w := by
  obtain ⟨S, h1, h2, h3⟩ := h
  exact downD_any h1
theorem Drv.read (h : Drv w0 w p d) {n : Nm} (hn : n.length ≤ 1000) : Calls Tryz.prog 38 #[.pointer (some ⟨p, 0, none⟩), nmV n] w (ReadDPost (dread d n) w) := by
  obtain ⟨S, h1, h2, h3⟩ := h
  exact readD_any h1 hn
theorem Drv.pending (h : Drv w0 w p d) : Calls Tryz.prog 57 #[.pointer (some ⟨p, 0, none⟩)] w fun e w' => e = .returned (.int .i64 (d.chs.length : Int)) ∧ w' = w := by
  obtain ⟨S, h1, h2, h3⟩ := h
  exact pending_any h1
theorem Drv.used (h : Drv w0 w p d) : Calls Tryz.prog 58 #[.pointer (some ⟨p, 0, none⟩)] w fun e w' => e = .returned (.int .i64 (tot d.shown : Int)) ∧ w' = w := by
  obtain ⟨S, h1, h2, h3⟩ := h
  exact used_any h1
end

/-! ### What an operation does, whichever it is -/
/-- Whether the power is off, or goes at the next operation. -/
def DS.dead (d : DS) : Prop := d.down = true ∨ d.fuse = 0
/-- What an operation leaves. -/
structure OpOk (d : DS) (r : DS × Nat) : Prop where
  dead : d.dead → r.2 = 14 ∧ r.1.down = true
  alive : ¬ d.dead → r.2 ≠ 14 ∧ r.1.down = d.down ∧ r.1.fuse = if d.fuse = -1 then -1 else d.fuse - 1
  sz : r.1.sz ≤ d.sz + 1
theorem dwork_dead {d : DS} (h : d.dead) : dwork d = ({ d with down := true }, 14) := by unfold dwork; rw [if_pos (show d.down = true ∨ d.fuse = 0 from h)]
theorem dwork_alive {d : DS} (h : ¬ d.dead) : dwork d = ({ d with fuse := if d.fuse = -1 then -1 else d.fuse - 1 }, 0) := by unfold dwork; rw [if_neg (show ¬ (d.down = true ∨ d.fuse = 0) from h)]
theorem dwork_sz (d : DS) : (dwork d).1.sz = d.sz := (dwork_ok d).1
theorem dadd_sz (d : DS) (c : Ch) : (dadd d c).sz = d.sz + 1 := by unfold dadd DS.sz; simp; omega
theorem opOk_write (d : DS) (n : Nm) (b : List Nat) : OpOk d (dwrite d n b) := by
  have hz := dwork_sz d
  constructor
  · intro h
    unfold dwrite
    rw [dwork_dead h, if_pos (by simp)]
    exact ⟨rfl, rfl⟩
  · intro h
    unfold dwrite
    rw [dwork_alive h]
    generalize (if d.fuse = -1 then (-1 : Int) else d.fuse - 1) = f
    simp only [ne_eq, not_true_eq_false, if_false]
    repeat' split
    all_goals exact ⟨by simp, rfl, rfl⟩
  · unfold dwrite
    repeat' split
    all_goals first | omega | (simp only [dadd_sz]; omega)
theorem opOk_rename (d : DS) (n n2 : Nm) : OpOk d (drename d n n2) := by
  have hz := dwork_sz d
  constructor
  · intro h
    unfold drename
    rw [dwork_dead h, if_pos (by simp)]
    exact ⟨rfl, rfl⟩
  · intro h
    unfold drename
    rw [dwork_alive h]
    generalize (if d.fuse = -1 then (-1 : Int) else d.fuse - 1) = f
    simp only [ne_eq, not_true_eq_false, if_false]
    repeat' split
    all_goals exact ⟨by simp, rfl, rfl⟩
  · unfold drename
    repeat' split
    all_goals first | omega | (simp only [dadd_sz]; omega)
theorem opOk_remove (d : DS) (n : Nm) : OpOk d (dremove d n) := by
  have hz := dwork_sz d
  constructor
  · intro h
    unfold dremove
    rw [dwork_dead h, if_pos (by simp)]
    exact ⟨rfl, rfl⟩
  · intro h
    unfold dremove
    rw [dwork_alive h]
    generalize (if d.fuse = -1 then (-1 : Int) else d.fuse - 1) = f
    simp only [ne_eq, not_true_eq_false, if_false]
    repeat' split
    all_goals exact ⟨by simp, rfl, rfl⟩
  · unfold dremove
    repeat' split
    all_goals first | omega | (simp only [dadd_sz]; omega)
theorem opOk_sync (d : DS) : OpOk d (dsync d) := by
  have hz := dwork_sz d
  have hl := lenShown d
  constructor
  · intro h
    unfold dsync
    rw [dwork_dead h, if_pos (by simp)]
    exact ⟨rfl, rfl⟩
  · intro h
    unfold dsync
    rw [dwork_alive h]
    exact ⟨by simp, by simp, by simp⟩
  · unfold dsync
    split
    · omega
    · show d.shown.length + 0 ≤ d.sz + 1
      omega

end Go.Proofs.YtmjpckodcafjiaaGreat
