/- A disk in memory; the contracts of New, able, operate, Fuse, Pending, Used, Down. -/
import Derived.Test.YtmjpckodcafjiaaGreatDskE
import Derived.Test.YtmjpckodcafjiaaGreatRec
namespace Go.Proofs.YtmjpckodcafjiaaGreat
open Go.RowKit

def chRow (x : Ch × Value) : List Value := [.int .i64 (x.1.kind : Int), nmV x.1.name, nmV x.1.to, x.2]
/-- The changes in memory. -/
def CR (w : World) (S : Nat → Prop) (cv : Value) (chs : List Ch) : Prop :=
  ∃ ps : List (Ch × Value), ps.map (·.1) = chs ∧ RecOwn w 0 106 4 cv (ps.map chRow) ∧ (∀ j, cv.ownBlock = some j → S j) ∧ ∀ x ∈ ps, At w (Typ w S 5) .u8 x.2 x.1.text
theorem CR.keep {w w' : World} {S S' : Nat → Prop} {cv : Value} {chs : List Ch} (h : CR w S cv chs) (hk : Kept (Typ w S 5) w w') (hb : ∀ j, cv.ownBlock = some j → w'.heap[j]? = w.heap[j]?) (hs : ∀ j, S j → S' j) : CR w' S' cv chs := by
  obtain ⟨ps, h1, h2, h3, h4⟩ := h
  exact ⟨ps, h1, h2.keep hb, fun j hj => hs j (h3 j hj), fun x hx => (h4 x hx).typ hk hs⟩
theorem CR.block {w : World} {S : Nat → Prop} {cv : Value} {chs : List Ch} (h : CR w S cv chs) {j : Nat} (hj : cv.ownBlock = some j) : S j ∧ j < w.heap.size ∧ ∃ cs, w.heap[j]? = some (.cells cs 106 (0, 0)) := by
  obtain ⟨ps, h1, h2, h3, h4⟩ := h
  exact ⟨h3 j hj, (h2.block hj).2⟩
theorem CR.val {w : World} {S : Nat → Prop} {cv : Value} {chs : List Ch} (h : CR w S cv chs) : ∃ ao cap, cv = .slice ao chs.length cap ∧ chs.length ≤ cap ∧ cap ≤ maxLen ∧ (ao = none → cap = 0) := by
  obtain ⟨ps, rfl, h2, h3, h4⟩ := h
  have := h2.val
  simpa using this
theorem cr_nil (w : World) (S : Nat → Prop) : CR w S (.slice none 0 0) [] := ⟨[], rfl, recOwn_nil _ _ _ _, fun j hj => (by cases hj), by simp⟩

/-- How many files and changes there are: no more than 2^40 are spoken of. -/
def DS.sz (d : DS) : Nat := d.sure.length + d.chs.length
/-- A disk at block p; all its blocks are of S. -/
structure DkV (w : World) (S : Nat → Prop) (p : Nat) (m1 m2 : Option Nat) (cv : Value) (d : DS) : Prop where
  blk : w.heap[p]? = some (.cells #[.int .i64 (d.room : Int), .map m1, .int .i64 (tot d.sure : Int), .map m2, .int .i64 (tot d.shown : Int), cv, .int .i64 d.fuse, .bool d.down] 73 (0, 0))
  inS : S p
  lt : ∀ j, S j → j < w.heap.size
  sure : TM w S m1 d.sure
  shown : TM w S m2 d.shown
  apart : ∀ b, m1 = some b → m2 ≠ some b
  chs : CR w S cv d.chs
  room : d.room ≤ 1073741824
  fuse : -1 ≤ d.fuse ∧ d.fuse ≤ 9223372036854775807
  ok : ∀ c ∈ d.chs, ChOk c
  small : Small 65536 d.sure
def Dk (w : World) (S : Nat → Prop) (p : Nat) (d : DS) : Prop := ∃ m1 m2 cv, DkV w S p m1 m2 cv d

section
variable {w w' : World} {S : Nat → Prop} {p : Nat} {m1 m2 : Option Nat} {cv : Value} {d : DS}
theorem DkV.plt (h : DkV w S p m1 m2 cv d) : p < w.heap.size := (Array.getElem?_eq_some_iff.1 h.blk).1
theorem DkV.smallShown (h : DkV w S p m1 m2 cv d) : Small 65536 d.shown := h.small.shown fun c hc => ⟨(h.ok c hc).text, (h.ok c hc).byte⟩
theorem small_tot {l : Fm (List Nat)} {n : Nat} (h : Small 65536 l) (hl : l.length ≤ n) (hn : n < 1099511627776) : tot l < 4611686018427387904 := by
  have h1 := tot_le fun f hf => (h f hf).1
  have h2 : l.length * 65536 ≤ n * 65536 := Nat.mul_le_mul_right _ hl
  omega
theorem DkV.totSure (h : DkV w S p m1 m2 cv d) (hd : d.sz < 1099511627776) : tot d.sure < 4611686018427387904 := small_tot h.small (Nat.le_add_right _ _) hd
theorem DkV.totShown (h : DkV w S p m1 m2 cv d) (hd : d.sz < 1099511627776) : tot d.shown < 4611686018427387904 := small_tot h.smallShown (shownOf_length d.chs d.sure) hd
theorem lenShown (d : DS) : d.shown.length ≤ d.sz := shownOf_length d.chs d.sure
/-- A disk's block is neither a map's, nor its changes', nor one of bytes. -/
theorem DkV.pm1 (h : DkV w S p m1 m2 cv d) : ∀ b, m1 = some b → b ≠ p := fun b e hb => by
  subst e hb
  obtain ⟨e, c, ho⟩ := h.sure.obj
  have := ho.symm.trans h.blk
  cases this
theorem DkV.pm2 (h : DkV w S p m1 m2 cv d) : ∀ b, m2 = some b → b ≠ p := fun b e hb => by
  subst e hb
  obtain ⟨e, c, ho⟩ := h.shown.obj
  have := ho.symm.trans h.blk
  cases this
theorem DkV.pcv (h : DkV w S p m1 m2 cv d) : ∀ b, cv.ownBlock = some b → b ≠ p := fun b e hb => by
  subst hb
  obtain ⟨_, _, cs, hc⟩ := h.chs.block e
  have := hc.symm.trans h.blk
  cases this
theorem DkV.m1cv (h : DkV w S p m1 m2 cv d) : ∀ b, m1 = some b → cv.ownBlock ≠ some b := fun b e hb => by
  subst e
  obtain ⟨_, _, cs, hc⟩ := h.chs.block hb
  obtain ⟨e, c, ho⟩ := h.sure.obj
  have := ho.symm.trans hc
  cases this
theorem DkV.m2cv (h : DkV w S p m1 m2 cv d) : ∀ b, m2 = some b → cv.ownBlock ≠ some b := fun b e hb => by
  subst e
  obtain ⟨_, _, cs, hc⟩ := h.chs.block hb
  obtain ⟨e, c, ho⟩ := h.shown.obj
  have := ho.symm.trans hc
  cases this
theorem DkV.c0 (h : DkV w S p m1 m2 cv d) : w.cell? ⟨p, 0, none⟩ = some (.int .i64 (d.room : Int)) := by rw [cell_of_row w p 0 _ _ _ h.blk]; rfl
theorem DkV.c1 (h : DkV w S p m1 m2 cv d) : w.cell? ⟨p, 1, none⟩ = some (.map m1) := by rw [cell_of_row w p 1 _ _ _ h.blk]; rfl
theorem DkV.c2 (h : DkV w S p m1 m2 cv d) : w.cell? ⟨p, 2, none⟩ = some (.int .i64 (tot d.sure : Int)) := by rw [cell_of_row w p 2 _ _ _ h.blk]; rfl
theorem DkV.c3 (h : DkV w S p m1 m2 cv d) : w.cell? ⟨p, 3, none⟩ = some (.map m2) := by rw [cell_of_row w p 3 _ _ _ h.blk]; rfl
theorem DkV.c4 (h : DkV w S p m1 m2 cv d) : w.cell? ⟨p, 4, none⟩ = some (.int .i64 (tot d.shown : Int)) := by rw [cell_of_row w p 4 _ _ _ h.blk]; rfl
theorem DkV.c5 (h : DkV w S p m1 m2 cv d) : w.cell? ⟨p, 5, none⟩ = some cv := by rw [cell_of_row w p 5 _ _ _ h.blk]; rfl
theorem DkV.c6 (h : DkV w S p m1 m2 cv d) : w.cell? ⟨p, 6, none⟩ = some (.int .i64 d.fuse) := by rw [cell_of_row w p 6 _ _ _ h.blk]; rfl
theorem DkV.c7 (h : DkV w S p m1 m2 cv d) : w.cell? ⟨p, 7, none⟩ = some (.bool d.down) := by rw [cell_of_row w p 7 _ _ _ h.blk]; rfl
theorem DkV.fz (h : DkV w S p m1 m2 cv d) (i : Nat) : w.frozen? ⟨p, i, none⟩ = false := frozen_of_row w p i _ _ h.blk

/-- What changes none of a disk's blocks leaves the disk as it was. -/
theorem DkV.keep (h : DkV w S p m1 m2 cv d) (hk : Kept S w w') : DkV w' S p m1 m2 cv d := by
  have hk2 : Kept (Typ w S 5) w w' := hk.mono fun j _ hj => hj.1
  exact ⟨(hk.block p h.plt h.inS).trans h.blk, h.inS, fun j hj => Nat.lt_of_lt_of_le (h.lt j hj) hk.size,
    h.sure.keep hk2 (fun b e => hk.block b (by subst e; exact h.sure.lt) (by obtain ⟨_, _, _, hs⟩ := h.sure; exact hs b e)) fun _ hj => hj,
    h.shown.keep hk2 (fun b e => hk.block b (by subst e; exact h.shown.lt) (by obtain ⟨_, _, _, hs⟩ := h.shown; exact hs b e)) fun _ hj => hj,
    h.apart, h.chs.keep hk2 (fun j hj => hk.block j (h.chs.block hj).2.1 (h.chs.block hj).1) fun _ hj => hj, h.room, h.fuse, h.ok, h.small⟩
theorem Dk.keep (h : Dk w S p d) (hk : Kept S w w') : Dk w' S p d := by
  obtain ⟨m1, m2, cv, h⟩ := h
  exact ⟨m1, m2, cv, h.keep hk⟩
theorem Dk.inS (h : Dk w S p d) : S p := by obtain ⟨m1, m2, cv, h⟩ := h; exact h.inS
theorem Dk.lt (h : Dk w S p d) {j : Nat} (hj : S j) : j < w.heap.size := by obtain ⟨m1, m2, cv, h⟩ := h; exact h.lt j hj
/-- The fuse and the power are set. -/
theorem DkV.set (h : DkV w S p m1 m2 cv d) (hfr : Fr (fun j => j = p) w w') {f : Int} {dn : Bool}
    (hb : w'.heap[p]? = some (.cells #[.int .i64 (d.room : Int), .map m1, .int .i64 (tot d.sure : Int), .map m2, .int .i64 (tot d.shown : Int), cv, .int .i64 f, .bool dn] 73 (0, 0))) (hf : -1 ≤ f ∧ f ≤ 9223372036854775807) :
    DkV w' S p m1 m2 cv { d with fuse := f, down := dn } := by
  have hk2 : Kept (Typ w S 5) w w' := hfr.kept _ fun j hj hT e => by
    subst e
    exact typ_not_other h.blk (by decide) hT
  exact ⟨hb, h.inS, fun j hj => Nat.lt_of_lt_of_le (h.lt j hj) hfr.size,
    h.sure.keep hk2 (fun b e => hfr.block b (by subst e; exact h.sure.lt) (h.pm1 b e)) fun _ hj => hj,
    h.shown.keep hk2 (fun b e => hfr.block b (by subst e; exact h.shown.lt) (h.pm2 b e)) fun _ hj => hj,
    h.apart, h.chs.keep hk2 (fun j hj => hfr.block j (h.chs.block hj).2.1 (h.pcv j hj)) fun _ hj => hj, h.room, hf, h.ok, h.small⟩
end

set_option maxHeartbeats 400000 in
set_option maxRecDepth 100000 in
theorem able_any {w : World} {S : Nat → Prop} {p : Nat} {m1 m2 : Option Nat} {cv : Value} {d : DS} (h : DkV w S p m1 m2 cv d) :
    Calls Tryz.prog 64 #[.pointer (some ⟨p, 0, none⟩)] w fun e w' => e = .returned (errV (if d.down then 14 else 0)) ∧ w' = w := by
  have c7 := h.c7
  clear h
  go_enter Tryz.func64, Tryz.ntmps64
  cases hd : d.down
  · rw [hd] at c7
    clear hd
    go_wp2
    go_ret
    exact ⟨rfl, rfl⟩
  · rw [hd] at c7
    clear hd
    go_wp2
    go_ret
    exact ⟨rfl, rfl⟩

def OperPost (S : Nat → Prop) (p : Nat) (m1 m2 : Option Nat) (cv : Value) (d : DS) (w : World) (e : Ending) (w' : World) : Prop :=
  e = .returned (errV (dwork d).2) ∧ DkV w' S p m1 m2 cv (dwork d).1 ∧ Fr (fun j => j = p) w w'

set_option maxHeartbeats 1000000 in
set_option maxRecDepth 100000 in
theorem operate_any {w : World} {S : Nat → Prop} {p : Nat} {m1 m2 : Option Nat} {cv : Value} {d : DS} (h : DkV w S p m1 m2 cv d) :
    Calls Tryz.prog 69 #[.pointer (some ⟨p, 0, none⟩)] w (OperPost S p m1 m2 cv d w) := by
  have c6 := h.c6
  have f6 := h.fz 6
  have f7 := h.fz 7
  have c7 := h.c7
  have hfu := h.fuse
  have H := Lib.hid h
  clear h
  obtain ⟨room, sure, chs, fuse, down⟩ := d
  simp only [] at c6 c7 hfu
  go_enter Tryz.func69, Tryz.ntmps69
  go_wp2_with fail
  refine (able_any H.out).mono ?_
  rintro e w ⟨rfl, rfl⟩
  simp only []
  cases down
  · rw [if_neg (by decide), errV_zero]
    by_cases hz : fuse = 0
    · subst hz
      go_wp2
      go_ret
      refine ⟨rfl, H.out.set (fr_set w p 7 (.bool true)) ?_ (by simp), fr_set w p 7 _⟩
      exact heap_setCell_same w p 7 _ _ _ H.out.blk
    · by_cases hm : fuse = -1
      · subst hm
        go_wp2
        go_ret
        exact ⟨rfl, H.out, Fr.refl _ _⟩
      · have hw : wrap64 (fuse - 1) = fuse - 1 := w64_id (by omega) (by omega)
        have HW : Hid (dwork ⟨room, sure, chs, fuse, false⟩ = (⟨room, sure, chs, fuse - 1, false⟩, 0)) := Lib.hid (by simp [dwork, hz, hm])
        have HF : Hid (-1 ≤ fuse - 1 ∧ fuse - 1 ≤ 9223372036854775807) := Lib.hid (by omega)
        go_wp2
        go_ret
        unfold OperPost
        rw [HW.out]
        refine ⟨rfl, H.out.set (fr_set w p 6 (.int .i64 (fuse - 1))) ?_ HF.out, fr_set w p 6 _⟩
        exact heap_setCell_same w p 6 _ _ _ H.out.blk
  · rw [if_pos rfl]
    have e14 : errV 14 = .iface 58 (.int .i64 14) := errV_pos (by decide)
    rw [e14]
    go_wp2
    go_ret
    exact ⟨rfl, H.out, Fr.refl _ _⟩

end Go.Proofs.YtmjpckodcafjiaaGreat
