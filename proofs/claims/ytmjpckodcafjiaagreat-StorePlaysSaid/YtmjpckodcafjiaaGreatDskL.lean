/- A disk in memory: the contracts of Sync and Cut. -/
import Derived.Test.YtmjpckodcafjiaaGreatDskK
namespace Go.Proofs.YtmjpckodcafjiaaGreat
open Go.RowKit

/-- The block, as its cells. -/
def dcells (d : DS) (m1 m2 : Option Nat) (cv : Value) : Array Value := #[.int .i64 (d.room : Int), .map m1, .int .i64 (tot d.sure : Int), .map m2, .int .i64 (tot d.shown : Int), cv, .int .i64 d.fuse, .bool d.down]
/-- What a loop over the changes keeps: the sure files so far are l; the shown ones and the changes are as they were. -/
structure Upto (S : Nat → Prop) (p : Nat) (m1 m2 : Option Nat) (cv : Value) (d : DS) (l : Fm (List Nat)) (w w' : World) (m : Option Nat) : Prop where
  fd : FilesDone S p 1 m1 (dcells d m1 m2 cv) l w w' m
  shown : TM w' (Ext S w w') m2 d.shown
  chs : CR w' (Ext S w w') cv d.chs
theorem Upto.start {S : Nat → Prop} {p : Nat} {m1 m2 : Option Nat} {cv : Value} {d : DS} {w : World} (h : DkV w S p m1 m2 cv d) : Upto S p m1 m2 cv d d.sure w w m1 :=
  ⟨filesDone_refl h.blk rfl rfl h.sure (Below.refl _ _), h.shown.mono fun _ h => .inl h, h.chs.keep (Kept.refl _ _) (fun _ _ => rfl) fun _ h => .inl h⟩
theorem Ext.grow {S : Nat → Prop} {w w1 w2 : World} (h : w1.heap.size ≤ w2.heap.size) {j : Nat} (hj : Ext S w w1 j) : Ext S w w2 j := hj.imp id fun h1 => ⟨h1.1, Nat.lt_of_lt_of_le h1.2 h⟩
theorem Upto.more {S : Nat → Prop} {p : Nat} {m1 m2 m : Option Nat} {cv : Value} {d : DS} {l : Fm (List Nat)} {w w1 w2 : World} (h : Upto S p m1 m2 cv d l w w1 m) (hb : Below w1.heap.size w1 w2) : Upto S p m1 m2 cv d l w w2 m :=
  ⟨h.fd.more hb, h.shown.keep (kept_new hb _) (fun b e => hb.block b (by subst e; exact h.shown.lt)) fun _ hj => hj.grow hb.size,
    h.chs.keep (kept_new hb _) (fun j hj => hb.block j (h.chs.block hj).2.1) fun _ hj => hj.grow hb.size⟩
/-- One change more is done. -/
theorem Upto.step {S : Nat → Prop} {p : Nat} {m1 m2 m m' : Option Nat} {cv : Value} {d : DS} {l l' : Fm (List Nat)} {w w1 w2 : World} (hd : DkV w S p m1 m2 cv d) (h : Upto S p m1 m2 cv d l w w1 m)
    (k : FilesDone (Ext S w w1) p 1 m (((dcells d m1 m2 cv).setIfInBounds 1 (.map m)).setIfInBounds (1 + 1) (.int .i64 (tot l : Int))) l' w1 w2 m') : Upto S p m1 m2 cv d l' w w2 m' := by
  have hpl := (Array.getElem?_eq_some_iff.1 h.fd.blk).1
  have hnm : ∀ b, m = some b → m1 = some b ∨ w.heap.size ≤ b := fun b e => by
    rcases h.fd.mb with h1 | ⟨b', h1, h2⟩
    · exact .inl (h1 ▸ e)
    · rw [h1] at e; cases e; exact .inr h2
  have hk : Kept (Typ w1 (Ext S w w1) 5) w1 w2 := k.fr.kept _ fun j hj hT => by
    rintro (rfl | e)
    · exact typ_not_other h.fd.blk (by decide) hT
    · have := h.fd.tm
      rw [e] at this
      exact typ_not_map this.obj hT
  refine ⟨h.fd.trans k, h.shown.keep hk (fun b e => k.fr.block b (by subst e; exact h.shown.lt) ?_) fun j hj => hj.grow k.fr.size, h.chs.keep hk (fun j hj => k.fr.block j (h.chs.block hj).2.1 ?_) fun j hj => hj.grow k.fr.size⟩
  · rintro (h1 | h1)
    · exact hd.pm2 b e h1
    · rcases hnm b h1 with h2 | h2
      · exact hd.apart b h2 e
      · have := hd.shown
        rw [e] at this
        have := this.lt
        omega
  · rintro (h1 | h1)
    · exact hd.pcv j hj h1
    · rcases hnm j h1 with h2 | h2
      · exact hd.m1cv j h2 hj
      · have := (hd.chs.block hj).2.1
        omega
/-- A change is done on the sure files. -/
theorem Upto.does {S : Nat → Prop} {p : Nat} {m1 m2 m : Option Nat} {cv : Value} {d : DS} {l : Fm (List Nat)} {w w1 : World} (hd : DkV w S p m1 m2 cv d) (h : Upto S p m1 m2 cv d l w w1 m) {c : Ch} (hc : ChOk c) {v : Value} (hv : At w1 (Typ w1 (Ext S w w1) 5) .u8 v c.text)
    (hl : l.length < 1099511627776) (hs : Small 65536 l) :
    Calls Tryz.prog 61 #[.pointer (some ⟨p, 1, none⟩), chV c v] w1 fun e w2 => e = .returned (.tuple #[]) ∧ ∃ m', Upto S p m1 m2 cv d (capply l c) w w2 m' := by
  refine (do_any h.fd.blk (cg0 rfl) (cg1 rfl) h.fd.tm hc hv (small_tot hs (Nat.le_refl _) hl) (by omega)).mono ?_
  rintro e w2 ⟨rfl, m', hk⟩
  exact ⟨rfl, m', h.step hd hk⟩

theorem Ext.lt {S : Nat → Prop} {w w1 : World} (hs : ∀ j, S j → j < w.heap.size) (h : w.heap.size ≤ w1.heap.size) {j : Nat} (hj : Ext S w w1 j) : j < w1.heap.size := by
  rcases hj with h1 | h1
  · exact Nat.lt_of_lt_of_le (hs j h1) h
  · exact h1.2
/-- All changes are done: they are sure. -/
theorem Upto.synced {S : Nat → Prop} {p : Nat} {m1 m2 m : Option Nat} {cv : Value} {d : DS} {w w1 : World} (hd : DkV w S p m1 m2 cv d) (h : Upto S p m1 m2 cv d d.shown w w1 m) :
    DkV (w1.setCell ⟨p, 5, none⟩ (.slice none 0 0)) (Ext S w w1) p m m2 (.slice none 0 0) { d with sure := d.shown, chs := [] } := by
  have hfr := fr_set w1 p 5 (.slice none 0 0)
  have hk : Kept (Typ w1 (Ext S w w1) 5) w1 (w1.setCell ⟨p, 5, none⟩ (.slice none 0 0)) := hfr.kept _ fun j hj hT e => by
    subst e
    exact typ_not_other h.fd.blk (by decide) hT
  have hmp : ∀ b, m = some b → b ≠ p := fun b e hb => by
    subst e hb
    obtain ⟨e, c, ho⟩ := h.fd.tm.obj
    have := ho.symm.trans h.fd.blk
    cases this
  have hmm : ∀ b, m = some b → m2 ≠ some b := fun b e e2 => by
    rcases h.fd.mb with h1 | ⟨b', h1, h2⟩
    · exact hd.apart b (h1 ▸ e) e2
    · rw [h1] at e
      cases e
      have := hd.shown
      rw [e2] at this
      have := this.lt
      omega
  exact ⟨heap_setCell_same w1 p 5 _ _ _ h.fd.blk, .inl hd.inS, fun j hj => Nat.lt_of_lt_of_le (hj.lt hd.lt h.fd.fr.size) hfr.size,
    h.fd.tm.keep hk (fun b e => hfr.block b (by subst e; exact h.fd.tm.lt) (hmp b e)) fun _ h => h,
    h.shown.keep hk (fun b e => hfr.block b (by subst e; exact h.shown.lt) (hd.pm2 b e)) fun _ h => h,
    hmm, cr_nil _ _, hd.room, hd.fuse, fun c hc => (by cases hc), hd.smallShown⟩
theorem Upto.frame {S : Nat → Prop} {p : Nat} {m1 m2 m : Option Nat} {cv : Value} {d : DS} {l : Fm (List Nat)} {w w1 : World} (hd : DkV w S p m1 m2 cv d) (h : Upto S p m1 m2 cv d l w w1 m) : Fr S w w1 :=
  h.fd.fr.mono fun j _ hj => by
    rcases hj with rfl | hj
    · exact hd.inS
    · obtain ⟨_, _, _, hs⟩ := hd.sure
      exact hs j hj
theorem inc_eq {k n : Nat} (hk : k < n) (hn : n ≤ 9223372036854775807) : Value.int .i64 (wrap64 ((k : Int) + 1)) = .int .i64 ((k + 1 : Nat) : Int) := by
  rw [w64_id (by omega) (by omega)]
  rfl
theorem inc_meas {k n : Nat} (hk : k < n) (hn : n ≤ 9223372036854775807) : n - (intOf (.int .i64 (wrap64 ((k : Int) + 1)))).toNat < n - (intOf (.int .i64 (k : Int))).toNat := by
  rw [w64_id (by omega) (by omega)]
  show n - (((k + 1 : Nat) : Int)).toNat < n - ((k : Int)).toNat
  omega
theorem all_snoc (cs : List Ch) (l : Fm (List Nat)) (c : Ch) : shownOf l (cs ++ [c]) = capply (shownOf l cs) c := shownOf_snoc l cs c

set_option maxHeartbeats 2000000 in
set_option maxRecDepth 100000 in
theorem syncD_any {w : World} {S : Nat → Prop} {p : Nat} {d : DS} (h : Dk w S p d) (hsz : d.sz < 1099511627776) :
    Calls Tryz.prog 42 #[.pointer (some ⟨p, 0, none⟩)] w fun e w' => e = .returned (errV (dsync d).2) ∧ DPost S p w w' (dsync d).1 := by
  obtain ⟨m1, m2, cv, h⟩ := h
  have HSZ := Lib.hid hsz
  have H := Lib.hid h
  clear h hsz
  go_enter Tryz.func42, Tryz.ntmps42
  go_wp2_with fail
  refine (operate_any H.out).mono ?_
  rintro e w1 ⟨rfl, hd1, hfr1⟩
  by_cases hbad : (dwork d).2 = 0
  · have HE : Hid (dsync d = ({ (dwork d).1 with sure := d.shown, chs := [] }, 0)) := Lib.hid (by unfold dsync; rw [if_neg (by simp [hbad])])
    rw [hbad, errV_zero]
    have HFR1 : Hid (Fr S w w1) := Lib.hid (hfr1.mono fun j _ hj => by rw [hj]; exact H.out.inS)
    have hsure : (dwork d).1.sure = d.sure := by unfold dwork; split <;> rfl
    have hchs : (dwork d).1.chs = d.chs := by unfold dwork; split <;> rfl
    obtain ⟨d1, hd1e⟩ : ∃ d1, d1 = (dwork d).1 := ⟨_, rfl⟩
    rw [← hd1e] at hd1 hsure hchs
    have HEQ := Lib.hid hd1e
    have HSH : Hid (d1.shown = d.shown) := Lib.hid (by unfold DS.shown; rw [hsure, hchs])
    have HL : Hid (d1.sure.length + d1.chs.length < 1099511627776) := Lib.hid (by rw [hsure, hchs]; exact HSZ.out)
    have c5 := hd1.c5
    obtain ⟨aoc, capc, rfl, _, _, _⟩ := hd1.chs.val
    have HD1 := Lib.hid hd1
    clear hbad hfr1 hsure hchs hd1e hd1
    go_wp2
    go_loopw [16] (fun i wr => ∃ (k : Nat) (m : Option Nat), k ≤ d1.chs.length ∧ i = .int .i64 (k : Int) ∧ Upto S p m1 m2 (.slice aoc d1.chs.length capc) d1 (shownOf d1.sure (d1.chs.take k)) w1 wr m)
      (fun i _ => d1.chs.length - (intOf i).toNat)
    case atStart => exact ⟨0, m1, Nat.zero_le _, rfl, Upto.start HD1.out⟩
    case round =>
      obtain ⟨k, m, hk, rfl, hup⟩ := hrel
      have HUP := Lib.hid hup
      by_cases hlt : k < d1.chs.length
      · obtain ⟨c, hc⟩ : ∃ c, d1.chs[k]? = some c := ⟨_, List.getElem?_eq_getElem hlt⟩
        obtain ⟨g, cap, v, hcv, e0, e1, e2, e3, hat⟩ := hup.chs.at hc
        have HC := Lib.hid hc
        have HK := Lib.hid hlt
        cases hcv
        obtain ⟨aot, capt, rfl, _, _, _⟩ := hat.reads.val
        have hlti : (k : Int) < d1.chs.length := by omega
        have HAT := Lib.hid hat
        obtain ⟨kind, name, to, text⟩ := c
        simp only [] at e0 e1 e2 e3
        obtain ⟨s1, hs1⟩ : ∃ s1 : ByteArray, nmV name = .string s1 := ⟨_, rfl⟩
        obtain ⟨s2, hs2⟩ : ∃ s2 : ByteArray, nmV to = .string s2 := ⟨_, rfl⟩
        rw [hs1] at e1
        rw [hs2] at e2
        have HS1 := Lib.hid hs1
        have HS2 := Lib.hid hs2
        clear hup hat hc hs1 hs2
        go_wp2_with fail
        obtain ⟨W1, hW1⟩ : ∃ W1, W1 = wr.alloc (.cells #[.int .i64 (kind : Int), .string s1, .string s2, .slice aot text.length capt] 106) := ⟨_, rfl⟩
        rw [← hW1]
        have hb1 : Below wr.heap.size wr W1 := by rw [hW1]; exact (Below.refl _ _).alloc (Nat.le_refl _) _
        have hx1 : W1.heap[wr.heap.size]? = some (.cells #[.int .i64 (kind : Int), .string s1, .string s2, .slice aot text.length capt] 106 (0, 0)) := by rw [hW1]; exact heap_alloc_new _ _
        have b0 : W1.cell? ⟨wr.heap.size, 0, none⟩ = some (.int .i64 (kind : Int)) := by rw [cell_of_row _ _ 0 _ _ _ hx1]; rfl
        have b1 : W1.cell? ⟨wr.heap.size, 1, none⟩ = some (.string s1) := by rw [cell_of_row _ _ 1 _ _ _ hx1]; rfl
        have b2 : W1.cell? ⟨wr.heap.size, 2, none⟩ = some (.string s2) := by rw [cell_of_row _ _ 2 _ _ _ hx1]; rfl
        have b3 : W1.cell? ⟨wr.heap.size, 3, none⟩ = some (.slice aot text.length capt) := by rw [cell_of_row _ _ 3 _ _ _ hx1]; rfl
        have hbd : Below wr.heap.size wr W1.drew := ⟨hb1.os, hb1.tape, hb1.output, hb1.size, hb1.block⟩
        have hcall := Upto.does HD1.out (HUP.out.more hbd) (c := ⟨kind, name, to, text⟩) (HD1.out.ok _ (List.mem_of_getElem? HC.out)) (v := .slice aot text.length capt) (HAT.out.typ (kept_new hbd _) fun j hj => hj.grow hbd.size)
          (Nat.lt_of_le_of_lt (Nat.le_trans (shownOf_length _ _) (Nat.add_le_add_left (by rw [List.length_take]; exact Nat.min_le_right _ _) _)) HL.out)
          (HD1.out.small.shown fun c hc => ⟨(HD1.out.ok c (List.mem_of_mem_take hc)).text, (HD1.out.ok c (List.mem_of_mem_take hc)).byte⟩)
        unfold chV at hcall
        simp only [] at hcall
        rw [HS1.out, HS2.out] at hcall
        have HCALL := Lib.hid hcall
        clear hW1 hb1 hx1 hbd hcall e0 e1 e2 e3
        refine wp_region_still_tail 4 (by kernel_rfl) (by kernel_rfl) ?_
        simp only [List.take_succ_cons, List.take_zero, List.drop_succ_cons, List.drop_zero]
        repeat still_step
        refine wpStill_nil ?_
        go_wp2_with fail
        refine HCALL.out.mono ?_
        rintro e w2 ⟨rfl, m', hup2⟩
        have HUP2 : Hid (Upto S p m1 m2 (.slice (some ⟨g, 0, none⟩) d1.chs.length capc) d1 (shownOf d1.sure (d1.chs.take (k + 1))) w1 w2 m') := Lib.hid (by rw [take_snoc HC.out, shownOf_snoc]; exact hup2)
        clear hup2 b0 b1 b2 b3
        go_wp2
        go_roundw
        case rel => exact ⟨k + 1, m', HK.out, inc_eq HK.out (by have := HL.out; omega), HUP2.out⟩
        case measure => exact inc_meas HK.out (by have := HL.out; omega)
      · obtain rfl : k = d1.chs.length := by omega
        have hk1 := hup.fd.blk
        have c5 : wr.cell? ⟨p, 5, none⟩ = some (.slice aoc d1.chs.length capc) := by rw [cell_of_row _ _ 5 _ _ _ hk1]; rfl
        have f5 := frozen_of_row wr p 5 _ _ hk1
        have HFIN : Hid (DPost S p w1 (wr.setCell ⟨p, 5, none⟩ (.slice none 0 0)) { d1 with sure := d1.shown, chs := [] }) := Lib.hid (by
          rw [List.take_of_length_le (Nat.le_refl _)] at hup
          exact ⟨_, ⟨m, m2, _, Upto.synced HD1.out hup⟩, (Upto.frame HD1.out hup).trans (fr_set wr p 5 _) (fun _ _ h => h) (fun j _ hj => by rw [hj]; exact H.out.inS), fun _ h => .inl h, fun _ h => h.imp id fun h => h.1⟩)
        clear hup hk1
        go_wp2
        go_ret
        refine ⟨by rw [HE.out]; rfl, ?_⟩
        rw [HE.out, ← HSH.out]
        have := DPost.trans HFR1.out (fun _ h => h) (fun _ h => .inl h) HFIN.out
        rw [HEQ.out] at this ⊢
        exact this
  · have HE : Hid (dsync d = dwork d) := Lib.hid (by unfold dsync; rw [if_pos hbad])
    have HP : Hid (errV (dwork d).2 = .iface 58 (.int .i64 ((dwork d).2 : Int))) := Lib.hid (errV_pos hbad)
    have HD := Lib.hid (DPost.same (S := S) ⟨m1, m2, cv, hd1⟩ (hfr1.mono fun j _ hj => by rw [hj]; exact H.out.inS))
    clear hbad hd1 hfr1
    rw [HP.out]
    go_wp2
    go_ret
    exact ⟨by rw [HE.out, HP.out]; rfl, by rw [HE.out]; exact HD.out⟩

end Go.Proofs.YtmjpckodcafjiaaGreat
