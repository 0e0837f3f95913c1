/- Files in memory: the contract of do. -/
import Derived.Test.YtmjpckodcafjiaaGreatDskD
import Derived.Deep.RegionHeld3
namespace Go.Proofs.YtmjpckodcafjiaaGreat
open Go.RowKit

theorem Ext.sub {S : Nat → Prop} {w w1 w2 : World} (h : w.heap.size ≤ w1.heap.size) {j : Nat} (hj : Ext S w1 w2 j) : Ext S w w2 j := by
  rcases hj with h1 | ⟨h1, h2⟩
  · exact .inl h1
  · exact .inr ⟨Nat.le_trans h h1, h2⟩
theorem Ext.mid {S : Nat → Prop} {w w1 w2 : World} (h1 : w.heap.size ≤ w1.heap.size) (h2 : w1.heap.size ≤ w2.heap.size) {j : Nat} (hj : Ext (Ext S w w1) w1 w2 j) : Ext S w w2 j := by
  rcases hj with (h | ⟨h, h'⟩) | ⟨h, h'⟩
  · exact .inl h
  · exact .inr ⟨h, Nat.lt_of_lt_of_le h' h2⟩
  · exact .inr ⟨Nat.le_trans h1 h, h'⟩
theorem TM.mono {w : World} {S S' : Nat → Prop} {mb : Option Nat} {l : Fm (List Nat)} (h : TM w S mb l) (hs : ∀ j, S j → S' j) : TM w S' mb l :=
  h.keep (Kept.refl _ _) (fun _ _ => rfl) hs
theorem set_twice {cs : Array Value} {o : Nat} {a b x y : Value} : (((cs.setIfInBounds o a).setIfInBounds (o + 1) b).setIfInBounds o x).setIfInBounds (o + 1) y = (cs.setIfInBounds o x).setIfInBounds (o + 1) y := by
  apply Array.ext_getElem?
  intro i
  simp only [Array.getElem?_setIfInBounds, Array.size_setIfInBounds]
  repeat' split
  all_goals first | rfl | omega

theorem FilesDone.back {S : Nat → Prop} {p o : Nat} {mb mb' : Option Nat} {cs : Array Value} {l' : Fm (List Nat)} {w w1 w2 : World} (h : FilesDone S p o mb cs l' w1 w2 mb') (hb : Below w.heap.size w w1) : FilesDone S p o mb cs l' w w2 mb' :=
  ⟨h.blk, h.tm.mono fun _ hj => hj.sub hb.size, Fr.trans (fr_below hb _) h.fr (fun _ _ h => h) (fun _ _ h => h), h.mb.imp id fun ⟨b, e, hl⟩ => ⟨b, e, Nat.le_trans hb.size hl⟩⟩
theorem FilesDone.trans {S : Nat → Prop} {p o : Nat} {mb mb1 mb2 : Option Nat} {cs : Array Value} {l1 l2 : Fm (List Nat)} {w w1 w2 : World} (h : FilesDone S p o mb cs l1 w w1 mb1)
    (k : FilesDone (Ext S w w1) p o mb1 ((cs.setIfInBounds o (.map mb1)).setIfInBounds (o + 1) (.int .i64 (tot l1 : Int))) l2 w1 w2 mb2) : FilesDone S p o mb cs l2 w w2 mb2 := by
  refine ⟨k.blk.trans (by rw [set_twice]), k.tm.mono fun _ hj => hj.mid h.fr.size k.fr.size, Fr.trans h.fr k.fr (fun _ _ h => h) fun j hj hk => ?_, ?_⟩
  · rcases hk with rfl | hk
    · exact .inl rfl
    · rcases h.mb with e | ⟨b, e, hl⟩
      · rw [e] at hk; exact .inr hk
      · rw [e] at hk; cases hk; omega
  · rcases k.mb with e | ⟨b, e, hl⟩
    · rw [e]; exact h.mb
    · exact .inr ⟨b, e, Nat.le_trans h.fr.size hl⟩

/-- Nothing is done. -/
theorem filesDone_refl {w w' : World} {S : Nat → Prop} {p o : Nat} {mb : Option Nat} {cs : Array Value} {l : Fm (List Nat)} (hp : w.heap[p]? = some (.cells cs 73 (0, 0))) (hc0 : cs[o]? = some (.map mb)) (hc1 : cs[o + 1]? = some (.int .i64 (tot l : Int)))
    (ht : TM w S mb l) (hb : Below w.heap.size w w') : FilesDone S p o mb cs l w w' mb := by
  have hpl := (Array.getElem?_eq_some_iff.1 hp).1
  refine ⟨?_, (ht.keep (kept_new hb _) (fun b e => hb.block b (by subst e; exact ht.lt)) fun j h => .inl h), fr_below hb _, .inl rfl⟩
  rw [set_same hc0, set_same hc1]
  exact (hb.block p hpl).trans hp

theorem fsz_tot {l : Fm (List Nat)} (h : Apart l) (n : Nm) : fsz l n ≤ tot l := by
  have := tot_del h n
  omega
theorem tot_fdel {l : Fm (List Nat)} (h : Apart l) (n : Nm) : tot (fdel l n) ≤ tot l := by
  have := tot_del h n
  omega

/-- A change as a value. -/
def chV (c : Ch) (v : Value) : Value := .agg #[.int .i64 (c.kind : Int), nmV c.name, nmV c.to, v]
structure ChOk (c : Ch) : Prop where
  kind : c.kind ≤ 2
  name : c.name.length ≤ 1000
  to : c.to.length ≤ 1000
  text : c.text.length ≤ 65536
  byte : ∀ y ∈ c.text, y < 256

def DoPost (S : Nat → Prop) (p o : Nat) (mb : Option Nat) (cs : Array Value) (l : Fm (List Nat)) (c : Ch) (w : World) (e : Ending) (w' : World) : Prop :=
  e = .returned (.tuple #[]) ∧ ∃ mb', FilesDone S p o mb cs (capply l c) w w' mb'

theorem maxLen_1000 {n : Nat} (h : n ≤ 1000) : n ≤ maxLen := Nat.le_trans h (by simp [maxLen])
theorem maxLen_62 {n : Nat} (h : n < 4611686018427387904) : n < maxLen := Nat.lt_of_lt_of_le h (by simp [maxLen])
theorem capply_write {l : Fm (List Nat)} {n to : Nm} {t : List Nat} : capply l ⟨0, n, to, t⟩ = fput l n t := rfl
theorem capply_no {l : Fm (List Nat)} {n to : Nm} {t : List Nat} (h : fhas l n = false) : capply l ⟨1, n, to, t⟩ = l := by
  unfold capply
  rw [fhas_get] at h
  cases hg : fget l n with
  | none => simp
  | some x => rw [hg] at h; cases h
theorem capply_rename {l : Fm (List Nat)} {n to : Nm} {t : List Nat} (h : fhas l n = true) : capply l ⟨1, n, to, t⟩ = fput (fdel l n) to ((fget l n).getD []) := by
  unfold capply
  rw [fhas_get] at h
  cases hg : fget l n with
  | none => rw [hg] at h; cases h
  | some x => simp
theorem capply_remove {l : Fm (List Nat)} {n to : Nm} {t : List Nat} : capply l ⟨2, n, to, t⟩ = fdel l n := by
  unfold capply
  cases hg : fget l n with
  | none => simp [fdel_none hg]
  | some x => simp

theorem cg0 {cs : Array Value} {o : Nat} {a x y : Value} (h0 : cs[o]? = some a) : ((cs.setIfInBounds o x).setIfInBounds (o + 1) y)[o]? = some x := by
  have := (Array.getElem?_eq_some_iff.1 h0).1
  rw [Array.getElem?_setIfInBounds_ne (by omega), Array.getElem?_setIfInBounds_self_of_lt this]
theorem cg1 {cs : Array Value} {o : Nat} {b x y : Value} (h1 : cs[o + 1]? = some b) : ((cs.setIfInBounds o x).setIfInBounds (o + 1) y)[o + 1]? = some y := by
  have := (Array.getElem?_eq_some_iff.1 h1).1
  rw [Array.getElem?_setIfInBounds_self_of_lt (by simpa using this)]

set_option maxHeartbeats 2000000 in
set_option maxRecDepth 100000 in
theorem do_any {w : World} {S : Nat → Prop} {p o : Nat} {mb : Option Nat} {cs : Array Value} {l : Fm (List Nat)} (hp : w.heap[p]? = some (.cells cs 73 (0, 0))) (hc0 : cs[o]? = some (.map mb)) (hc1 : cs[o + 1]? = some (.int .i64 (tot l : Int)))
    (ht : TM w S mb l) {c : Ch} (hc : ChOk c) {v : Value} (hv : At w (Typ w S 5) .u8 v c.text) (htot : tot l < 4611686018427387904) (hlen : l.length < 4611686018427387904) :
    Calls Tryz.prog 61 #[.pointer (some ⟨p, o, none⟩), chV c v] w (DoPost S p o mb cs l c w) := by
  obtain ⟨ao, cap, rfl, _, _, _⟩ := hv.reads.val
  obtain ⟨kind, name, to, text⟩ := c
  obtain ⟨zk, hzk⟩ : ∃ zk : Int, zk = (kind : Int) := ⟨_, rfl⟩
  obtain ⟨W1, hW1⟩ : ∃ W1, W1 = w.alloc (.cells #[.int .i64 zk, nmV name, nmV to, .slice ao text.length cap] 106) := ⟨_, rfl⟩
  have hb1 : Below w.heap.size w W1 := by rw [hW1]; exact (Below.refl _ _).alloc (Nat.le_refl _) _
  have hpl := (Array.getElem?_eq_some_iff.1 hp).1
  have hap := ht.apart
  have hp1 := (hb1.block p hpl).trans hp
  have ht1 : TM W1 S mb l := ht.keep (kept_new hb1 _) (fun b e => hb1.block b (by subst e; exact ht.lt)) fun j h => h
  have hv1 : At W1 (Typ W1 S 5) .u8 (.slice ao text.length cap) text := hv.typ (kept_new hb1 _) fun j h => h
  have hx : W1.heap[w.heap.size]? = some (.cells #[.int .i64 zk, nmV name, nmV to, .slice ao text.length cap] 106 (0, 0)) := by rw [hW1]; exact heap_alloc_new _ _
  have hpc : W1.cell? ⟨p, o, none⟩ = some (.map mb) := by rw [cell_of_row W1 p o _ _ _ hp1]; exact hc0
  obtain ⟨es, hm1, hz1, hS1⟩ := id ht1
  have HM1 := Lib.hid hm1
  have HHAS : Hid (fhas es name = fhas l name) := Lib.hid (hz1.has name)
  have HP1 := Lib.hid hp1
  have HT1 := Lib.hid ht1
  have HV1 := Lib.hid hv1
  have HX := Lib.hid hx
  have HPC := Lib.hid hpc
  have HAP := Lib.hid hap
  have HC := Lib.hid hc
  have HW1 := Lib.hid hW1
  have HB1 := Lib.hid hb1
  have HC0 := Lib.hid hc0
  have HC1 := Lib.hid hc1
  have HN : Hid (name.length ≤ maxLen) := Lib.hid (maxLen_1000 hc.name)
  have HT : Hid (to.length ≤ maxLen) := Lib.hid (maxLen_1000 hc.to)
  have HX2 : Hid (text.length < 4611686018427387904) := Lib.hid (Nat.lt_of_le_of_lt hc.text (by omega))
  have HK : Hid (kind ≤ 2) := Lib.hid hc.kind
  have HPW : Hid (p ≠ w.heap.size) := Lib.hid (Nat.ne_of_lt hpl)
  have HMW : Hid (∀ b, mb = some b → w.heap.size ≠ b) := Lib.hid fun b e h => by
    subst e h
    obtain ⟨e, c, h⟩ := ht1.obj
    rw [h] at hx
    cases hx
  clear hp hc0 hc1 ht hv hW1 hb1 hc hpl hp1 ht1 hv1 hx hpc hm1 hz1 hS1 hap
  unfold chV
  simp only []
  rw [← hzk]
  have HZK := Lib.hid hzk
  clear hzk
  go_enter Tryz.func61, Tryz.ntmps61
  rcases (show kind = 0 ∨ kind = 1 ∨ kind = 2 by have := HK.out; omega) with rfl | rfl | rfl
  · obtain rfl : zk = 0 := HZK.out
    go_wp2_with fail
    rw [← HW1.out]
    refine (put_any HP1.out HC0.out HC1.out HT1.out HN.out HV1.out HX2.out htot (maxLen_62 hlen)).mono ?_
    rintro e w2 ⟨rfl, mb2, hd⟩
    have HD := Lib.hid (hd.back HB1.out)
    clear hd
    go_wp2
    first | go_end0 | (simp only [Exit.inBlock, Exit.then]; refine bodyPost_ret (results_none rfl _ _ _) rfl ?_) | refine bodyPost_ret (results_none rfl _ _ _) rfl ?_
    exact ⟨rfl, _, HD.out⟩
  · obtain rfl : zk = 1 := HZK.out
    go_wp2_with fail
    rw [← HW1.out]
    refine (has_any HPC.out HM1.out HN.out).mono ?_
    rintro e W1 ⟨rfl, rfl⟩
    rw [HHAS.out]
    have x1 : W1.cell? ⟨w.heap.size, 1, none⟩ = some (nmV name) := by rw [cell_of_row _ _ 1 _ _ _ HX.out]; rfl
    have x2 : W1.cell? ⟨w.heap.size, 2, none⟩ = some (nmV to) := by rw [cell_of_row _ _ 2 _ _ _ HX.out]; rfl
    cases hh : fhas l name
    · have HH := Lib.hid hh
      clear hh
      go_wp2
      first | go_end0 | (simp only [Exit.inBlock, Exit.then]; refine bodyPost_ret (results_none rfl _ _ _) rfl ?_) | refine bodyPost_ret (results_none rfl _ _ _) rfl ?_
      refine ⟨rfl, mb, ?_⟩
      rw [capply_no HH.out]
      exact (filesDone_refl HP1.out HC0.out HC1.out HT1.out (Below.refl _ _)).back HB1.out
    · have HH := Lib.hid hh
      clear hh
      have X1 := Lib.hid x1
      have X2 := Lib.hid x2
      have HXL : Hid (w.heap.size < W1.heap.size) := Lib.hid (Array.getElem?_eq_some_iff.1 HX.out).1
      have HNOT : Hid (¬ (w.heap.size = p ∨ mb = some w.heap.size)) := Lib.hid (by
        rintro (h | h)
        · exact HPW.out h.symm
        · exact HMW.out _ h rfl)
      go_wp2_with fail
      go_region_held3 (fun w' => w'.cell? ⟨w.heap.size, 1, none⟩ = some (nmV name) ∧ w'.cell? ⟨w.heap.size, 2, none⟩ = some (nmV to)) (go_keep) (first
        | (go_at_call 79; refine (take_any (w := W1.drew) HP1.out HC0.out HC1.out (HT1.out.keep ⟨Nat.le_refl _, fun _ _ _ => rfl⟩ (fun _ _ => rfl) fun _ h => h) HN.out htot).mono ?_
           rintro e wx ⟨vx, rfl, hat, hd⟩
           obtain ⟨ax, cx, rfl, _, _, _⟩ := hat.reads.val
           have x1 : wx.cell? ⟨w.heap.size, 1, none⟩ = some (nmV name) := (World.cell?_of_block (hd.fr.block _ HXL.out HNOT.out)).trans X1.out
           have x2 : wx.cell? ⟨w.heap.size, 2, none⟩ = some (nmV to) := (World.cell?_of_block (hd.fr.block _ HXL.out HNOT.out)).trans X2.out
           have Y1 := Lib.hid x1
           have Y2 := Lib.hid x2
           have HAT := Lib.hid hat
           have HD := Lib.hid hd
           clear hat hd)
        | (go_at_call 78
           refine (put_any HD.out.blk (cg0 HC0.out) (cg1 HC1.out) HD.out.tm HT.out HAT.out (Nat.lt_of_le_of_lt (fsz_tot HAP.out name) htot) (Nat.lt_of_le_of_lt (tot_fdel HAP.out name) htot) (maxLen_62 (Nat.lt_of_le_of_lt (fdel_length _ _) hlen))).mono ?_
           rintro e wy ⟨rfl, mb2, hd2⟩
           have hlx := Nat.lt_of_lt_of_le HXL.out HD.out.fr.size
           have x1 : wy.cell? ⟨w.heap.size, 1, none⟩ = some (nmV name) := (World.cell?_of_block (hd2.fr.block _ hlx HNOT.out)).trans Y1.out
           have x2 : wy.cell? ⟨w.heap.size, 2, none⟩ = some (nmV to) := (World.cell?_of_block (hd2.fr.block _ hlx HNOT.out)).trans Y2.out
           have HD2 := Lib.hid hd2
           clear hd2 hlx)
)
      first | go_end0 | (simp only [Exit.inBlock, Exit.then]; refine bodyPost_ret (results_none rfl _ _ _) rfl ?_) | refine bodyPost_ret (results_none rfl _ _ _) rfl ?_
      refine ⟨rfl, mb2, ?_⟩
      rw [capply_rename HH.out]
      have h1 : FilesDone S p o mb cs (fdel l name) W1 _ mb := ⟨HD.out.blk, HD.out.tm, ⟨HD.out.fr.os, HD.out.fr.tape, HD.out.fr.output, HD.out.fr.size, HD.out.fr.block⟩, HD.out.mb⟩
      exact (h1.trans HD2.out).back HB1.out
  · obtain rfl : zk = 2 := HZK.out
    go_wp2_with fail
    rw [← HW1.out]
    refine (take_any HP1.out HC0.out HC1.out HT1.out HN.out htot).mono ?_
    rintro e w2 ⟨v2, rfl, hat, hd⟩
    have HD := Lib.hid (hd.back HB1.out)
    obtain ⟨ao2, cap2, rfl, _, _, _⟩ := hat.reads.val
    clear hat hd
    go_wp2
    first | go_end0 | (simp only [Exit.inBlock, Exit.then]; refine bodyPost_ret (results_none rfl _ _ _) rfl ?_) | refine bodyPost_ret (results_none rfl _ _ _) rfl ?_
    exact ⟨rfl, mb, by rw [capply_remove]; exact HD.out⟩

end Go.Proofs.YtmjpckodcafjiaaGreat
