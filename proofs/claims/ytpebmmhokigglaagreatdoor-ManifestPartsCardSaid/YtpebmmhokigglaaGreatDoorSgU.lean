/- The document's own segments: Take. -/
import Derived.Test.YtpebmmhokigglaaGreatDoorQm
import Derived.Test.YtpebmmhokigglaaGreatDoorQn
import Derived.Test.YtpebmmhokigglaaGreatDoorFbP
import Derived.Test.YtpebmmhokigglaaGreatDoorRrP
namespace Go.Proofs.YtpebmmhokigglaaGreatDoor
open Go.RowKit

/-- What the document's Take answers. -/
def RSgTake (b : List Nat) (w : World) (r : Ending) (w' : World) : Prop :=
  Below w.heap.size w w' ∧ ∃ (f : Int) (cs : List IC) (c : Nat) (v : Value), RSeg b f cs c ∧ r = .returned (.tuple #[.agg #[.int .i64 f, v], .int .i64 (c : Int)]) ∧ Dc w' (fun j => w.heap.size ≤ j) v cs
theorem sdc_nil (w : World) (B : Nat → Prop) : Dc w B (.slice none 0 0) [] := recAt_nil _ _ _
theorem SdB.put1 {w : World} {q : Nat} {x y : Value} (h : SdB w q x y) (b : Value) : SdB (w.setCell ⟨q, 1, none⟩ b) q x b := by
  unfold SdB at h ⊢
  rw [heap_setCell_same _ _ 1 _ _ _ h]
  rfl
theorem SdB.put0 {w : World} {q : Nat} {x y : Value} (h : SdB w q x y) (a : Value) : SdB (w.setCell ⟨q, 0, none⟩ a) q a y := by
  unfold SdB at h ⊢
  rw [heap_setCell_same _ _ 0 _ _ _ h]
  rfl
theorem SdB.other {w : World} {q p : Nat} {x y : Value} (h : SdB w q x y) (hp : q ≠ p) (i : Nat) (u : Value) : SdB (w.setCell ⟨p, i, none⟩ u) q x y := (heap_setCell_other w ⟨p, i, none⟩ q u hp).trans h
/-- A reader's box. -/
def RdB (w : World) (q : Nat) (x y : Value) : Prop := w.heap[q]? = some (.cells #[x, y] 111 (0, 0))
theorem RdB.lt {w : World} {q : Nat} {x y : Value} (h : RdB w q x y) : q < w.heap.size := (Array.getElem?_eq_some_iff.1 h).1
theorem RdB.old {w w' : World} {q : Nat} {x y : Value} (h : RdB w q x y) (hb : Below w.heap.size w w') : RdB w' q x y := (hb.block _ h.lt).trans h
theorem RdB.other {w : World} {q p : Nat} {x y : Value} (h : RdB w q x y) (hp : q ≠ p) (i : Nat) (u : Value) : RdB (w.setCell ⟨p, i, none⟩ u) q x y := (heap_setCell_other w ⟨p, i, none⟩ q u hp).trans h
theorem RdB.set {w : World} {q : Nat} {x y : Value} (h : RdB w q x y) (a b : Value) : RdB ((w.setCell ⟨q, 0, none⟩ a).setCell ⟨q, 1, none⟩ b) q a b := by
  unfold RdB at h ⊢
  rw [heap_setCell_same _ _ 1 _ _ _ (heap_setCell_same _ _ 0 _ _ _ h)]
  rfl

set_option maxHeartbeats 8000000 in
set_option maxRecDepth 100000 in
theorem rsgtake_any (v : Value) (b : List Nat) (w : World) (hr : Reads w .u8 v b) (hb : ∀ y ∈ b, y < 256) : Calls Tryz.prog 30 #[v] w (RSgTake b w) := by
  obtain ⟨ao, cap, rfl, _, _, _⟩ := hr.val
  obtain ⟨W2, hW2⟩ : ∃ W2, W2 = w.alloc (.cells #[.int .i64 0, .slice none 0 0] 34) := ⟨_, rfl⟩
  have hb2 : Below w.heap.size w W2 := by rw [hW2]; exact (Below.refl _ _).alloc (Nat.le_refl _) _
  have hx2 : SdB W2 w.heap.size (.int .i64 0) (.slice none 0 0) := by rw [hW2]; exact sdb_new _ _ _
  have HT := Lib.hid (refFrTakeU_any _ b W2 _ (hr.at'.old hb2) hb)
  have HB2 := Lib.hid hb2
  have HX2 := Lib.hid hx2
  have HBB := Lib.hid hb
  have HW2 := Lib.hid hW2
  obtain ⟨nb, hnb⟩ : ∃ n, n = b.length := ⟨_, rfl⟩
  have HN := Lib.hid hnb
  rw [← hnb] at HT ⊢
  have HBAD : Hid (∀ (c : Nat) W, RSeg b 0 [] c → Below W2.heap.size W2 W → RSgTake b w (.returned (.tuple #[.agg #[.int .i64 0, .slice none 0 0], .int .i64 (c : Int)])) ((W.setCell ⟨w.heap.size, 0, none⟩ (.int .i64 0)).setCell ⟨w.heap.size, 1, none⟩ (.slice none 0 0))) := Lib.hid fun c W he hbw =>
    ⟨((HB2.out.trans (hbw.mono HB2.out.size)).setCell (Nat.le_refl _) _).setCell (Nat.le_refl _) _, 0, [], c, _, he, rfl, sdc_nil _ _⟩
  clear hr hb hb2 hx2 hW2 hnb
  go_enter Tryz.func30, Tryz.ntmps30
  go_wp2_with fail
  rw [← HW2.out]
  refine HT.out.mono ?_
  rintro r w3 ⟨v3, t, s, c0, rfl, hft, hat, hb3, hbk⟩
  obtain ⟨ao3, n3, cap3, rfl, hbk⟩ := hbk
  obtain ⟨ao3', cap3', hv, _, _, _⟩ := hat.reads.val
  obtain ⟨rfl, rfl, rfl⟩ : ao3 = ao3' ∧ n3 = t.length ∧ cap3 = cap3' := by simpa using hv
  have HF := Lib.hid hft
  have HB3 : Hid (Below W2.heap.size W2 w3) := Lib.hid hb3
  have HRU : Hid (RdU w3 W2.heap.size (.slice ao3 t.length cap3) t) := Lib.hid ⟨hat.reads, ao3, t.length, cap3, rfl, hbk.imp id fun ⟨b, off, h1, h2, _⟩ => ⟨b, off, h1, by omega⟩⟩
  have HX3 := Lib.hid (HX2.out.old hb3)
  have HR3 := Lib.hid hat.reads
  obtain ⟨z0, z1, f0, f1⟩ := HX3.out.x
  obtain ⟨nt, hnt⟩ : ∃ n, n = t.length := ⟨_, rfl⟩
  rw [← hnt] at HRU HR3 ⊢
  have HNT := Lib.hid hnt
  clear hft hat hb3 hbk hv hnt
  by_cases hz : c0 = 0
  rotate_left
  · have tz : ((c0 : Int) != 0) = true := by simp; omega
    have tz2 : ((c0 : Int) == 0) = false := by rw [beq_eq_false_iff_ne]; omega
    have HZ := Lib.hid hz
    clear hz
    go_wp2
    refine bodyPost_ret (v := .tuple #[.agg #[.int .i64 0, .slice none 0 0], .int .i64 (c0 : Int)]) (by simp [results, Tryz.results30, go_sem, z0, z1]) rfl ?_
    exact HBAD.out c0 w3 ⟨[], c0, ⟨t, s, c0, HF.out, by rw [if_pos HZ.out]; exact ⟨rfl, rfl⟩⟩, by rw [if_pos HZ.out]; exact ⟨rfl, rfl, rfl⟩⟩ HB3.out
  subst hz
  by_cases hs : s < nb
  · have hsi : (s : Int) < (nb : Int) := by omega
    have HS := Lib.hid hs
    clear hs
    go_wp2
    refine bodyPost_ret (v := .tuple #[.agg #[.int .i64 0, .slice none 0 0], .int .i64 2]) (by simp [results, Tryz.results30, go_sem, z0, z1]) rfl ?_
    exact HBAD.out 2 w3 ⟨[], 2, ⟨t, s, 0, HF.out, by rw [if_neg (by decide), if_pos (by rw [← HN.out]; exact HS.out)]; exact ⟨rfl, rfl⟩⟩, by rw [if_pos (by decide)]; exact ⟨rfl, rfl, rfl⟩⟩ HB3.out
  have hsi : ¬ (s : Int) < (nb : Int) := by omega
  have HFT : Hid (FO b t 0) := Lib.hid ⟨t, s, 0, HF.out, by rw [if_neg (by decide), if_neg (by rw [← HN.out]; exact hs)]; exact ⟨rfl, rfl⟩⟩
  have H80 := Lib.hid (sg_fo_good HBB.out HFT.out rfl)
  obtain ⟨W4, hW4⟩ : ∃ W, W = w3.alloc (.cells #[.int .i64 0, .slice none 0 0] 34) := ⟨_, rfl⟩
  have hb4 : Below w3.heap.size w3 W4 := by rw [hW4]; exact (Below.refl _ _).alloc (Nat.le_refl _) _
  have hx4 : SdB W4 w3.heap.size (.int .i64 0) (.slice none 0 0) := by rw [hW4]; exact sdb_new _ _ _
  have HB4 : Hid (Below W2.heap.size W2 W4) := Lib.hid (HB3.out.trans (hb4.mono HB3.out.size))
  have HRU4 := Lib.hid (HRU.out.below (hb4.mono HB3.out.size))
  have HX4 := Lib.hid hx4
  obtain ⟨p, hp⟩ : ∃ p, p = w3.heap.size := ⟨_, rfl⟩
  rw [← hp] at HX4
  have HP := Lib.hid hp
  have HPG : Hid (W2.heap.size ≤ p) := Lib.hid (by rw [hp]; exact HB3.out.size)
  have HW4 := Lib.hid hW4
  have hwi := rwithin_any W2.heap.size ao3 cap3 t 0 1048576 W4 HB4.out.size (by rw [← HNT.out]; exact HRU4.out) H80.out.1
  rw [← HNT.out] at hwi
  have HWI := Lib.hid hwi
  clear hb4 hx4 hp hW4 hwi hs z0 z1 f0 f1
  go_wp2_with fail
  rw [← HW4.out, ← HP.out]
  refine HWI.out.mono ?_
  rintro r w5 ⟨n5, ao5, cap5, r5, c5, rfl, hn5, hru5, hb5⟩
  have HN5 := Lib.hid hn5
  have H85 : Hid (∀ y ∈ r5, y < 256) := Lib.hid fun y hy => H80.out.1 y ((sg_num_sub hn5).1 y hy)
  obtain ⟨e, he⟩ : ∃ x, x = withinR n5 1048576 := ⟨_, rfl⟩
  obtain ⟨d5, hd5⟩ : ∃ y, y = withinC n5 c5 1048576 := ⟨_, rfl⟩
  rw [← he, ← hd5]
  have HE := Lib.hid he
  have HD5 := Lib.hid hd5
  obtain ⟨nr5, hnr5⟩ : ∃ n, n = r5.length := ⟨_, rfl⟩
  rw [← hnr5] at hru5 ⊢
  have HNR5 := Lib.hid hnr5
  obtain ⟨W6, hW6⟩ : ∃ W, W = w5.alloc (.cells #[.slice ao5 nr5 cap5, .int .i64 (d5 : Int)] 111) := ⟨_, rfl⟩
  have hb6 : Below w5.heap.size w5 W6 := by rw [hW6]; exact (Below.refl _ _).alloc (Nat.le_refl _) _
  have hr6 : RdB W6 w5.heap.size (.slice ao5 nr5 cap5) (.int .i64 (d5 : Int)) := by rw [hW6]; exact heap_alloc_new _ _
  have hb46 : Below W4.heap.size W4 W6 := hb5.trans (hb6.mono hb5.size)
  have HB6 : Hid (Below W2.heap.size W2 W6) := Lib.hid (HB4.out.trans (hb46.mono HB4.out.size))
  have HX6 := Lib.hid (HX4.out.old hb46)
  have HPS : Hid (p < w5.heap.size) := Lib.hid (HX4.out.old hb5).lt
  have HRU6 := Lib.hid (hru5.below (hb6.mono (by have h1 := HB4.out.size; have h2 := hb5.size; omega)))
  obtain ⟨q, hq⟩ : ∃ q, q = w5.heap.size := ⟨_, rfl⟩
  have HQ := Lib.hid hq
  have HRB6 : Hid (RdB W6 q (.slice ao5 nr5 cap5) (.int .i64 (d5 : Int))) := Lib.hid (by rw [hq]; exact hr6)
  have HPQ : Hid (p < q) := Lib.hid (by rw [hq]; exact HPS.out)
  obtain ⟨W7, hW7⟩ : ∃ W, W = W6.setCell ⟨p, 0, none⟩ (.int .i64 (e : Int)) := ⟨_, rfl⟩
  have HX7 : Hid (SdB W7 p (.int .i64 (e : Int)) (.slice none 0 0)) := Lib.hid (by rw [hW7]; exact HX6.out.put0 _)
  have HRB7 : Hid (RdB W7 q (.slice ao5 nr5 cap5) (.int .i64 (d5 : Int))) := Lib.hid (by rw [hW7]; exact HRB6.out.other (by have := HPQ.out; omega) _ _)
  have HB7 : Hid (Below W2.heap.size W2 W7) := Lib.hid (by rw [hW7]; exact HB6.out.setCell HPG.out _)
  have HRU7 : Hid (RdU W7 W2.heap.size (.slice ao5 nr5 cap5) r5) := Lib.hid (by rw [hW7]; exact HRU6.out.below ((Below.refl _ _).setCell HPG.out _))
  have htr := rtrun_any W2.heap.size ao5 cap5 r5 d5 W7 HB7.out.size (by rw [← hnr5]; exact HRU7.out) H85.out
  rw [← hnr5] at htr
  have HTR := Lib.hid htr
  have HW6 := Lib.hid hW6
  have HW7 := Lib.hid hW7
  obtain ⟨x0, x1, gx0, gx1⟩ := HX6.out.x
  obtain ⟨y0, y1, gy0, gy1⟩ := blk2 HRB6.out
  obtain ⟨k0, k1, _, _⟩ := blk2 HRB7.out
  rw [hW7, hW6] at k0 k1
  rw [hW6] at x0 x1 gx0 gx1 y0 y1 gy0 gy1
  rw [hq] at y0 y1 gy0 gy1 k0 k1
  clear hn5 hru5 hb5 he hd5 hnr5 hb6 hr6 hb46 hq hW6 hW7 htr
  go_wp2_with fail
  rw [← HQ.out, ← HW6.out, ← HW7.out]
  clear x0 x1 gx0 gx1 y0 y1 gy0 gy1 k0 k1
  refine HTR.out.mono ?_
  rintro r w8 ⟨ov, run, ao8, n8, cap8, c8, fin8, rfl, ht8, ho8, hr8, hb8⟩
  have hod := ho8.toD
  obtain ⟨ics, hics⟩ : ∃ ics, ics = run.map toIC := ⟨_, rfl⟩
  rw [← hics] at hod
  obtain ⟨aov, capv, rfl⟩ := hod.form
  obtain ⟨nv, hnv⟩ : ∃ n, n = ics.length := ⟨_, rfl⟩
  rw [← hnv] at hod ⊢
  have HT8 := Lib.hid ht8
  have HIC := Lib.hid hics
  have HEC : Hid (endC n8 c8 = endC fin8.length c8) := Lib.hid (by
    by_cases h0 : c8 = 0
    · rw [(hr8 h0).1]
    · unfold endC; rw [if_pos h0, if_pos h0])
  have HX8 := Lib.hid (HX7.out.old hb8)
  have HRB8 := Lib.hid (HRB7.out.old hb8)
  have HB8 : Hid (Below W2.heap.size W2 w8) := Lib.hid (HB7.out.trans (hb8.mono HB7.out.size))
  obtain ⟨W9, hW9⟩ : ∃ W, W = ((w8.setCell ⟨p, 1, none⟩ (.slice aov nv capv)).setCell ⟨q, 0, none⟩ (.slice ao8 n8 cap8)).setCell ⟨q, 1, none⟩ (.int .i64 (c8 : Int)) := ⟨_, rfl⟩
  have HX9 : Hid (SdB W9 p (.int .i64 (e : Int)) (.slice aov nv capv)) := Lib.hid (by rw [hW9]; exact ((HX8.out.put1 _).other (by have := HPQ.out; omega) _ _).other (by have := HPQ.out; omega) _ _)
  have HRB9 : Hid (RdB W9 q (.slice ao8 n8 cap8) (.int .i64 (c8 : Int))) := Lib.hid (by rw [hW9]; exact (HRB8.out.other (by have := HPQ.out; omega) _ _).set _ _)
  have HQG : Hid (W2.heap.size ≤ q) := Lib.hid (by have h1 := HPG.out; have h2 := HPQ.out; omega)
  have HB9 : Hid (Below W2.heap.size W2 W9) := Lib.hid (by rw [hW9]; exact ((HB8.out.setCell HPG.out _).setCell HQG.out _).setCell HQG.out _)
  have HQ7 : Hid (p < W7.heap.size ∧ q < W7.heap.size) := Lib.hid ⟨HX7.out.lt, HRB7.out.lt⟩
  have HM9 : Hid (OwnsD W9 W7.heap.size (.slice aov nv capv) ics) := Lib.hid (by
    have hne : ∀ u : Nat, u < W7.heap.size → (Value.slice aov nv capv).ownBlock = none ∨ (Value.slice aov nv capv).ownBlock ≠ some u := fun u hu => by
      cases hv : (Value.slice aov nv capv).ownBlock with
      | none => exact .inl rfl
      | some j => exact .inr fun he => by have := (hod.lt j hv).1; cases he; omega
    rw [hW9]
    exact ((hod.grown (grown_set _ _ _ _) (hne _ HQ7.out.1)).grown (grown_set _ _ _ _) (hne _ HQ7.out.2)).grown (grown_set _ _ _ _) (hne _ HQ7.out.2))
  have HEND := Lib.hid (rend_any ao8 n8 cap8 c8 W9)
  rw [HEC.out] at HEND
  obtain ⟨c9, hc9⟩ : ∃ c9, c9 = endC fin8.length c8 := ⟨_, rfl⟩
  rw [← hc9] at HEND
  have HC9 := Lib.hid hc9
  have HW9 := Lib.hid hW9
  obtain ⟨x0, x1, gx0, gx1⟩ := HX8.out.x
  have hX8b : SdB (w8.setCell ⟨p, 1, none⟩ (.slice aov nv capv)) p (.int .i64 (e : Int)) (.slice aov nv capv) := HX8.out.put1 _
  have hR8b : RdB (w8.setCell ⟨p, 1, none⟩ (.slice aov nv capv)) q (.slice ao5 nr5 cap5) (.int .i64 (d5 : Int)) := HRB8.out.other (by have := HPQ.out; omega) _ _
  obtain ⟨y0, y1, gy0, gy1⟩ := blk2 hR8b
  obtain ⟨y2, y3, gy2, gy3⟩ := blk2 HRB8.out
  obtain ⟨k0, k1, _, _⟩ := blk2 HRB9.out
  rw [hW9] at k0 k1
  clear ht8 ho8 hr8 hb8 hod hics hnv hc9 hW9 hX8b hR8b
  go_wp2_with fail
  rw [← HW9.out]
  clear x0 x1 gx0 gx1 y0 y1 gy0 gy1 y2 y3 gy2 gy3 k0 k1
  refine HEND.out.mono ?_
  rintro r w10 ⟨rfl, hb10⟩
  have HB10 : Hid (Below W2.heap.size W2 w10) := Lib.hid (HB9.out.trans (hb10.mono HB9.out.size))
  have HX10 := Lib.hid (HX9.out.old hb10)
  have HM10 := Lib.hid (HM9.out.below hb10)
  obtain ⟨x0, x1, _, _⟩ := HX10.out.x
  obtain ⟨z0, z1, f0, f1⟩ := (HX2.out.old HB10.out).x
  have HEF : Hid (e ≤ 1048576) := Lib.hid (by
    rw [HE.out]
    unfold withinR
    split <;> omega)
  clear hb10
  by_cases hz2 : c9 = 0
  rotate_left
  · have tz : ((c9 : Int) != 0) = true := by simp; omega
    have HZ := Lib.hid hz2
    clear hz2
    go_wp2
    refine bodyPost_ret (v := .tuple #[.agg #[.int .i64 0, .slice none 0 0], .int .i64 (c9 : Int)]) (by simp [results, Tryz.results30, go_sem, z0, z1]) rfl ?_
    exact HBAD.out c9 w10 ⟨t, 0, HFT.out, by
      rw [if_neg (by decide)]
      refine ⟨n5, _, c5, run, c8, fin8, HN5.out, by rw [← HD5.out]; exact HT8.out, ?_⟩
      rw [← HC9.out, if_pos HZ.out]
      exact ⟨rfl, rfl, rfl⟩⟩ HB10.out
  have tz : ((c9 : Int) != 0) = false := by simp [hz2]
  have HZ2 : Hid (¬ endC fin8.length c8 ≠ 0) := Lib.hid (by rw [← HC9.out, hz2]; simp)
  have HPC := Lib.hid (rsgcheck_any (e : Int) _ ics w10 _ HM10.out.dc (by have := HEF.out; omega))
  obtain ⟨c10, hc10⟩ : ∃ x, x = sgC (e : Int) ics := ⟨_, rfl⟩
  rw [← hc10] at HPC
  have HC10 := Lib.hid hc10
  clear hz2 hc10 z0 z1 f0 f1
  go_wp2_with fail
  refine HPC.out.mono ?_
  rintro r w11 ⟨rfl, hb11⟩
  have HB11 : Hid (Below W2.heap.size W2 w11) := Lib.hid (HB10.out.trans (hb11.mono HB10.out.size))
  obtain ⟨x0, x1, _, _⟩ := (HX10.out.old hb11).x
  obtain ⟨z0, z1, f0, f1⟩ := (HX2.out.old HB11.out).x
  have HM11 := Lib.hid (HM10.out.below hb11)
  have HSZ : Hid (w.heap.size < W7.heap.size) := Lib.hid (Nat.lt_of_lt_of_le HX2.out.lt HB7.out.size)
  clear hb11
  by_cases hz3 : c10 = 0
  rotate_left
  · have tz3 : ((c10 : Int) != 0) = true := by simp; omega
    have HZ := Lib.hid hz3
    clear hz3
    go_wp2
    refine bodyPost_ret (v := .tuple #[.agg #[.int .i64 0, .slice none 0 0], .int .i64 (c10 : Int)]) (by simp [results, Tryz.results30, go_sem, z0, z1]) rfl ?_
    exact HBAD.out c10 w11 ⟨t, 0, HFT.out, by
      rw [if_neg (by decide)]
      refine ⟨n5, _, c5, run, c8, fin8, HN5.out, by rw [← HD5.out]; exact HT8.out, ?_⟩
      rw [if_neg HZ2.out]
      exact ⟨by rw [HC10.out, HE.out, HIC.out], by rw [if_pos HZ.out]; exact ⟨rfl, rfl⟩⟩⟩ HB11.out
  have tz3 : ((c10 : Int) != 0) = false := by simp [hz3]
  have HZ3 : Hid (sgC (e : Int) ics = 0) := Lib.hid (by rw [← HC10.out, hz3])
  clear hz3
  go_wp2
  refine bodyPost_ret (v := .tuple #[.agg #[.int .i64 (e : Int), .slice aov nv capv], .int .i64 0]) (by simp [results, Tryz.results30, go_sem, z0, z1]) rfl ⟨?_, (e : Int), ics, 0, _, ⟨t, 0, HFT.out, by
      rw [if_neg (by decide)]
      refine ⟨n5, _, c5, run, c8, fin8, HN5.out, by rw [← HD5.out]; exact HT8.out, ?_⟩
      rw [if_neg HZ2.out]
      exact ⟨by rw [← HE.out, ← HIC.out, HZ3.out], by rw [if_neg (by decide)]; exact ⟨by rw [HE.out], HIC.out⟩⟩⟩, rfl, ?_⟩
  · exact ((HB2.out.trans (HB11.out.mono HB2.out.size)).setCell (Nat.le_refl _) _).setCell (Nat.le_refl _) _
  · exact (((HM11.out.set HSZ.out _ _).set HSZ.out _ _).mono (Nat.le_of_lt HSZ.out)).dc

end Go.Proofs.YtpebmmhokigglaaGreatDoor
