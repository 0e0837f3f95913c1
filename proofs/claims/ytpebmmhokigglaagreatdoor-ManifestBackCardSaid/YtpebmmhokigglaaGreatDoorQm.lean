/- Package segment: Put. · Package segment: Take. -/
import Derived.Test.YtpebmmhokigglaaGreatDoorQl
import Derived.Deep.CutBlock
import Derived.Deep.Cut
namespace Go.Proofs.YtpebmmhokigglaaGreatDoor
open Go.RowKit

/-- What Put answers. -/
def SgPutPost (f : Int) (cs : List IC) (w : World) (e : Ending) (w' : World) : Prop :=
  Below w.heap.size w w' ∧ ((sgC f cs = 0 ∧ ∃ v', e = .returned (.tuple #[v', .nilIface]) ∧ Owns w' w.heap.size 5 .u8 v' (fr (sgtext f cs))) ∨
    (sgC f cs ≠ 0 ∧ e = .returned (.tuple #[.slice none 0 0, errV (sgC f cs)])))

set_option maxHeartbeats 2000000 in
set_option maxRecDepth 100000 in
theorem sgput_any (f : Int) (v : Value) (cs : List IC) (w : World) (B : Nat → Prop) (h : CellsAt w B v cs) (h8 : ∀ c ∈ cs, ∀ y ∈ c.2, y < 256) :
    Calls Tryz.prog 26 #[.agg #[.int .i64 f, v]] w (SgPutPost f cs w) := by
  obtain ⟨ao, cap, rfl, l1, m1, _⟩ := h.val
  obtain ⟨W1, hW1⟩ : ∃ W1, W1 = w.alloc (.cells #[.int .i64 f, .slice ao cs.length cap] 24) := ⟨_, rfl⟩
  have hb1 : Below w.heap.size w W1 := by rw [hW1]; exact (Below.refl _ _).alloc (Nat.le_refl _) _
  have hx1 : SgB W1 w.heap.size (.int .i64 f) (.slice ao cs.length cap) := by rw [hW1]; exact sgb_new _ _ _
  have HC := Lib.hid (sgcheck_any f _ cs W1 B (h.old hb1))
  have HX1 := Lib.hid hx1
  have HB1 := Lib.hid hb1
  have HR := Lib.hid (h.old hb1)
  have H8 := Lib.hid h8
  obtain ⟨n, hn⟩ : ∃ n, n = cs.length := ⟨_, rfl⟩
  rw [← hn] at HX1 HR hW1 HC ⊢
  obtain ⟨z, hz⟩ : ∃ z, z = sgC f cs := ⟨_, rfl⟩
  rw [← hz] at HC
  have HZ := Lib.hid hz
  have HN := Lib.hid hn
  have HW1 := Lib.hid hW1
  clear h hb1 l1 m1 hx1 hn hz hW1 h8
  by_cases g1 : z = 0
  rotate_left
  · have HG := Lib.hid g1
    have HE : Hid (errV z = .iface 68 (.int .i64 (z : Int))) := Lib.hid (errV_pos g1)
    rw [HE.out] at HC
    clear g1
    go_enter Tryz.func26, Tryz.ntmps26
    go_wp2_with fail
    rw [← HW1.out]
    refine HC.out.mono ?_
    rintro e w2 ⟨rfl, hb2⟩
    have HB2 : Hid (Below w.heap.size w w2) := Lib.hid (HB1.out.trans (hb2.mono HB1.out.size))
    clear hb2
    go_wp2
    go_ret2
    exact ⟨HB2.out, .inr ⟨by rw [← HZ.out]; exact HG.out, by rw [← HZ.out, HE.out]; rfl⟩⟩
  have HZ0 : Hid (sgC f cs = 0) := Lib.hid (by rw [← HZ.out, g1])
  obtain ⟨hf0, hf1, hcl, hck⟩ := sgC_zero HZ0.out
  obtain ⟨en, rfl⟩ : ∃ en : Nat, f = (en : Int) := ⟨f.toNat, by omega⟩
  have HZU : Hid (U64 en) := Lib.hid (by unfold U64; omega)
  have HCK : Hid (chkRun cs = 0) := Lib.hid (chkRun_good hcl hck)
  have hwr : IntKind.u64.wrap (en : Int) = (en : Int) := IntWalk.u64_in _ (by omega)
  have HTL := Lib.hid (sgtext_len HZ0.out H8.out)
  have HTX : Hid (sgtext (en : Int) cs = enc en ++ rbytes (cs.map toCC)) := Lib.hid (by unfold sgtext; rw [Int.toNat_natCast])
  rw [g1, errV_zero] at HC
  clear g1 hf0 hf1 hcl hck HZ
  go_enter Tryz.func26, Tryz.ntmps26
  go_wp2_with fail
  rw [← HW1.out]
  refine HC.out.mono ?_
  rintro e w2 ⟨rfl, hb2⟩
  have HB2 : Hid (Below w.heap.size w w2) := Lib.hid (HB1.out.trans (hb2.mono HB1.out.size))
  have HR2 := Lib.hid (HR.out.old hb2)
  have HX2 := Lib.hid (HX1.out.old hb2)
  have HX : Hid (∀ W, Below w2.heap.size w2 W → W.cell? ⟨w.heap.size, 0, none⟩ = some (.int .i64 (en : Int)) ∧ W.cell? ⟨w.heap.size, 1, none⟩ = some (.slice ao n cap)) := Lib.hid fun W hb => by
    obtain ⟨a, b, _, _⟩ := (HX2.out.old hb).x
    exact ⟨a, b⟩
  have HSELF : Hid (Below w2.heap.size w2 w2) := Lib.hid (Below.refl _ _)
  have HPUT : Hid (Calls Tryz.prog 32 #[.slice none 0 0, .slice (some ⟨w2.heap.size, 0, none⟩) 1 1] (w2.alloc (.cells #[.int .u64 (en : Int)] 84)).drew fun r w' => ∃ vp, r = .returned vp ∧ Reads w' .u8 vp (enc en) ∧ Below w2.heap.size w2 w') := Lib.hid (by
    have h0 : Below w2.heap.size w2 (w2.alloc (.cells #[.int .u64 (en : Int)] 84)).drew := ((Below.refl _ _).alloc (Nat.le_refl _) _).drew
    refine (put_any _ _ [] [en] _ (reads_none _ _) ((reads_lit w2 .u64 84 en).below ((Below.refl _ _).drew) (Nat.le_refl _)) (by intro x hx; rw [List.mem_singleton.1 hx]; exact HZU.out) (by simp)).mono ?_
    rintro r wp ⟨vp, rfl, hop, hbp⟩
    exact ⟨vp, rfl, by have := hop.reads; simpa [encs] using this, h0.trans (hbp.mono h0.size)⟩)
  obtain ⟨x0, x1⟩ := HX.out w2 HSELF.out
  clear hb2
  go_upto_region 4 with fail
  go_cut [5, 6] from 12 to 29 (fun ov ev wx => ∃ v', ov = v' ∧ ev = .nilIface ∧ Owns wx w2.heap.size 5 .u8 v' (sgtext (en : Int) cs) ∧ Below w2.heap.size w2 wx)
  case first =>
    go_region_held3 (fun w' => w'.cell? ⟨w.heap.size, 0, none⟩ = some (.int .i64 (en : Int)) ∧ w'.cell? ⟨w.heap.size, 1, none⟩ = some (.slice ao n cap)) (go_keep) (first
      | (go_at_call 32
         refine HPUT.out.mono ?_
         rintro r wp ⟨vp, rfl, hrp, hbw⟩
         have HCP := Lib.hid (fun (W : World) (hb : Below wp.heap.size wp W) => putRun_any vp _ (enc en) cs W B (hrp.new hb) ((HR2.out.old hbw).old hb) H8.out (by have := enc_len10 HZU.out; omega))
         obtain ⟨aop, capp, hvp, _, _, _⟩ := hrp.val
         subst hvp
         have HBW := Lib.hid hbw
         obtain ⟨x0, x1⟩ := HX.out wp hbw
         clear hrp hbw)
      | (go_at_call 48
         refine (HCP.out _ ?hbc).mono ?_
         case hbc => first | exact Below.refl _ _ | exact ⟨rfl, rfl, rfl, Nat.le_refl _, fun _ _ => rfl⟩
         rintro r wc2 ⟨v', out, hre, hoc, hout, hbc⟩
         rw [HCK.out, errV_zero] at hre
         rw [HCK.out, if_pos rfl] at hout
         subst hre
         have HOC : Hid (Owns wc2 w2.heap.size 5 .u8 v' (sgtext (en : Int) cs)) := Lib.hid (by rw [HTX.out, ← hout]; exact hoc.mono HBW.out.size)
         have HBC : Hid (Below w2.heap.size w2 wc2) := Lib.hid (HBW.out.trans (hbc.mono HBW.out.size))
         obtain ⟨x0, x1⟩ := HX.out wc2 HBC.out
         clear hoc hout hbc))
    all_goals
      go_wp2
      go_meet
      case rel => exact ⟨v', rfl, rfl, HOC.out, HBC.out⟩
  case rest =>
    obtain ⟨v', rfl, rfl, hov, hbv⟩ := hcut
    obtain ⟨aov, capv, hvv, _, _, _⟩ := hov.reads.val
    subst hvv
    have HFP := Lib.hid (put_good (.slice none 0 0) _ [] (sgtext (en : Int) cs) wc (reads_none _ _) hov.reads HTL.out.2 (by have := HTL.out.1; omega) (by simp))
    have HB3 := Lib.hid (HB2.out.trans (hbv.mono HB2.out.size))
    obtain ⟨nt, hnt⟩ : ∃ m, m = (sgtext (en : Int) cs).length := ⟨_, rfl⟩
    rw [← hnt] at HFP ⊢
    clear hov hbv hnt
    go_wp2_with fail
    refine HFP.out.mono ?_
    rintro e w4 ⟨v4, rfl, ho4, hb4⟩
    have HO4 : Hid (Owns w4 w.heap.size 5 .u8 v4 (fr (sgtext (en : Int) cs))) := Lib.hid ((by simpa using ho4 : Owns w4 wc.heap.size 5 .u8 v4 (fr (sgtext (en : Int) cs))).mono HB3.out.size)
    have HB4 := Lib.hid (HB3.out.trans (hb4.mono HB3.out.size))
    clear ho4 hb4
    go_wp2
    go_ret2
    exact ⟨HB4.out, .inl ⟨HZ0.out, _, rfl, HO4.out⟩⟩

end Go.Proofs.YtpebmmhokigglaaGreatDoor

namespace Go.Proofs.YtpebmmhokigglaaGreatDoor
open Go.RowKit

/-- What Take answers. -/
def SgTakePost (b : List Nat) (w : World) (r : Ending) (w' : World) : Prop :=
  Below w.heap.size w w' ∧ ∃ (f : Int) (cs : List IC) (c : Nat) (v : Value), RSeg b f cs c ∧ r = .returned (.tuple #[.agg #[.int .i64 f, v], errV c]) ∧ CellsAt w' (fun j => w.heap.size ≤ j) v cs

theorem sg_num_sub {rest r : List Nat} {c n c' : Nat} (h : NumRel rest c n r c') : (∀ y ∈ r, y ∈ rest) ∧ r.length ≤ rest.length := by
  rcases h with ⟨_, _, rfl, _⟩ | ⟨_, _, rfl, _⟩ | ⟨_, _, rfl, _⟩
  · exact ⟨fun _ h => h, Nat.le_refl _⟩
  · exact ⟨fun y hy => by simp [hy], by simp⟩
  · exact ⟨fun _ h => h, Nat.le_refl _⟩

set_option maxHeartbeats 4000000 in
set_option maxRecDepth 100000 in
theorem sgtake_any (v : Value) (b : List Nat) (w : World) (hr : Reads w .u8 v b) (hb : ∀ y ∈ b, y < 256) (hx : b.length ≤ 80000000000000) :
    Calls Tryz.prog 29 #[v] w (SgTakePost b w) := by
  obtain ⟨ao, cap, rfl, _, _, _⟩ := hr.val
  obtain ⟨W1, hW1⟩ : ∃ W1, W1 = w.alloc (.cells #[.int .i64 0, .slice none 0 0] 24) := ⟨_, rfl⟩
  have hb1 : Below w.heap.size w W1 := by rw [hW1]; exact (Below.refl _ _).alloc (Nat.le_refl _) _
  have hx1 : SgB W1 w.heap.size (.int .i64 0) (.slice none 0 0) := by rw [hW1]; exact sgb_new _ _ _
  have HONE := Lib.hid (frameOne_any _ b W1 (hr.new hb1) hb (by omega))
  have HBB := Lib.hid hb
  have HB1 := Lib.hid hb1
  have HX1 := Lib.hid hx1
  generalize b.length = nb at *
  have HW1 := Lib.hid hW1
  clear hr hb hx hb1 hx1 hW1
  go_enter Tryz.func29, Tryz.ntmps29
  go_wp2_with fail
  rw [← HW1.out]
  refine HONE.out.mono ?_
  rintro r w2 ⟨v2, t, c0, rfl, hfo, hat, hb2⟩
  obtain ⟨ao2, cap2, rfl, _, _, _⟩ := hat.reads.val
  have HFO := Lib.hid hfo
  have HR2 := Lib.hid hat.reads
  have HB2 : Hid (Below W1.heap.size W1 w2) := Lib.hid hb2
  have q2 := HX1.out.old hb2
  have HX2 := Lib.hid q2
  have HT8 := Lib.hid (sg_fo_good HBB.out hfo)
  obtain ⟨nt, hnt⟩ : ∃ n, n = t.length := ⟨_, rfl⟩
  rw [← hnt] at HR2
  rw [← hnt]
  clear hfo hat hb2 hnt
  by_cases hz : c0 = 0
  rotate_left
  · rw [errV_pos hz]
    have HZ := Lib.hid hz
    obtain ⟨d0, d1, f0, f1⟩ := q2.x
    clear hz q2
    go_wp2
    refine bodyPost_ret (v := .tuple #[.agg #[.int .i64 0, .slice none 0 0], .iface 68 (.int .i64 (c0 : Int))]) (by simp [results, Tryz.results29, go_sem, d0, d1]) rfl ⟨?_, 0, [], c0, .slice none 0 0, ⟨t, c0, HFO.out, by rw [if_pos HZ.out]; exact ⟨rfl, rfl, rfl⟩⟩, by rw [errV_pos HZ.out], cells_nil _ _⟩
    exact ((HB1.out.trans (HB2.out.mono HB1.out.size)).setCell (Nat.le_refl _) _).setCell (Nat.le_refl _) _
  have HNEW := Lib.hid (new_any _ t w2 HR2.out (HT8.out hz).1 (by have := (HT8.out hz).2.1; omega))
  have HT88 := Lib.hid (HT8.out hz)
  have HFZ : Hid (FO b t 0) := Lib.hid (by rw [← hz]; exact HFO.out)
  rw [hz, errV_zero]
  clear hz q2
  go_wp2_with fail
  refine HNEW.out.mono ?_
  rintro r w3 ⟨p, rv, rfl, hrd3, hb3, hp3, _⟩
  have HB3 : Hid (Below W1.heap.size W1 w3) := Lib.hid (HB2.out.trans (hb3.mono HB2.out.size))
  have HPW : Hid (W1.heap.size ≤ p) := Lib.hid (Nat.le_trans HB2.out.size hp3)
  have HE := Lib.hid (within_any hrd3 1048576)
  clear hrd3 hb3 hp3
  go_wp2_with fail
  refine HE.out.mono ?_
  rintro r w4 ⟨n1, pl1, c1, rfl, hn1, hrd4, hg4⟩
  have HN1 := Lib.hid hn1
  have HB4 : Hid (Below W1.heap.size W1 w4) := Lib.hid (HB3.out.grown hg4 HB3.out.size fun j hj => by cases hj; exact HPW.out)
  obtain ⟨en, he⟩ : ∃ e, e = withinR n1 1048576 := ⟨_, rfl⟩
  rw [← he]
  obtain ⟨ce, hce⟩ : ∃ c, c = withinC n1 c1 1048576 := ⟨_, rfl⟩
  rw [← hce] at hrd4
  have HEE := Lib.hid he
  have HCE := Lib.hid hce
  obtain ⟨W5, hW5⟩ : ∃ W5, W5 = w4.alloc (.cells #[.int .i64 (en : Int), .slice none 0 0] 24) := ⟨_, rfl⟩
  have hb5 : Below w4.heap.size w4 W5 := by rw [hW5]; exact (Below.refl _ _).alloc (Nat.le_refl _) _
  have hx5 : SgB W5 w4.heap.size (.int .i64 (en : Int)) (.slice none 0 0) := by rw [hW5]; exact sgb_new _ _ _
  have HTR := Lib.hid (takeRun_any (hrd4.below hb5 (Nat.le_refl _)))
  have HB5 : Hid (Below W1.heap.size W1 W5) := Lib.hid (HB4.out.trans (hb5.mono HB4.out.size))
  have HX5 := Lib.hid hx5
  have HPQ : Hid (p < w4.heap.size) := Lib.hid (Array.getElem?_eq_some_iff.1 hrd4.blk).1
  obtain ⟨q, hq⟩ : ∃ q, q = w4.heap.size := ⟨_, rfl⟩
  rw [← hq] at HX5 HPQ
  have HW5 := Lib.hid hW5
  have HSQ : Hid (q < W5.heap.size) := Lib.hid HX5.out.lt
  clear hn1 hrd4 hg4 he hce hb5 hx5 hW5
  go_wp2_with fail
  rw [← hq, ← HW5.out]
  clear hq
  refine HTR.out.mono ?_
  rintro r w6 ⟨v6, run, pl6, c6, fin6, rfl, ht6, hrd6, hf6, hg6, hce6, _⟩
  obtain ⟨ics, hics⟩ : ∃ ics, ics = run.map toIC := ⟨_, rfl⟩
  rw [← hics] at hce6
  obtain ⟨ao6, cap6, rfl, _, _, _⟩ := hce6.val
  have hx6 : SgB w6 q (.int .i64 (en : Int)) (.slice none 0 0) := (hg6.block _ HX5.out.lt (fun e => by have := HPQ.out; cases e; omega)).trans HX5.out
  have HB6 : Hid (Below W1.heap.size W1 w6) := Lib.hid (HB5.out.grown hg6 HB5.out.size fun j hj => by cases hj; exact HPW.out)
  have HT6 := Lib.hid ht6
  have HF6 := Lib.hid hf6
  have HIC := Lib.hid hics
  obtain ⟨n6, hn6⟩ : ∃ n, n = ics.length := ⟨_, rfl⟩
  rw [← hn6] at hce6 ⊢
  have HN6 := Lib.hid hn6
  obtain ⟨W7, hW7⟩ : ∃ W, W = w6.setCell ⟨q, 1, none⟩ (.slice ao6 n6 cap6) := ⟨_, rfl⟩
  have HX7 : Hid (SgB W7 q (.int .i64 (en : Int)) (.slice ao6 n6 cap6)) := Lib.hid (by rw [hW7]; exact hx6.set1 _)
  have HQG : Hid (W1.heap.size ≤ q) := Lib.hid (by have := HPQ.out; have := HPW.out; omega)
  have HB7 : Hid (Below W1.heap.size W1 W7) := Lib.hid (by rw [hW7]; exact HB6.out.setCell HQG.out _)
  have hRD7 : Rd W7 p rv t pl6 c6 := by
    rw [hW7]
    refine hrd6.grown (grown_set w6 q 1 _) (by have := HPQ.out; simp; omega) ?_
    cases hv : rv.ownBlock with
    | none => exact .inl rfl
    | some j =>
      right
      intro he
      cases he
      obtain ⟨c2, h2⟩ := hrd6.own.ty hv
      have := h2.symm.trans hx6
      cases this
  have HCE7 : Hid (CellsAt W7 (fun j => W1.heap.size ≤ j) (.slice ao6 n6 cap6) ics) := Lib.hid (by
    refine (hce6.keep ⟨by rw [hW7]; simp, fun j _ hB => by rw [hW7]; exact heap_setCell_other _ _ _ _ (by have h1 := hB.1; have h2 := HSQ.out; show j ≠ q; omega)⟩).mono ?_
    intro j _ hB
    have h1 := hB.1
    have h2 := HB5.out.size
    show W1.heap.size ≤ j
    omega)
  obtain ⟨x0, x1, y0, y1⟩ := hx6.x
  have HW7 := Lib.hid hW7
  have HEND := Lib.hid (end_any hRD7)
  obtain ⟨c9, hc9⟩ : ∃ c9, c9 = endC fin6.length c6 := ⟨_, rfl⟩
  have HEC : Hid (endC (t.length - pl6) c6 = c9) := Lib.hid (by
    rw [hc9]
    by_cases h0 : c6 = 0
    · have h2 := congrArg List.length (hf6 h0)
      rw [List.length_drop] at h2
      rw [← h2]
    · unfold endC; rw [if_pos h0, if_pos h0])
  rw [HEC.out] at HEND
  have HC9 := Lib.hid hc9
  clear ht6 hrd6 hf6 hg6 hce6 hics hx6 hn6 hW7 hRD7 hc9
  go_wp2_with fail
  rw [← HW7.out]
  clear x0 x1 y0 y1
  refine HEND.out.mono ?_
  rintro r w8 ⟨rfl, nd8, rfl⟩
  have hD8 : Below W7.heap.size W7 (W7.drewN nd8) := ⟨rfl, rfl, rfl, Nat.le_refl _, fun _ _ => rfl⟩
  obtain ⟨W8, hW8⟩ : ∃ W, W = W7.drewN nd8 := ⟨_, rfl⟩
  rw [← hW8] at hD8 ⊢
  have HB8 : Hid (Below W1.heap.size W1 W8) := Lib.hid (HB7.out.trans (hD8.mono HB7.out.size))
  have hx8 := HX7.out.old hD8
  have hr8 := HX1.out.old HB8.out
  have HCE8 := Lib.hid (HCE7.out.old hD8)
  obtain ⟨x0, x1, _, _⟩ := hx8.x
  obtain ⟨d0, d1, f0, f1⟩ := hr8.x
  have HX8 := Lib.hid hx8
  have HBW8 : Hid (Below w.heap.size w W8) := Lib.hid (HB1.out.trans (HB8.out.mono HB1.out.size))
  clear hD8 hW8 hx8 hr8
  by_cases hz2 : c9 = 0
  rotate_left
  · rw [errV_pos hz2]
    have HZ := Lib.hid hz2
    clear hz2
    go_wp2
    refine bodyPost_ret (v := .tuple #[.agg #[.int .i64 0, .slice none 0 0], .iface 68 (.int .i64 (c9 : Int))]) (by simp [results, Tryz.results29, go_sem, d0, d1]) rfl ⟨?_, 0, [], c9, .slice none 0 0, ⟨t, 0, HFZ.out, by
      rw [if_neg (by decide)]
      refine ⟨n1, _, c1, run, c6, fin6, by have := HN1.out; rwa [List.drop_zero] at this, by rw [← HCE.out]; exact HT6.out, ?_⟩
      rw [← HC9.out, if_pos HZ.out]
      exact ⟨rfl, rfl, rfl⟩⟩, by rw [errV_pos HZ.out], cells_nil _ _⟩
    exact (HBW8.out.setCell (Nat.le_refl _) _).setCell (Nat.le_refl _) _
  have HZ2 : Hid (¬ endC fin6.length c6 ≠ 0) := Lib.hid (by rw [← HC9.out, hz2]; simp)
  have HPC := Lib.hid (sgcheck_any (en : Int) _ ics W8 _ HCE8.out)
  obtain ⟨c10, hc10⟩ : ∃ x, x = sgC (en : Int) ics := ⟨_, rfl⟩
  rw [← hc10] at HPC
  have HC10 := Lib.hid hc10
  rw [hz2, errV_zero]
  clear hz2 hc10 d0 d1 f0 f1
  go_wp2_with fail
  refine HPC.out.mono ?_
  rintro r w9 ⟨rfl, hb9⟩
  have hx9 := HX8.out.old hb9
  have hb9' : Below W1.heap.size W1 w9 := HB8.out.trans (hb9.mono HB8.out.size)
  have hr9 := HX1.out.old hb9'
  have HCE9 := Lib.hid (HCE8.out.old hb9)
  obtain ⟨x0, x1, _, _⟩ := hx9.x
  obtain ⟨d0, d1, f0, f1⟩ := hr9.x
  have HBW9 : Hid (Below w.heap.size w w9) := Lib.hid (HB1.out.trans (hb9'.mono HB1.out.size))
  have HQW : Hid (w.heap.size + 1 ≤ W1.heap.size) := Lib.hid HX1.out.lt
  clear hb9 hx9 hb9' hr9
  by_cases hz3 : c10 = 0
  rotate_left
  · rw [errV_pos hz3]
    have HZ := Lib.hid hz3
    clear hz3
    go_wp2
    refine bodyPost_ret (v := .tuple #[.agg #[.int .i64 0, .slice none 0 0], .iface 68 (.int .i64 (c10 : Int))]) (by simp [results, Tryz.results29, go_sem, d0, d1]) rfl ⟨?_, 0, [], c10, .slice none 0 0, ⟨t, 0, HFZ.out, by
      rw [if_neg (by decide)]
      refine ⟨n1, _, c1, run, c6, fin6, by have := HN1.out; rwa [List.drop_zero] at this, by rw [← HCE.out]; exact HT6.out, ?_⟩
      rw [if_neg HZ2.out]
      exact ⟨by rw [HC10.out, HEE.out, HIC.out], by rw [if_pos HZ.out]; exact ⟨rfl, rfl⟩⟩⟩, by rw [errV_pos HZ.out], cells_nil _ _⟩
    exact (HBW9.out.setCell (Nat.le_refl _) _).setCell (Nat.le_refl _) _
  have HZ3 : Hid (sgC (en : Int) ics = 0) := Lib.hid (by rw [← HC10.out, hz3])
  rw [hz3, errV_zero]
  clear hz3
  go_wp2
  refine bodyPost_ret (v := .tuple #[.agg #[.int .i64 (en : Int), .slice ao6 n6 cap6], .nilIface]) (by simp [results, Tryz.results29, go_sem, d0, d1]) rfl ⟨?_, (en : Int), ics, 0, _, ⟨t, 0, HFZ.out, by
      rw [if_neg (by decide)]
      refine ⟨n1, _, c1, run, c6, fin6, by have := HN1.out; rwa [List.drop_zero] at this, by rw [← HCE.out]; exact HT6.out, ?_⟩
      rw [if_neg HZ2.out]
      exact ⟨by rw [← HEE.out, ← HIC.out, HZ3.out], by rw [if_neg (by decide)]; exact ⟨by rw [HEE.out], HIC.out⟩⟩⟩, rfl, ?_⟩
  · exact (HBW9.out.setCell (Nat.le_refl _) _).setCell (Nat.le_refl _) _
  · refine (HCE9.out.keep ⟨by simp, fun j hj hB => ?_⟩).mono fun j _ hB => ?_
    · have hne : j ≠ w.heap.size := by have h1 := HQW.out; have h2 : W1.heap.size ≤ j := hB; omega
      rw [heap_setCell_other _ _ _ _ hne, heap_setCell_other _ _ _ _ hne]
    · have h1 := HQW.out
      have h2 : W1.heap.size ≤ j := hB
      show w.heap.size ≤ j
      omega

end Go.Proofs.YtpebmmhokigglaaGreatDoor
