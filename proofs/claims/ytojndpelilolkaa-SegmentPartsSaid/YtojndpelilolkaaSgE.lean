/- Package segment: Put. -/
import Derived.Test.YtojndpelilolkaaSgD
import Derived.Deep.CutBlock
import Derived.Deep.Cut
namespace Go.Proofs.Ytojndpelilolkaa
open Go.RowKit

/-- What Put answers. -/
def SgPutPost (f : Int) (cs : List IC) (w : World) (e : Ending) (w' : World) : Prop :=
  Below w.heap.size w w' ∧ ((sgC f cs = 0 ∧ ∃ v', e = .returned (.tuple #[v', .nilIface]) ∧ Owns w' w.heap.size 5 .u8 v' (fr (sgtext f cs))) ∨
    (sgC f cs ≠ 0 ∧ e = .returned (.tuple #[.slice none 0 0, errV (sgC f cs)])))

set_option maxHeartbeats 2000000 in
set_option maxRecDepth 100000 in
theorem sgput_any (f : Int) (v : Value) (cs : List IC) (w : World) (B : Nat → Prop) (h : CellsAt w B v cs) (h8 : ∀ c ∈ cs, ∀ y ∈ c.2, y < 256) :
    Calls Try.prog 10 #[.agg #[.int .i64 f, v]] w (SgPutPost f cs w) := by
  obtain ⟨ao, cap, rfl, l1, m1, _⟩ := h.val
  obtain ⟨W1, hW1⟩ : ∃ W1, W1 = w.alloc (.cells #[.int .i64 f, .slice ao cs.length cap] 24) := ⟨_, rfl⟩
  have hb1 : Below w.heap.size w W1 := by rw [hW1]; exact (Below.refl _ _).alloc (Nat.le_refl _) _
  have hx1 : SgB W1 w.heap.size (.int .i64 f) (.slice ao cs.length cap) := by rw [hW1]; exact sgb_new _ _ _
  have HC := Lib.hid (sgcheck_any f _ cs W1 B (h.old hb1))
  have HX1 := Lib.hid hx1
  have HB1 := Lib.hid hb1
  have HR := Lib.hid (h.old hb1)
  have H8 := Lib.hid h8
  obtain ⟨n, hn⟩ : ∃ n, n = cs.length := ⟨_, rfl⟩
  rw [← hn] at HX1 HR hW1 HC ⊢
  obtain ⟨z, hz⟩ : ∃ z, z = sgC f cs := ⟨_, rfl⟩
  rw [← hz] at HC
  have HZ := Lib.hid hz
  have HN := Lib.hid hn
  have HW1 := Lib.hid hW1
  clear h hb1 l1 m1 hx1 hn hz hW1 h8
  by_cases g1 : z = 0
  rotate_left
  · have HG := Lib.hid g1
    have HE : Hid (errV z = .iface 70 (.int .i64 (z : Int))) := Lib.hid (errV_pos g1)
    rw [HE.out] at HC
    clear g1
    go_enter Try.func10, Try.ntmps10
    go_wp2_with fail
    rw [← HW1.out]
    refine HC.out.mono ?_
    rintro e w2 ⟨rfl, hb2⟩
    have HB2 : Hid (Below w.heap.size w w2) := Lib.hid (HB1.out.trans (hb2.mono HB1.out.size))
    clear hb2
    go_wp2
    go_ret2
    exact ⟨HB2.out, .inr ⟨by rw [← HZ.out]; exact HG.out, by rw [← HZ.out, HE.out]; rfl⟩⟩
  have HZ0 : Hid (sgC f cs = 0) := Lib.hid (by rw [← HZ.out, g1])
  obtain ⟨hf0, hf1, hcl, hck⟩ := sgC_zero HZ0.out
  obtain ⟨en, rfl⟩ : ∃ en : Nat, f = (en : Int) := ⟨f.toNat, by omega⟩
  have HZU : Hid (U64 en) := Lib.hid (by unfold U64; omega)
  have HCK : Hid (chkRun cs = 0) := Lib.hid (chkRun_good hcl hck)
  have hwr : IntKind.u64.wrap (en : Int) = (en : Int) := IntWalk.u64_in _ (by omega)
  have HTL := Lib.hid (sgtext_len HZ0.out H8.out)
  have HTX : Hid (sgtext (en : Int) cs = enc en ++ rbytes (cs.map toCC)) := Lib.hid (by unfold sgtext; rw [Int.toNat_natCast])
  rw [g1, errV_zero] at HC
  clear g1 hf0 hf1 hcl hck HZ
  go_enter Try.func10, Try.ntmps10
  go_wp2_with fail
  rw [← HW1.out]
  refine HC.out.mono ?_
  rintro e w2 ⟨rfl, hb2⟩
  have HB2 : Hid (Below w.heap.size w w2) := Lib.hid (HB1.out.trans (hb2.mono HB1.out.size))
  have HR2 := Lib.hid (HR.out.old hb2)
  have HX2 := Lib.hid (HX1.out.old hb2)
  have HX : Hid (∀ W, Below w2.heap.size w2 W → W.cell? ⟨w.heap.size, 0, none⟩ = some (.int .i64 (en : Int)) ∧ W.cell? ⟨w.heap.size, 1, none⟩ = some (.slice ao n cap)) := Lib.hid fun W hb => by
    obtain ⟨a, b, _, _⟩ := (HX2.out.old hb).x
    exact ⟨a, b⟩
  have HSELF : Hid (Below w2.heap.size w2 w2) := Lib.hid (Below.refl _ _)
  have HPUT : Hid (Calls Try.prog 29 #[.slice none 0 0, .slice (some ⟨w2.heap.size, 0, none⟩) 1 1] (w2.alloc (.cells #[.int .u64 (en : Int)] 68)).drew fun r w' => ∃ vp, r = .returned vp ∧ Reads w' .u8 vp (enc en) ∧ Below w2.heap.size w2 w') := Lib.hid (by
    have h0 : Below w2.heap.size w2 (w2.alloc (.cells #[.int .u64 (en : Int)] 68)).drew := ((Below.refl _ _).alloc (Nat.le_refl _) _).drew
    refine (put_any _ _ [] [en] _ (reads_none _ _) ((reads_lit w2 .u64 68 en).below ((Below.refl _ _).drew) (Nat.le_refl _)) (by intro x hx; rw [List.mem_singleton.1 hx]; exact HZU.out) (by simp)).mono ?_
    rintro r wp ⟨vp, rfl, hop, hbp⟩
    exact ⟨vp, rfl, by have := hop.reads; simpa [encs] using this, h0.trans (hbp.mono h0.size)⟩)
  obtain ⟨x0, x1⟩ := HX.out w2 HSELF.out
  clear hb2
  go_upto_region 4 with fail
  go_cut [5, 6] from 12 to 29 (fun ov ev wx => ∃ v', ov = v' ∧ ev = .nilIface ∧ Owns wx w2.heap.size 5 .u8 v' (sgtext (en : Int) cs) ∧ Below w2.heap.size w2 wx)
  case first =>
    go_region_held3 (fun w' => w'.cell? ⟨w.heap.size, 0, none⟩ = some (.int .i64 (en : Int)) ∧ w'.cell? ⟨w.heap.size, 1, none⟩ = some (.slice ao n cap)) (go_keep) (first
      | (go_at_call 29
         refine HPUT.out.mono ?_
         rintro r wp ⟨vp, rfl, hrp, hbw⟩
         have HCP := Lib.hid (fun (W : World) (hb : Below wp.heap.size wp W) => putRun_any vp _ (enc en) cs W B (hrp.new hb) ((HR2.out.old hbw).old hb) H8.out (by have := enc_len10 HZU.out; omega))
         obtain ⟨aop, capp, hvp, _, _, _⟩ := hrp.val
         subst hvp
         have HBW := Lib.hid hbw
         obtain ⟨x0, x1⟩ := HX.out wp hbw
         clear hrp hbw)
      | (go_at_call 28
         refine (HCP.out _ ?hbc).mono ?_
         case hbc => first | exact Below.refl _ _ | exact ⟨rfl, rfl, rfl, Nat.le_refl _, fun _ _ => rfl⟩
         rintro r wc2 ⟨v', out, hre, hoc, hout, hbc⟩
         rw [HCK.out, errV_zero] at hre
         rw [HCK.out, if_pos rfl] at hout
         subst hre
         have HOC : Hid (Owns wc2 w2.heap.size 5 .u8 v' (sgtext (en : Int) cs)) := Lib.hid (by rw [HTX.out, ← hout]; exact hoc.mono HBW.out.size)
         have HBC : Hid (Below w2.heap.size w2 wc2) := Lib.hid (HBW.out.trans (hbc.mono HBW.out.size))
         obtain ⟨x0, x1⟩ := HX.out wc2 HBC.out
         clear hoc hout hbc))
    all_goals
      go_wp2
      go_meet
      case rel => exact ⟨v', rfl, rfl, HOC.out, HBC.out⟩
  case rest =>
    obtain ⟨v', rfl, rfl, hov, hbv⟩ := hcut
    obtain ⟨aov, capv, hvv, _, _, _⟩ := hov.reads.val
    subst hvv
    have HFP := Lib.hid (put_good (.slice none 0 0) _ [] (sgtext (en : Int) cs) wc (reads_none _ _) hov.reads HTL.out.2 (by have := HTL.out.1; omega) (by simp))
    have HB3 := Lib.hid (HB2.out.trans (hbv.mono HB2.out.size))
    obtain ⟨nt, hnt⟩ : ∃ m, m = (sgtext (en : Int) cs).length := ⟨_, rfl⟩
    rw [← hnt] at HFP ⊢
    clear hov hbv hnt
    go_wp2_with fail
    refine HFP.out.mono ?_
    rintro e w4 ⟨v4, rfl, ho4, hb4⟩
    have HO4 : Hid (Owns w4 w.heap.size 5 .u8 v4 (fr (sgtext (en : Int) cs))) := Lib.hid ((by simpa using ho4 : Owns w4 wc.heap.size 5 .u8 v4 (fr (sgtext (en : Int) cs))).mono HB3.out.size)
    have HB4 := Lib.hid (HB3.out.trans (hb4.mono HB3.out.size))
    clear ho4 hb4
    go_wp2
    go_ret2
    exact ⟨HB4.out, .inl ⟨HZ0.out, _, rfl, HO4.out⟩⟩

end Go.Proofs.Ytojndpelilolkaa
