/- Package segment: Join. -/
import Derived.Test.YtojndpelilolkaaSgG
import Derived.Test.YtojndpelilolkaaSgC
import Derived.Deep.Cut
import Derived.Deep.CutBlock
namespace Go.Proofs.Ytojndpelilolkaa
open Go.RowKit

/-- Two segments joined: the first address, the cells, an error's number. -/
def sgJ (fa : Int) (a : List IC) (fb : Int) (b : List IC) : Int × List IC × Nat :=
  if sgC fa a ≠ 0 then (0, [], sgC fa a) else if sgC fb b ≠ 0 then (0, [], sgC fb b) else if fb ≠ fa + (a.length : Int) then (0, [], 13) else
    if sgC fa (a ++ b) ≠ 0 then (0, [], sgC fa (a ++ b)) else (fa, a ++ b, 0)
/-- What a call answers that hands back a segment and an error. -/
def SgRes (x : Int × List IC × Nat) (w : World) (e : Ending) (w' : World) : Prop :=
  Below w.heap.size w w' ∧ ∃ v, e = .returned (.tuple #[.agg #[.int .i64 x.1, v], errV x.2.2]) ∧ CellsAt w' (fun j => w.heap.size ≤ j) v x.2.1
theorem sgC_short {f : Int} {cs : List IC} (h : sgC f cs = 0) : ∀ c ∈ cs, c.2.length ≤ 100 := fun c hc => by
  have := (chk_zero ((sgC_zero h).2.2.2 c hc)).2.2.1
  omega

/-- Cells that read stay where a box apart is written. -/
theorem sg_keep_set {w : World} {q : Nat} {D : Nat → Prop} {a b v : Value} {cs : List IC} (h : CellsAt w D v cs) (hD : ∀ j, D j → j ≠ q) : CellsAt ((w.setCell ⟨q, 0, none⟩ a).setCell ⟨q, 1, none⟩ b) (fun _ => True) v cs := by
  refine (h.keep ⟨by simp, fun j _ hB => ?_⟩).mono fun _ _ _ => trivial
  rw [heap_setCell_other _ _ _ _ (hD j hB), heap_setCell_other _ _ _ _ (hD j hB)]

set_option maxHeartbeats 4000000 in
set_option maxRecDepth 100000 in
theorem sgjoin_any (fa fb : Int) (v1 v2 : Value) (a b : List IC) (w : World) (A B : Nat → Prop) (h1 : CellsAt w A v1 a) (h2 : CellsAt w B v2 b) :
    Calls Try.prog 21 #[.agg #[.int .i64 fa, v1], .agg #[.int .i64 fb, v2]] w (SgRes (sgJ fa a fb b) w) := by
  obtain ⟨ao1, cap1, rfl, _, _, _⟩ := h1.val
  obtain ⟨ao2, cap2, rfl, _, _, _⟩ := h2.val
  obtain ⟨W1, hW1⟩ : ∃ W1, W1 = ((w.alloc (.cells #[.int .i64 fa, .slice ao1 a.length cap1] 24)).alloc (.cells #[.int .i64 fb, .slice ao2 b.length cap2] 24)).alloc (.cells #[.int .i64 0, .slice none 0 0] 24) := ⟨_, rfl⟩
  have hb1 : Below w.heap.size w W1 := by rw [hW1]; exact (((Below.refl _ _).alloc (Nat.le_refl _) _).alloc (by simp) _).alloc (by simp; omega) _
  have hx1 : SgB W1 w.heap.size (.int .i64 fa) (.slice ao1 a.length cap1) := by rw [hW1]; exact ((sgb_new _ _ _).old ((Below.refl _ _).alloc (Nat.le_refl _) _)).old ((Below.refl _ _).alloc (Nat.le_refl _) _)
  have hy1 : SgB W1 (w.heap.size + 1) (.int .i64 fb) (.slice ao2 b.length cap2) := by
    have := (sgb_new (w.alloc (.cells #[.int .i64 fa, .slice ao1 a.length cap1] 24)) (.int .i64 fb) (.slice ao2 b.length cap2)).old ((Below.refl _ _).alloc (Nat.le_refl _) (.cells #[.int .i64 0, .slice none 0 0] 24))
    rw [hW1]; simpa using this
  have hz1 : SgB W1 (w.heap.size + 1 + 1) (.int .i64 0) (.slice none 0 0) := by
    have := sgb_new ((w.alloc (.cells #[.int .i64 fa, .slice ao1 a.length cap1] 24)).alloc (.cells #[.int .i64 fb, .slice ao2 b.length cap2] 24)) (.int .i64 0) (.slice none 0 0)
    rw [hW1]; simpa using this
  have HX1 := Lib.hid hx1
  have HY1 := Lib.hid hy1
  have HZ1 := Lib.hid hz1
  have HB1 := Lib.hid hb1
  have HR1 := Lib.hid (h1.old hb1)
  have HR2 := Lib.hid (h2.old hb1)
  have HCA := Lib.hid (sgcheck_any fa _ a W1 A (h1.old hb1))
  obtain ⟨n1, hn1⟩ : ∃ n, n = a.length := ⟨_, rfl⟩
  obtain ⟨n2, hn2⟩ : ∃ n, n = b.length := ⟨_, rfl⟩
  rw [← hn1] at HX1 HR1 HCA hW1 ⊢
  rw [← hn2] at HY1 HR2 hW1 ⊢
  have HN1 := Lib.hid hn1
  have HN2 := Lib.hid hn2
  have HW1 := Lib.hid hW1
  obtain ⟨ca, hca⟩ : ∃ c, c = sgC fa a := ⟨_, rfl⟩
  obtain ⟨cb, hcb⟩ : ∃ c, c = sgC fb b := ⟨_, rfl⟩
  rw [← hca] at HCA
  have HCA2 := Lib.hid hca
  have HCB2 := Lib.hid hcb
  have HX : Hid (∀ W, Below W1.heap.size W1 W → (W.cell? ⟨w.heap.size, 0, none⟩ = some (.int .i64 fa) ∧ W.cell? ⟨w.heap.size, 1, none⟩ = some (.slice ao1 n1 cap1)) ∧
      (W.cell? ⟨w.heap.size + 1, 0, none⟩ = some (.int .i64 fb) ∧ W.cell? ⟨w.heap.size + 1, 1, none⟩ = some (.slice ao2 n2 cap2)) ∧
      W.cell? ⟨w.heap.size + 1 + 1, 0, none⟩ = some (.int .i64 0) ∧ W.cell? ⟨w.heap.size + 1 + 1, 1, none⟩ = some (.slice none 0 0) ∧ W.frozen? ⟨w.heap.size + 1 + 1, 0, none⟩ = false ∧ W.frozen? ⟨w.heap.size + 1 + 1, 1, none⟩ = false) := Lib.hid fun W hb => by
    obtain ⟨p0, p1, _, _⟩ := (HX1.out.old hb).x
    obtain ⟨q0, q1, _, _⟩ := (HY1.out.old hb).x
    exact ⟨⟨p0, p1⟩, ⟨q0, q1⟩, (HZ1.out.old hb).x⟩
  have HBAD : Hid (∀ (c : Nat) W, sgJ fa a fb b = (0, [], c) → Below W1.heap.size W1 W → SgRes (sgJ fa a fb b) w (.returned (.tuple #[.agg #[.int .i64 0, .slice none 0 0], errV c])) ((W.setCell ⟨w.heap.size + 1 + 1, 0, none⟩ (.int .i64 0)).setCell ⟨w.heap.size + 1 + 1, 1, none⟩ (.slice none 0 0))) := Lib.hid fun c W he hb => by
    rw [he]
    refine ⟨((HB1.out.trans (hb.mono HB1.out.size)).setCell ?_ _).setCell ?_ _, _, rfl, cells_nil _ _⟩
    · show w.heap.size ≤ w.heap.size + 1 + 1; omega
    · show w.heap.size ≤ w.heap.size + 1 + 1; omega
  clear h1 h2 hb1 hx1 hy1 hz1 hn1 hn2 hW1 hca hcb
  go_enter Try.func21, Try.ntmps21
  go_wp2_with fail
  rw [← HW1.out]
  refine HCA.out.mono ?_
  rintro e w2 ⟨rfl, hb2⟩
  have HB2 := Lib.hid hb2
  obtain ⟨⟨x0, x1⟩, ⟨y0, y1⟩, z0, z1, f0, f1⟩ := HX.out w2 hb2
  have HCB := Lib.hid (sgcheck_any fb _ b w2 B (HR2.out.old hb2))
  rw [← HCB2.out] at HCB
  clear hb2
  by_cases g1 : ca = 0
  rotate_left
  · have HE : Hid (sgJ fa a fb b = (0, [], ca)) := Lib.hid (by unfold sgJ; rw [if_pos (by rw [← HCA2.out]; exact g1), HCA2.out])
    have he := errV_pos g1
    rw [he]
    clear g1
    go_wp2
    refine bodyPost_ret (v := .tuple #[.agg #[.int .i64 0, .slice none 0 0], .iface 70 (.int .i64 (ca : Int))]) (by simp [results, Try.results21, go_sem, z0, z1]) rfl ?_
    have := HBAD.out ca w2 HE.out HB2.out
    rw [he] at this
    exact this
  rw [g1, errV_zero]
  go_wp2_with fail
  refine HCB.out.mono ?_
  rintro e w3 ⟨rfl, hb3⟩
  have HB3 := Lib.hid (HB2.out.trans (hb3.mono HB2.out.size))
  clear hb3 x0 x1 y0 y1 z0 z1 f0 f1
  obtain ⟨⟨x0, x1⟩, ⟨y0, y1⟩, z0, z1, f0, f1⟩ := HX.out w3 HB3.out
  by_cases g2 : cb = 0
  rotate_left
  · have HE : Hid (sgJ fa a fb b = (0, [], cb)) := Lib.hid (by unfold sgJ; rw [if_neg (by rw [← HCA2.out, g1]; decide), if_pos (by rw [← HCB2.out]; exact g2), HCB2.out])
    have he := errV_pos g2
    rw [he]
    clear g2
    go_wp2
    refine bodyPost_ret (v := .tuple #[.agg #[.int .i64 0, .slice none 0 0], .iface 70 (.int .i64 (cb : Int))]) (by simp [results, Try.results21, go_sem, z0, z1]) rfl ?_
    have := HBAD.out cb w3 HE.out HB3.out
    rw [he] at this
    exact this
  have HA0 : Hid (sgC fa a = 0) := Lib.hid (by rw [← HCA2.out, g1])
  have HB0 : Hid (sgC fb b = 0) := Lib.hid (by rw [← HCB2.out, g2])
  obtain ⟨a0, a1, a2, a3⟩ := sgC_zero HA0.out
  obtain ⟨b0, b1, b2, b3⟩ := sgC_zero HB0.out
  rw [← HN1.out] at a1 a2
  rw [← HN2.out] at b1 b2
  have HEN := Lib.hid (fun W => sgend_any fa ao1 n1 cap1 W)
  have hwr : wrap64 (fa + (n1 : Int)) = fa + (n1 : Int) := w64_in (by omega) (by omega)
  rw [hwr] at HEN
  have HLE : Hid (n1 ≤ 64 ∧ n2 ≤ 64) := Lib.hid ⟨a2, b2⟩
  obtain ⟨m, hm⟩ : ∃ m, m = fa + (n1 : Int) := ⟨_, rfl⟩
  rw [← hm] at HEN
  have HM := Lib.hid hm
  rw [g2, errV_zero]
  have HG1 := Lib.hid g1
  have HG2 := Lib.hid g2
  clear g1 g2 a0 a1 a2 a3 b0 b1 b2 b3 hwr hm
  go_upto_region 7 with fail
  go_cut [26] from 22 to 27 (fun c wx => c = .bool (fb != m) ∧ Below W1.heap.size W1 wx)
  case first =>
    go_region_held3 (fun w' => w'.cell? ⟨w.heap.size, 0, none⟩ = some (.int .i64 fa) ∧ w'.cell? ⟨w.heap.size, 1, none⟩ = some (.slice ao1 n1 cap1) ∧ w'.cell? ⟨w.heap.size + 1, 0, none⟩ = some (.int .i64 fb)) (go_keep) (first
      | (go_at_call 13
         refine (HEN.out _).mono ?_
         rintro r wp ⟨rfl, hbp⟩
         have HBP : Hid (Below W1.heap.size W1 wp) := Lib.hid (HB3.out.trans (Below.mono ⟨hbp.os, hbp.tape, hbp.output, hbp.size, hbp.block⟩ HB3.out.size))
         obtain ⟨⟨x0, x1⟩, ⟨y0, y1⟩, z0, z1, f0, f1⟩ := HX.out wp HBP.out
         clear hbp))
    all_goals
      go_wp2
      go_meet
      case rel => exact ⟨rfl, HBP.out⟩
  case rest =>
    obtain ⟨rfl, hbc⟩ := hcut
    have HBC := Lib.hid hbc
    clear hbc x0 x1 y0 y1 z0 z1 f0 f1
    obtain ⟨⟨x0, x1⟩, ⟨y0, y1⟩, z0, z1, f0, f1⟩ := HX.out wc HBC.out
    by_cases g3 : fb = m
    rotate_left
    · have hne : (fb != m) = true := by simp [g3]
      have HE : Hid (sgJ fa a fb b = (0, [], 13)) := Lib.hid (by unfold sgJ; rw [if_neg (by rw [HA0.out]; decide), if_neg (by rw [HB0.out]; decide), if_pos (by rw [← HN1.out, ← HM.out]; exact g3)])
      clear g3
      go_wp2
      refine bodyPost_ret (v := .tuple #[.agg #[.int .i64 0, .slice none 0 0], .iface 70 (.int .i64 13)]) (by simp [results, Try.results21, go_sem, z0, z1]) rfl ?_
      exact HBAD.out 13 wc HE.out HBC.out
    have hne : (fb != m) = false := by simp [g3]
    have HFM : Hid (¬ fb ≠ fa + (a.length : Int)) := Lib.hid (by rw [← HN1.out, ← HM.out]; simp [g3])
    clear g3
    go_upto_region 9 with fail
    go_cut [8] from 22 to 37 (fun c wx => ∃ (q : Nat) (v' : Value), c = .pointer (some ⟨q, 0, none⟩) ∧ SgB wx q (.int .i64 fa) v' ∧ CellsAt wx (fun _ => True) v' (a ++ b) ∧ Below W1.heap.size W1 wx ∧ W1.heap.size ≤ q)
    case first =>
      have HCC : Hid (∀ W, Below W1.heap.size W1 W → ∀ q, W.cell? ⟨q, 0, none⟩ = some (.slice ao1 n1 cap1) → W.cell? ⟨q, 1, none⟩ = some (.slice ao2 n2 cap2) →
          Calls Try.prog 38 #[.slice (some ⟨q, 0, none⟩) 2 2] W fun e w' => ∃ v', e = .returned v' ∧ CellsAt w' (fun j => W.heap.size ≤ j ∨ j < W1.heap.size) v' (a ++ b) ∧ Below W.heap.size W w') := Lib.hid fun W hb q hq0 hq1 => by
        refine (concatS_any (.slice ao1 n1 cap1) (.slice ao2 n2 cap2) a b q W (fun j => j < W1.heap.size) (fun j => j < W1.heap.size) ((HR1.out.mono fun j hj _ => hj).old hb) ((HR2.out.mono fun j hj _ => hj).old hb) hq0 hq1 (by rw [← HN1.out]; exact HLE.out.1) (by rw [← HN2.out]; exact HLE.out.2)).mono ?_
        rintro e w' ⟨v', h1, h2, h3⟩
        exact ⟨v', h1, h2.mono fun j _ h => h.elim .inl fun h => .inr (h.elim id id), h3⟩
      go_region_held3 (fun w' => w'.cell? ⟨w.heap.size, 0, none⟩ = some (.int .i64 fa) ∧ w'.cell? ⟨w.heap.size, 1, none⟩ = some (.slice ao1 n1 cap1) ∧ w'.cell? ⟨w.heap.size + 1, 1, none⟩ = some (.slice ao2 n2 cap2)) (go_keep) (first
        | (go_at_call 38
           have hbW : Below W1.heap.size W1 (wc.alloc (.cells #[.slice ao1 n1 cap1, .slice ao2 n2 cap2] 22)).drew := (HBC.out.alloc HBC.out.size _).drew
           have hq0 : (wc.alloc (.cells #[.slice ao1 n1 cap1, .slice ao2 n2 cap2] 22)).drew.cell? ⟨wc.heap.size, 0, none⟩ = some (.slice ao1 n1 cap1) := by show (wc.alloc _).cell? _ = _; rw [World.cell?_alloc_at _ _ _ _ rfl]; rfl
           have hq1 : (wc.alloc (.cells #[.slice ao1 n1 cap1, .slice ao2 n2 cap2] 22)).drew.cell? ⟨wc.heap.size, 1, none⟩ = some (.slice ao2 n2 cap2) := by show (wc.alloc _).cell? _ = _; rw [World.cell?_alloc_at _ _ _ _ rfl]; rfl
           with_reducible refine (HCC.out (wc.alloc (.cells #[.slice ao1 n1 cap1, .slice ao2 n2 cap2] 22)).drew hbW wc.heap.size hq0 hq1).mono ?_
           clear hq0 hq1
           rintro r wp ⟨vj, rfl, hcj, hbp⟩
           obtain ⟨aoj, capj, hvj, _, _, _⟩ := hcj.val
           obtain ⟨nj, hnj⟩ : ∃ n, n = (a ++ b).length := ⟨_, rfl⟩
           rw [← hnj] at hvj
           subst hvj
           clear hnj
           have HCJ := Lib.hid hcj
           have HBP : Hid (Below W1.heap.size W1 wp) := Lib.hid (hbW.trans (hbp.mono hbW.size))
           obtain ⟨⟨x0, x1⟩, ⟨y0, y1⟩, z0, z1, f0, f1⟩ := HX.out wp HBP.out
           have hbx : Below wp.heap.size wp (wp.alloc (.cells #[.int .i64 fa, .slice aoj nj capj] 24)) := (Below.refl _ _).alloc (Nat.le_refl _) _
           have HBX : Hid (Below W1.heap.size W1 (wp.alloc (.cells #[.int .i64 fa, .slice aoj nj capj] 24))) := Lib.hid (HBP.out.trans (hbx.mono HBP.out.size))
           have HCX := Lib.hid ((HCJ.out.old hbx).mono (C := fun _ => True) fun _ _ _ => trivial)
           have HSX := Lib.hid (sgb_new wp (.int .i64 fa) (.slice aoj nj capj))
           have HQX : Hid (W1.heap.size ≤ wp.heap.size) := Lib.hid HBP.out.size
           clear hbx
           clear hbp hcj hbW)
        | (go_at_call 38
           have hszW : Array.size ((wc.alloc (.cells #[.slice ao1 n1 cap1, .slice ao2 n2 cap2] 22)).alloc (.cells #[.int .i64 0, .slice none 0 0] 24)).drew.heap = wc.heap.size + 1 + 1 := by simp
           have hbW : Below W1.heap.size W1 ((wc.alloc (.cells #[.slice ao1 n1 cap1, .slice ao2 n2 cap2] 22)).alloc (.cells #[.int .i64 0, .slice none 0 0] 24)).drew := ((HBC.out.alloc HBC.out.size _).alloc (by have := HBC.out.size; simp; omega) _).drew
           have hq0 : ((wc.alloc (.cells #[.slice ao1 n1 cap1, .slice ao2 n2 cap2] 22)).alloc (.cells #[.int .i64 0, .slice none 0 0] 24)).drew.cell? ⟨wc.heap.size, 0, none⟩ = some (.slice ao1 n1 cap1) := (((Below.refl _ _).alloc (Nat.le_refl _) _ : Below (wc.alloc (.cells #[.slice ao1 n1 cap1, .slice ao2 n2 cap2] 22)).heap.size (wc.alloc (.cells #[.slice ao1 n1 cap1, .slice ao2 n2 cap2] 22)) _).cell (p := ⟨wc.heap.size, 0, none⟩) (by simp)).trans (by rw [World.cell?_alloc_at _ _ _ _ rfl]; rfl)
           have hq1 : ((wc.alloc (.cells #[.slice ao1 n1 cap1, .slice ao2 n2 cap2] 22)).alloc (.cells #[.int .i64 0, .slice none 0 0] 24)).drew.cell? ⟨wc.heap.size, 1, none⟩ = some (.slice ao2 n2 cap2) := (((Below.refl _ _).alloc (Nat.le_refl _) _ : Below (wc.alloc (.cells #[.slice ao1 n1 cap1, .slice ao2 n2 cap2] 22)).heap.size (wc.alloc (.cells #[.slice ao1 n1 cap1, .slice ao2 n2 cap2] 22)) _).cell (p := ⟨wc.heap.size, 1, none⟩) (by simp)).trans (by rw [World.cell?_alloc_at _ _ _ _ rfl]; rfl)
           with_reducible refine (HCC.out ((wc.alloc (.cells #[.slice ao1 n1 cap1, .slice ao2 n2 cap2] 22)).alloc (.cells #[.int .i64 0, .slice none 0 0] 24)).drew hbW wc.heap.size hq0 hq1).mono ?_
           clear hq0 hq1
           rintro r wp ⟨vj, rfl, hcj, hbp⟩
           obtain ⟨aoj, capj, hvj, _, _, _⟩ := hcj.val
           obtain ⟨nj, hnj⟩ : ∃ n, n = (a ++ b).length := ⟨_, rfl⟩
           rw [← hnj] at hvj
           subst hvj
           clear hnj
           have HCJ := Lib.hid hcj
           have HBP : Hid (Below W1.heap.size W1 wp) := Lib.hid (hbW.trans (hbp.mono hbW.size))
           obtain ⟨⟨x0, x1⟩, ⟨y0, y1⟩, z0, z1, f0, f1⟩ := HX.out wp HBP.out
           have hbx : SgB wp (wc.heap.size + 1) (.int .i64 0) (.slice none 0 0) := SgB.old (w := ((wc.alloc (.cells #[.slice ao1 n1 cap1, .slice ao2 n2 cap2] 22)).alloc (.cells #[.int .i64 0, .slice none 0 0] 24)).drew) (by have h := sgb_new (wc.alloc (.cells #[.slice ao1 n1 cap1, .slice ao2 n2 cap2] 22)) (.int .i64 0) (.slice none 0 0); rw [show (wc.alloc (.cells #[.slice ao1 n1 cap1, .slice ao2 n2 cap2] 22)).heap.size = wc.heap.size + 1 by simp] at h; exact h) hbp
           obtain ⟨u0, u1, g0, g1⟩ := hbx.x
           have HQX : Hid (W1.heap.size ≤ wc.heap.size + 1) := Lib.hid (by have := HBC.out.size; omega)
           have HBX : Hid (Below W1.heap.size W1 ((wp.setCell ⟨wc.heap.size + 1, 0, none⟩ (.int .i64 fa)).setCell ⟨wc.heap.size + 1, 1, none⟩ (.slice aoj nj capj))) := Lib.hid ((HBP.out.setCell HQX.out _).setCell HQX.out _)
           have HCX : Hid (CellsAt ((wp.setCell ⟨wc.heap.size + 1, 0, none⟩ (.int .i64 fa)).setCell ⟨wc.heap.size + 1, 1, none⟩ (.slice aoj nj capj)) (fun _ => True) (.slice aoj nj capj) (a ++ b)) := Lib.hid (sg_keep_set HCJ.out fun j hj => by have := HQX.out; have := hszW; rcases hj with hj | hj <;> omega)
           have HSX := Lib.hid (hbx.set (.int .i64 fa) (.slice aoj nj capj))
           obtain ⟨⟨k0, k1⟩, ⟨k2, k3⟩, _⟩ := HX.out _ HBX.out
           clear hbx
           clear hbp hcj hbW)
        | (go_at_call 38
           have hszW : Array.size ((wc.alloc (.cells #[.int .i64 0, .slice none 0 0] 24)).alloc (.cells #[.slice ao1 n1 cap1, .slice ao2 n2 cap2] 22)).drew.heap = wc.heap.size + 1 + 1 := by simp
           have hbW : Below W1.heap.size W1 ((wc.alloc (.cells #[.int .i64 0, .slice none 0 0] 24)).alloc (.cells #[.slice ao1 n1 cap1, .slice ao2 n2 cap2] 22)).drew := ((HBC.out.alloc HBC.out.size _).alloc (by have := HBC.out.size; simp; omega) _).drew
           have hq0 : ((wc.alloc (.cells #[.int .i64 0, .slice none 0 0] 24)).alloc (.cells #[.slice ao1 n1 cap1, .slice ao2 n2 cap2] 22)).drew.cell? ⟨wc.heap.size + 1, 0, none⟩ = some (.slice ao1 n1 cap1) := by have h : ((wc.alloc (.cells #[.int .i64 0, .slice none 0 0] 24)).alloc (.cells #[.slice ao1 n1 cap1, .slice ao2 n2 cap2] 22)).cell? ⟨(wc.alloc (.cells #[.int .i64 0, .slice none 0 0] 24)).heap.size, 0, none⟩ = some (.slice ao1 n1 cap1) := (by rw [World.cell?_alloc_at _ _ _ _ rfl]; rfl); simp
           have hq1 : ((wc.alloc (.cells #[.int .i64 0, .slice none 0 0] 24)).alloc (.cells #[.slice ao1 n1 cap1, .slice ao2 n2 cap2] 22)).drew.cell? ⟨wc.heap.size + 1, 1, none⟩ = some (.slice ao2 n2 cap2) := by have h : ((wc.alloc (.cells #[.int .i64 0, .slice none 0 0] 24)).alloc (.cells #[.slice ao1 n1 cap1, .slice ao2 n2 cap2] 22)).cell? ⟨(wc.alloc (.cells #[.int .i64 0, .slice none 0 0] 24)).heap.size, 1, none⟩ = some (.slice ao2 n2 cap2) := (by rw [World.cell?_alloc_at _ _ _ _ rfl]; rfl); simp
           with_reducible refine (HCC.out ((wc.alloc (.cells #[.int .i64 0, .slice none 0 0] 24)).alloc (.cells #[.slice ao1 n1 cap1, .slice ao2 n2 cap2] 22)).drew hbW (wc.heap.size + 1) hq0 hq1).mono ?_
           clear hq0 hq1
           rintro r wp ⟨vj, rfl, hcj, hbp⟩
           obtain ⟨aoj, capj, hvj, _, _, _⟩ := hcj.val
           obtain ⟨nj, hnj⟩ : ∃ n, n = (a ++ b).length := ⟨_, rfl⟩
           rw [← hnj] at hvj
           subst hvj
           clear hnj
           have HCJ := Lib.hid hcj
           have HBP : Hid (Below W1.heap.size W1 wp) := Lib.hid (hbW.trans (hbp.mono hbW.size))
           obtain ⟨⟨x0, x1⟩, ⟨y0, y1⟩, z0, z1, f0, f1⟩ := HX.out wp HBP.out
           have hbx : SgB wp (wc.heap.size) (.int .i64 0) (.slice none 0 0) := SgB.old (w := ((wc.alloc (.cells #[.int .i64 0, .slice none 0 0] 24)).alloc (.cells #[.slice ao1 n1 cap1, .slice ao2 n2 cap2] 22)).drew) ((sgb_new wc (.int .i64 0) (.slice none 0 0)).old (((Below.refl _ _).alloc (Nat.le_refl _) _).drew)) hbp
           obtain ⟨u0, u1, g0, g1⟩ := hbx.x
           have HQX : Hid (W1.heap.size ≤ wc.heap.size) := Lib.hid (by have := HBC.out.size; omega)
           have HBX : Hid (Below W1.heap.size W1 ((wp.setCell ⟨wc.heap.size, 0, none⟩ (.int .i64 fa)).setCell ⟨wc.heap.size, 1, none⟩ (.slice aoj nj capj))) := Lib.hid ((HBP.out.setCell HQX.out _).setCell HQX.out _)
           have HCX : Hid (CellsAt ((wp.setCell ⟨wc.heap.size, 0, none⟩ (.int .i64 fa)).setCell ⟨wc.heap.size, 1, none⟩ (.slice aoj nj capj)) (fun _ => True) (.slice aoj nj capj) (a ++ b)) := Lib.hid (sg_keep_set HCJ.out fun j hj => by have := HQX.out; have := hszW; rcases hj with hj | hj <;> omega)
           have HSX := Lib.hid (hbx.set (.int .i64 fa) (.slice aoj nj capj))
           obtain ⟨⟨k0, k1⟩, ⟨k2, k3⟩, _⟩ := HX.out _ HBX.out
           clear hbx
           clear hbp hcj hbW))
      all_goals
        go_wp2
        go_meet
        case rel => exact ⟨_, _, rfl, HSX.out, HCX.out, HBX.out, HQX.out⟩
    case rest =>
      obtain ⟨q, vj, rfl, hbq, hcj, hbj, hqq⟩ := hcut
      obtain ⟨aoj, capj, rfl, _, _, _⟩ := hcj.val
      have HCJ := Lib.hid hcj
      have HBJ := Lib.hid hbj
      have HBQ := Lib.hid hbq
      obtain ⟨u0, u1, _, _⟩ := hbq.x
      have HCK := Lib.hid (sgcheck_any fa _ (a ++ b) wc _ hcj)
      obtain ⟨cj, hcj2⟩ : ∃ c, c = sgC fa (a ++ b) := ⟨_, rfl⟩
      rw [← hcj2] at HCK
      have HCJ2 := Lib.hid hcj2
      obtain ⟨nj, hnj⟩ : ∃ n, n = (a ++ b).length := ⟨_, rfl⟩
      rw [← hnj] at u1 HCK HCJ HBQ
      have HNJ := Lib.hid hnj
      clear hbq hcj hbj hcj2 hnj hqq x0 x1 y0 y1 z0 z1 f0 f1
      go_wp2_with fail
      refine HCK.out.mono ?_
      rintro e w5 ⟨rfl, hb5⟩
      have HB5 : Hid (Below W1.heap.size W1 w5) := Lib.hid (HBJ.out.trans (hb5.mono HBJ.out.size))
      have HCJ5 := Lib.hid (HCJ.out.old hb5)
      obtain ⟨v0, v1, _, _⟩ := (HBQ.out.old hb5).x
      obtain ⟨⟨x0, x1⟩, ⟨y0, y1⟩, z0, z1, f0, f1⟩ := HX.out w5 HB5.out
      clear hb5 u0 u1
      by_cases g4 : cj = 0
      rotate_left
      · have HE : Hid (sgJ fa a fb b = (0, [], cj)) := Lib.hid (by
          unfold sgJ; rw [if_neg (by rw [HA0.out]; decide), if_neg (by rw [HB0.out]; decide), if_neg HFM.out, if_pos (by rw [← HCJ2.out]; exact g4), ← HCJ2.out])
        have he := errV_pos g4
        rw [he]
        clear g4
        go_wp2
        refine bodyPost_ret (v := .tuple #[.agg #[.int .i64 0, .slice none 0 0], .iface 70 (.int .i64 (cj : Int))]) (by simp [results, Try.results21, go_sem, z0, z1]) rfl ?_
        have := HBAD.out cj w5 HE.out HB5.out
        rw [he] at this
        exact this
      have HJ0 : Hid (sgC fa (a ++ b) = 0) := Lib.hid (by rw [← HCJ2.out, g4])
      have HE : Hid (sgJ fa a fb b = (fa, a ++ b, 0)) := Lib.hid (by
          unfold sgJ; rw [if_neg (by rw [HA0.out]; decide), if_neg (by rw [HB0.out]; decide), if_neg HFM.out, if_neg (by rw [HJ0.out]; decide)])
      have HCP := Lib.hid (sgcopy_any fa _ (a ++ b) w5 _ HCJ5.out (by have := (sgC_zero HJ0.out).2.2.1; omega) (sgC_short HJ0.out))
      rw [g4, errV_zero]
      clear g4
      go_wp2_with fail
      refine HCP.out.mono ?_
      rintro e w6 ⟨v6, rfl, ho6, hb6⟩
      obtain ⟨ao6, cap6, rfl⟩ := ho6.form
      rw [← HNJ.out] at ho6 ⊢
      have HO6 := Lib.hid ho6
      have HB6 : Hid (Below W1.heap.size W1 w6) := Lib.hid (HB5.out.trans (hb6.mono HB5.out.size))
      have HSZ : Hid (w.heap.size + 1 + 1 < w5.heap.size) := Lib.hid (HZ1.out.old HB5.out).lt
      clear ho6 hb6 x0 x1 y0 y1 z0 z1 f0 f1 v0 v1
      obtain ⟨⟨x0, x1⟩, ⟨y0, y1⟩, z0, z1, f0, f1⟩ := HX.out w6 HB6.out
      go_wp2
      refine bodyPost_ret (v := .tuple #[.agg #[.int .i64 fa, .slice ao6 nj cap6], .nilIface]) (by simp [results, Try.results21, go_sem, z0, z1]) rfl ?_
      rw [HE.out]
      refine ⟨((HB1.out.trans (HB6.out.mono HB1.out.size)).setCell ?_ _).setCell ?_ _, _, rfl, ?_⟩
      · show w.heap.size ≤ w.heap.size + 1 + 1; omega
      · show w.heap.size ≤ w.heap.size + 1 + 1; omega
      · exact (((HO6.out.set HSZ.out _ _).set HSZ.out _ _).mono (by have := HSZ.out; omega)).cells

end Go.Proofs.Ytojndpelilolkaa
