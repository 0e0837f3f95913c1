/- SegmentTakes' walk. -/
import Derived.Test.YtojndpelilolkaaGreatSgU
import Derived.Test.YtojndpelilolkaaGreatSgQ
import Derived.Test.YtojndpelilolkaaGreatIsA
import Derived.Deep.RegionHeld3
namespace Go.Proofs.YtojndpelilolkaaGreat
open Go.RowKit

theorem sgSame_selfT (f : Int) (cs : List IC) : sgSame f cs f cs = true := by unfold sgSame; simp
theorem rseg_bytes {b : List Nat} {f : Int} {cs : List IC} {c : Nat} (h8 : ∀ y ∈ b, y < 256) (h : RSeg b f cs c) : ∀ x ∈ cs, ∀ y ∈ x.2, y < 256 := by
  by_cases hc : c = 0
  · subst hc
    exact (h.back h8).2.2
  · rw [(h.bad hc).2]
    simp
theorem rseg_few {b : List Nat} {f : Int} {cs : List IC} {c : Nat} (h8 : ∀ y ∈ b, y < 256) (h : RSeg b f cs c) : cs.length ≤ 64 := by
  by_cases hc : c = 0
  · subst hc
    exact (sgC_zero (h.back h8).2.1).2.2.1
  · rw [(h.bad hc).2]
    simp

set_option maxHeartbeats 8000000 in
set_option maxRecDepth 100000 in
theorem segmentTakes_walk (v : Value) (b : List Nat) (w : World) (hr : Reads w .u8 v b) (h8 : ∀ y ∈ b, y < 256) :
    Calls Tryz.prog 3 #[v] w fun e w' => e = .returned (.bool true) ∧ Below w.heap.size w w' := by
  obtain ⟨ao, cap, hv, _, _, _⟩ := hr.val
  have HR := Lib.hid hr
  have H8 := Lib.hid h8
  obtain ⟨nb, hnb⟩ : ∃ n, n = b.length := ⟨_, rfl⟩
  rw [← hnb] at hv
  subst hv
  have HNB := Lib.hid hnb
  have HA := Lib.hid (alive14_any w)
  clear hr h8 hnb
  go_enter Tryz.func3, Tryz.ntmps3
  go_wp2_with fail
  refine HA.out.mono ?_
  rintro r w1 ⟨rfl, hb1⟩
  have HB1 := Lib.hid hb1
  have HR1 := Lib.hid (HR.out.new hb1)
  clear hb1
  by_cases h3 : (nb : Int) > 6000
  · go_wp2
    go_ret
    exact ⟨rfl, HB1.out⟩
  have HL : Hid (nb ≤ 6000) := Lib.hid (by omega)
  obtain ⟨W2, hW2⟩ : ∃ W2, W2 = w1.alloc (.cells #[] 5) := ⟨_, rfl⟩
  have hb2 : Below w1.heap.size w1 W2 := by rw [hW2]; exact (Below.refl _ _).alloc (Nat.le_refl _) _
  have HO2 : Hid (Owns W2 w1.heap.size 5 .u8 (.slice (some ⟨w1.heap.size, 0, none⟩) 0 0) []) := Lib.hid (by rw [hW2]; exact owns_empty w1 _ _ _ (Nat.le_refl _))
  have HR2 := Lib.hid (HR1.out.new hb2)
  have HB2 := Lib.hid hb2
  have HW2 := Lib.hid hW2
  clear hb2 hW2
  go_wp2_with (at_builtin; rw [← HW2.out]; go_must (refine wpList_app _ rfl _ _ 22 rfl w1.heap.size 5 (.int .u8 0) 1 Tryz.underlying22 Tryz.info5 rfl .u8 _ [] rfl HO2.out _ b rfl HR2.out (by decide) (by have := HL.out; rw [HNB.out] at this; simp; omega) HB2.out.size ?_))
  intro v3 w3 ho3 hg3
  have ho3 : Owns w3 w1.heap.size 5 .u8 v3 b := ho3
  have hb3 : Below w1.heap.size w1 w3 := HB2.out.grown hg3 HB2.out.size fun j hj => (HO2.out.lt j hj).1
  obtain ⟨ao3, cap3, hv3, _, _, _⟩ := ho3.reads.val
  rw [← HNB.out] at hv3
  subst hv3
  have HO3 := Lib.hid ho3.reads
  have HR3 := Lib.hid (HR1.out.new hb3)
  have HB3 : Hid (Below w.heap.size w w3) := Lib.hid (HB1.out.trans (hb3.mono HB1.out.size))
  have HTK := Lib.hid (sgtake_any _ b w3 ho3.reads H8.out (by rw [← HNB.out]; have := HL.out; omega))
  clear ho3 hg3 hb3 h3
  go_wp2_with fail
  refine HTK.out.mono ?_
  rintro r w4 ⟨hb4, f, cs, c, v4, hrs, rfl, hc4⟩
  obtain ⟨ao4, cap4, rfl, _, _, _⟩ := hc4.val
  obtain ⟨n, hn⟩ : ∃ n, n = cs.length := ⟨_, rfl⟩
  rw [← hn] at hc4 ⊢
  obtain ⟨W5, hW5⟩ : ∃ W, W = w4.alloc (.cells #[.int .i64 f, .slice ao4 n cap4] 26) := ⟨_, rfl⟩
  have hb5 : Below w4.heap.size w4 W5 := by rw [hW5]; exact (Below.refl _ _).alloc (Nat.le_refl _) _
  have hx5 : SgB W5 w4.heap.size (.int .i64 f) (.slice ao4 n cap4) := by rw [hW5]; exact sgb_new _ _ _
  have hb35 : Below w3.heap.size w3 W5 := hb4.trans (hb5.mono hb4.size)
  have HB5 : Hid (Below w.heap.size w W5) := Lib.hid (HB3.out.trans (hb35.mono HB3.out.size))
  have HR5 := Lib.hid (HR3.out.new hb35)
  have HO5 := Lib.hid (HO3.out.new hb35)
  have HC5 := Lib.hid (hc4.old hb5)
  have HX5 := Lib.hid hx5
  have HRS := Lib.hid hrs
  have HN := Lib.hid hn
  obtain ⟨qs, hqs⟩ : ∃ q, q = w4.heap.size := ⟨_, rfl⟩
  rw [← hqs] at HX5
  have HQS := Lib.hid hqs
  have HW5 := Lib.hid hW5
  obtain ⟨er, her⟩ : ∃ er, er = errV c := ⟨_, rfl⟩
  rw [← her]
  have HNUM : Hid (∀ W, Calls Tryz.prog 9 #[er] W fun e w' => e = .returned (.int .i64 (c : Int)) ∧ W = w') := Lib.hid fun W => by rw [her]; exact num_any c W
  have HT9 := Lib.hid (rsgtake_any _ b W5 HR5.out H8.out)
  clear hb4 hrs hc4 hb5 hx5 hb35 hqs hW5 her hn
  go_wp2_with fail
  rw [← HW5.out, ← HQS.out]
  refine HT9.out.mono ?_
  rintro r w6 ⟨hb6, f', cs', c', v6, hrs6, rfl, hc6⟩
  obtain ⟨h1, h2, h3⟩ := HRS.out.unique hrs6
  subst h1 h2 h3
  obtain ⟨ao6, cap6, rfl, _, _, _⟩ := hc6.val
  rw [← HN.out] at hc6 ⊢
  obtain ⟨W7, hW7⟩ : ∃ W, W = w6.alloc (.cells #[.int .i64 f, .slice ao6 n cap6] 33) := ⟨_, rfl⟩
  have hb7 : Below w6.heap.size w6 W7 := by rw [hW7]; exact (Below.refl _ _).alloc (Nat.le_refl _) _
  have hx7 : SdB W7 w6.heap.size (.int .i64 f) (.slice ao6 n cap6) := by rw [hW7]; exact sdb_new _ _ _
  have hb57 : Below W5.heap.size W5 W7 := hb6.trans (hb7.mono hb6.size)
  have HB7 : Hid (Below w.heap.size w W7) := Lib.hid (HB5.out.trans (hb57.mono HB5.out.size))
  have HR7 := Lib.hid (HR5.out.new hb57)
  have HO7 := Lib.hid (HO5.out.new hb57)
  have HX7 := Lib.hid (HX5.out.old hb57)
  have HY7 := Lib.hid hx7
  have HC7 := Lib.hid (HC5.out.old hb57)
  have HM7 := Lib.hid (hc6.old hb7)
  obtain ⟨qd, hqd⟩ : ∃ q, q = w6.heap.size := ⟨_, rfl⟩
  rw [← hqd] at HY7
  have HQD := Lib.hid hqd
  have HW7 := Lib.hid hW7
  have H8C := Lib.hid (rseg_bytes H8.out HRS.out)
  have HFEW := Lib.hid (rseg_few H8.out HRS.out)
  have HX : Hid (∀ W, Below W7.heap.size W7 W → (W.cell? ⟨qs, 0, none⟩ = some (.int .i64 f) ∧ W.cell? ⟨qs, 1, none⟩ = some (.slice ao4 n cap4)) ∧ W.cell? ⟨qd, 0, none⟩ = some (.int .i64 f) ∧ W.cell? ⟨qd, 1, none⟩ = some (.slice ao6 n cap6)) := Lib.hid fun W hb => by
    obtain ⟨a0, a1, _, _⟩ := (HX7.out.old hb).x
    obtain ⟨b0, b1, _, _⟩ := (HY7.out.old hb).x
    exact ⟨⟨a0, a1⟩, b0, b1⟩
  have HDOC : Hid (∀ W, Below W7.heap.size W7 W → Calls Tryz.prog 8 #[.agg #[.int .i64 f, .slice ao4 n cap4]] W fun e w' => ∃ (o : Option Addr) (c : Nat), e = .returned (.agg #[.int .i64 f, .slice o n c]) ∧ OwnsD w' W.heap.size (.slice o n c) cs ∧ Below W.heap.size W w') := Lib.hid fun W hb => by
    refine (document14_any f _ cs W _ (HC7.out.old hb) (by have := HFEW.out; omega)).mono ?_
    rintro e w' ⟨v', rfl, ho, hb'⟩
    obtain ⟨o, c, rfl⟩ := ho.form
    rw [← HN.out] at ho ⊢
    exact ⟨o, c, rfl, ho, hb'⟩
  have HSD : Hid (∀ (W : World) (o : Option Addr) (c b' : Nat), Below W7.heap.size W7 W → OwnsD W b' (.slice o n c) cs → Calls Tryz.prog 7 #[.agg #[.int .i64 f, .slice o n c], .agg #[.int .i64 f, .slice ao6 n cap6]] W fun e w' => e = .returned (.bool true) ∧ Below W.heap.size W w') := Lib.hid fun W o c b' hb ho => by
    have := rsgsame_any f f _ _ cs cs W _ _ ho.dc (HM7.out.old hb) H8C.out H8C.out
    rw [sgSame_selfT] at this
    exact this
  have HBY : Hid (∀ W, Below W7.heap.size W7 W → Calls Tryz.prog 10 #[.slice ao3 nb cap3, .slice ao nb cap] W fun e w' => e = .returned (.bool true) ∧ W = w') := Lib.hid fun W hb => by
    have := numBytes_any _ _ b b W (HO7.out.new hb) (HR7.out.new hb) H8.out H8.out
    rw [decide_eq_true rfl] at this
    exact this
  have hcc : ((c : Int) == (c : Int)) = true := by simp
  obtain ⟨⟨x0, x1⟩, y0, y1⟩ := HX.out W7 (Below.refl _ _)
  rw [HW7.out] at x0 x1 y0 y1
  rw [HQD.out] at y0 y1
  clear hb6 hrs6 hc6 hb7 hx7 hb57 hqd hW7
  go_upto_region 8 with fail
  rw [← HW7.out, ← HQD.out]
  clear x0 x1 y0 y1
  obtain ⟨⟨x0, x1⟩, y0, y1⟩ := HX.out W7 (Below.refl _ _)
  have HD : Hid (Below W7.heap.size W7 W7) := Lib.hid (Below.refl _ _)
  go_region_held3 (fun w' => w'.cell? ⟨qs, 0, none⟩ = some (.int .i64 f) ∧ w'.cell? ⟨qs, 1, none⟩ = some (.slice ao4 n cap4) ∧ w'.cell? ⟨qd, 0, none⟩ = some (.int .i64 f) ∧ w'.cell? ⟨qd, 1, none⟩ = some (.slice ao6 n cap6)) (go_keep) (first
    | (go_at_call 9; refine (HNUM.out _).mono ?_; rintro e wx ⟨rfl, rfl⟩)
    | (go_at_call 10; refine (HBY.out _ HD.out).mono ?_; rintro e wx ⟨rfl, rfl⟩)
    | (go_at_call 8
       refine (HDOC.out _ ?hb).mono ?_
       case hb => first | exact HD.out | exact HD.out.drew
       rintro e wx ⟨od, cd, rfl, hod, hbx⟩
       have HD : Hid (Below W7.heap.size W7 wx) := Lib.hid (HD.out.trans (Below.mono ⟨hbx.os, hbx.tape, hbx.output, hbx.size, hbx.block⟩ HD.out.size))
       have HOD := Lib.hid hod
       obtain ⟨⟨x0, x1⟩, y0, y1⟩ := HX.out wx HD.out
       clear hbx hod)
    | (go_at_call 7
       refine (HSD.out _ _ _ _ HD.out HOD.out).mono ?_
       rintro e wx ⟨rfl, hbx⟩
       have HD : Hid (Below W7.heap.size W7 wx) := Lib.hid (HD.out.trans (Below.mono ⟨hbx.os, hbx.tape, hbx.output, hbx.size, hbx.block⟩ HD.out.size))
       obtain ⟨⟨x0, x1⟩, y0, y1⟩ := HX.out wx HD.out
       clear hbx))
  all_goals
    go_wp2
    go_ret
    exact ⟨rfl, HB7.out.trans (HD.out.mono HB7.out.size)⟩

end Go.Proofs.YtojndpelilolkaaGreat
