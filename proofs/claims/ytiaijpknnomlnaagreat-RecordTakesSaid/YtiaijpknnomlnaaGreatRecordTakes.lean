/- RecordTakes, walked. -/
import Derived.Test.YtiaijpknnomlnaaGreatRzP
import Derived.Test.YtiaijpknnomlnaaGreatRcC
import Derived.Test.YtiaijpknnomlnaaGreatIsA
import Derived.Deep.CutBlock
import Derived.Deep.RegionHeld3
namespace Go.Proofs.YtiaijpknnomlnaaGreat
open Go.RowKit

set_option maxRecDepth 100000 in
theorem neq_act9 (k e a : Int) (s : ByteArray) (w : World) :
    (binOp .neq 31 (.agg #[.int .i64 k, .int .i64 e, .int .i64 a, .string s]) (.agg #[.int .i64 k, .int .i64 e, .int .i64 a, .string s])).run Tryz.prog w = .ok (.bool false) w := by
  have ht : Tryz.prog.underlying 31 = some (.struct (Tryz.prog.fieldsOf 31)) := by kernel_rfl
  have hp : Tryz.prog.stoodInHeld 31 = false := by kernel_rfl
  have h1 : Tryz.prog.underlying 3 = some (.int .i64) := Tryz.underlying3
  have h2 : Tryz.prog.underlying 9 = some .string := Tryz.underlying9
  obtain ⟨L, hL⟩ : ∃ L, L = (Tryz.prog.fieldsOf 31).toList := ⟨_, rfl⟩
  have hm : (L.map fun f => (f.name == "_", f.type, f.offset)) = [(false, 3, 0), (false, 3, 1), (false, 3, 2), (false, 9, 3)] := by rw [hL]; kernel_rfl
  obtain ⟨f0, f1, f2, f3, hf, ⟨n0, hf0, g0⟩, ⟨n1, hf1, g1⟩, ⟨n2, hf2, g2⟩, n3, hf3, g3⟩ : ∃ f0 f1 f2 f3, L = [f0, f1, f2, f3] ∧ ((f0.name == "_") = false ∧ f0.type = 3 ∧ f0.offset = 0) ∧ ((f1.name == "_") = false ∧ f1.type = 3 ∧ f1.offset = 1) ∧ ((f2.name == "_") = false ∧ f2.type = 3 ∧ f2.offset = 2) ∧ (f3.name == "_") = false ∧ f3.type = 9 ∧ f3.offset = 3 := by
    have hlen := congrArg List.length hm
    rcases L with _ | ⟨f0, _ | ⟨f1, _ | ⟨f2, _ | ⟨f3, _ | ⟨f4, r⟩⟩⟩⟩⟩
    · simp at hlen
    · simp at hlen
    · simp at hlen
    · simp at hlen
    · simp only [List.map_cons, List.map_nil, List.cons.injEq, Prod.mk.injEq, and_true] at hm
      exact ⟨f0, f1, f2, f3, rfl, ⟨hm.1.1, hm.1.2.1, hm.1.2.2⟩, ⟨hm.2.1.1, hm.2.1.2.1, hm.2.1.2.2⟩, ⟨hm.2.2.1.1, hm.2.2.1.2.1, hm.2.2.1.2.2⟩, hm.2.2.2.1, hm.2.2.2.2.1, hm.2.2.2.2.2⟩
    · simp at hlen
  rw [hL] at hf
  clear hm hL
  have hn0 : ¬ f0.name = "_" := beq_eq_false_iff_ne.1 n0
  have hn1 : ¬ f1.name = "_" := beq_eq_false_iff_ne.1 n1
  have hn2 : ¬ f2.name = "_" := beq_eq_false_iff_ne.1 n2
  have hn3 : ¬ f3.name = "_" := beq_eq_false_iff_ne.1 n3
  clear n0 n1 n2 n3
  rw [run_neq_struct, run_equalIn_agg _ _ _ _ _ ht hp, hf]
  go_simp

theorem docU_doc {w : World} {B : Nat → Prop} {lv : Value} {U : US} (h : DocU w B lv U) : ∃ ao cap, lv = .slice ao U.cells.length cap := h.val

set_option maxHeartbeats 8000000 in
set_option maxRecDepth 100000 in
theorem recordTakes_walk (v : Value) (b : List Nat) (w : World) (hr : Reads w .u8 v b) (h8 : ∀ y ∈ b, y < 256) :
    Calls Tryz.prog 3 #[v] w fun e w' => e = .returned (.bool true) ∧ Below w.heap.size w w' := by
  obtain ⟨ao, cap, rfl, _, _, _⟩ := hr.val
  have HR := Lib.hid hr
  have H8 := Lib.hid h8
  obtain ⟨nb, hnb⟩ : ∃ n, n = b.length := ⟨_, rfl⟩
  rw [← hnb] at HR ⊢
  have HNB := Lib.hid hnb
  clear hr h8 hnb
  go_enter Tryz.func3, Tryz.ntmps3
  go_wp2_with fail
  refine (alive9_any w).mono ?_
  rintro r w1 ⟨rfl, hb1⟩
  have HB1 := Lib.hid hb1
  have HR1 := Lib.hid (HR.out.new hb1)
  clear hb1
  by_cases h3 : (3000 : Int) < (nb : Int)
  · go_wp2
    go_ret
    exact ⟨rfl, HB1.out⟩
  have HL : Hid (nb ≤ 3000) := Lib.hid (by omega)
  obtain ⟨W2, hW2⟩ : ∃ W2, W2 = w1.alloc (.cells #[] 5) := ⟨_, rfl⟩
  have hb2 : Below w1.heap.size w1 W2 := by rw [hW2]; exact (Below.refl _ _).alloc (Nat.le_refl _) _
  have HO2 : Hid (Owns W2 w1.heap.size 5 .u8 (.slice (some ⟨w1.heap.size, 0, none⟩) 0 0) []) := Lib.hid (by rw [hW2]; exact owns_empty w1 _ _ _ (Nat.le_refl _))
  have HR2 := Lib.hid (HR1.out.new hb2)
  have HB2 := Lib.hid hb2
  have HW2 := Lib.hid hW2
  clear hb2 hW2
  go_wp2_with (at_builtin; rw [← HW2.out]; go_must (refine wpList_app _ rfl _ _ 22 rfl w1.heap.size 5 (.int .u8 0) 1 Tryz.underlying22 Tryz.info5 rfl .u8 _ [] rfl HO2.out _ b rfl HR2.out (by decide) (by have := HL.out; rw [HNB.out] at this; simp; omega) HB2.out.size ?_))
  intro v3 w3 ho3 hg3
  have ho3 : Owns w3 w1.heap.size 5 .u8 v3 b := ho3
  have hb3 : Below w1.heap.size w1 w3 := HB2.out.grown hg3 HB2.out.size fun j hj => (HO2.out.lt j hj).1
  obtain ⟨ao3, cap3, rfl, _, _, _⟩ := ho3.reads.val
  rw [← HNB.out] at ho3 ⊢
  have HO3 := Lib.hid ho3.reads
  have HR3 := Lib.hid (HR1.out.new hb3)
  have HB3 : Hid (Below w.heap.size w w3) := Lib.hid (HB1.out.trans (hb3.mono HB1.out.size))
  have HNL : Hid (b.length ≤ 3000) := Lib.hid (by rw [← HNB.out]; exact HL.out)
  clear ho3 hg3 hb3 h3
  have HTK := Lib.hid (rtake_any _ b w3 HO3.out H8.out (Nat.le_trans HNL.out (by decide)))
  go_wp2_with fail
  refine HTK.out.mono ?_
  rintro r w4 ⟨k, e, a, v4, d, c, rfl, htake, ho4, hb4⟩
  obtain ⟨ao4, cap4, rfl, _, _, _⟩ := ho4.reads.val
  obtain ⟨nd, hnd⟩ : ∃ n, n = d.length := ⟨_, rfl⟩
  rw [← hnd] at ho4 ⊢
  obtain ⟨W5, hW5⟩ : ∃ W, W = w4.alloc (.cells #[.int .i64 (k : Int), .int .i64 (e : Int), .int .i64 (a : Int), .slice ao4 nd cap4] 25) := ⟨_, rfl⟩
  have hb5 : Below w4.heap.size w4 W5 := by rw [hW5]; exact (Below.refl _ _).alloc (Nat.le_refl _) _
  have hx5 : W5.heap[w4.heap.size]? = some (.cells #[.int .i64 (k : Int), .int .i64 (e : Int), .int .i64 (a : Int), .slice ao4 nd cap4] 25 (0, 0)) := by rw [hW5]; exact heap_alloc_new _ _
  have HX5 := Lib.hid hx5
  have hb35 : Below w3.heap.size w3 W5 := hb4.trans (hb5.mono hb4.size)
  have HB5 : Hid (Below w.heap.size w W5) := Lib.hid (HB3.out.trans (hb35.mono HB3.out.size))
  have HR5 := Lib.hid (HR3.out.new hb35)
  have HO5 := Lib.hid (HO3.out.new hb35)
  have HD5 := Lib.hid (ho4.reads.new hb5)
  have HTAKE := Lib.hid htake
  obtain ⟨q, hq⟩ : ∃ q, q = w4.heap.size := ⟨_, rfl⟩
  rw [← hq] at HX5
  have HQ := Lib.hid hq
  have HW5 := Lib.hid hW5
  obtain ⟨er, her⟩ : ∃ er, er = errV c := ⟨_, rfl⟩
  rw [← her]
  have HER := Lib.hid her
  have HND := Lib.hid hnd
  clear htake ho4 hb4 hnd hW5 hb5 hx5 hb35 hq her
  have HT9 := Lib.hid (rtake9_any _ b W5 HR5.out H8.out)
  go_wp2_with fail
  rw [← HW5.out, ← HQ.out]
  refine HT9.out.mono ?_
  rintro r w6 ⟨k', e', a', d', c', rfl, htake, hb6⟩
  obtain ⟨h1, h2, h3, h4, h5⟩ := HTAKE.out.unique htake
  subst h1 h2 h3 h4 h5
  clear htake
  obtain ⟨s, hs⟩ : ∃ s, s = S8 d := ⟨_, rfl⟩
  rw [← hs]
  have HS := Lib.hid hs
  obtain ⟨W7, hW7⟩ : ∃ W, W = w6.alloc (.cells #[.int .i64 (k : Int), .int .i64 (e : Int), .int .i64 (a : Int), .string s] 31) := ⟨_, rfl⟩
  have hb7 : Below w6.heap.size w6 W7 := by rw [hW7]; exact (Below.refl _ _).alloc (Nat.le_refl _) _
  have hx7 : W7.heap[w6.heap.size]? = some (.cells #[.int .i64 (k : Int), .int .i64 (e : Int), .int .i64 (a : Int), .string s] 31 (0, 0)) := by rw [hW7]; exact heap_alloc_new _ _
  have hb57 : Below W5.heap.size W5 W7 := hb6.trans (hb7.mono hb6.size)
  have hy7 := (hb57.block _ (Array.getElem?_eq_some_iff.1 HX5.out).1).trans HX5.out
  obtain ⟨p, hp⟩ : ∃ q, q = w6.heap.size := ⟨_, rfl⟩
  rw [← hp] at hx7
  have HP := Lib.hid hp
  have HW7 := Lib.hid hW7
  have HB7 : Hid (Below w.heap.size w W7) := Lib.hid (HB5.out.trans (hb57.mono HB5.out.size))
  have HR7 := Lib.hid (HR5.out.new hb57)
  have HO7 := Lib.hid (HO5.out.new hb57)
  have HX : Hid (∀ W, Below W7.heap.size W7 W → (W.cell? ⟨q, 0, none⟩ = some (.int .i64 (k : Int)) ∧ W.cell? ⟨q, 1, none⟩ = some (.int .i64 (e : Int)) ∧ W.cell? ⟨q, 2, none⟩ = some (.int .i64 (a : Int)) ∧ W.cell? ⟨q, 3, none⟩ = some (.slice ao4 nd cap4)) ∧
      W.cell? ⟨p, 0, none⟩ = some (.int .i64 (k : Int)) ∧ W.cell? ⟨p, 1, none⟩ = some (.int .i64 (e : Int)) ∧ W.cell? ⟨p, 2, none⟩ = some (.int .i64 (a : Int)) ∧ W.cell? ⟨p, 3, none⟩ = some (.string s)) := Lib.hid fun W hb => by
    obtain ⟨x0, x1, x2, x3, _⟩ := four_cells9 ((hb.block _ (Array.getElem?_eq_some_iff.1 hy7).1).trans hy7)
    obtain ⟨y0, y1, y2, y3, _⟩ := four_cells9 ((hb.block _ (Array.getElem?_eq_some_iff.1 hx7).1).trans hx7)
    exact ⟨⟨x0, x1, x2, x3⟩, y0, y1, y2, y3⟩
  have HDOC : Hid (∀ W, Below W7.heap.size W7 W → Calls Tryz.prog 9 #[.agg #[.int .i64 (k : Int), .int .i64 (e : Int), .int .i64 (a : Int), .slice ao4 nd cap4]] W fun r w' => r = .returned (.agg #[.int .i64 (k : Int), .int .i64 (e : Int), .int .i64 (a : Int), .string s]) ∧ Below W.heap.size W w') := Lib.hid fun W hb => by
    rw [HS.out]
    exact rdoc_any (k : Int) (e : Int) (a : Int) _ d W ((HD5.out.new hb57).new hb)
  have HNUM : Hid (∀ W, Calls Tryz.prog 10 #[er] W fun e w' => e = .returned (.int .i64 (c : Int)) ∧ W = w') := Lib.hid fun W => by rw [HER.out]; exact num_any c W
  have HNEQ := fun W => neq_act9 (k : Int) (e : Int) (a : Int) s W
  have hcc : ((c : Int) != (c : Int)) = false := by simp
  obtain ⟨⟨x0, x1, x2, x3⟩, y0, y1, y2, y3⟩ := HX.out W7 (Below.refl _ _)
  rw [hW7] at x0 x1 x2 x3 y0 y1 y2 y3
  rw [hp] at y0 y1 y2 y3
  clear hb6 hs hW7 hb7 hx7 hb57 hy7 hp
  go_upto_region 8 with fail
  rw [← HW7.out, ← HP.out]
  clear x0 x1 x2 x3 y0 y1 y2 y3
  obtain ⟨⟨x0, x1, x2, x3⟩, y0, y1, y2, y3⟩ := HX.out W7 (Below.refl _ _)
  have HSELF : Hid (Below W7.heap.size W7 W7) := Lib.hid (Below.refl _ _)
  go_cut [37] from 28 (fun bv wx => bv = .bool false ∧ Below W7.heap.size W7 wx)
  case first =>
    go_region_held3 (fun w' => (w'.cell? ⟨q, 0, none⟩ = some (.int .i64 (k : Int)) ∧ w'.cell? ⟨q, 1, none⟩ = some (.int .i64 (e : Int)) ∧ w'.cell? ⟨q, 2, none⟩ = some (.int .i64 (a : Int)) ∧ w'.cell? ⟨q, 3, none⟩ = some (.slice ao4 nd cap4)) ∧
        w'.cell? ⟨p, 0, none⟩ = some (.int .i64 (k : Int)) ∧ w'.cell? ⟨p, 1, none⟩ = some (.int .i64 (e : Int)) ∧ w'.cell? ⟨p, 2, none⟩ = some (.int .i64 (a : Int)) ∧ w'.cell? ⟨p, 3, none⟩ = some (.string s)) (go_keep) (first
      | (go_at_call 10
         refine (HNUM.out _).mono ?_
         rintro r w9 ⟨rfl, rfl⟩)
      | (go_at_call 9
         refine (HDOC.out _ ?hbd).mono ?_
         case hbd => first | exact HSELF.out | exact ⟨rfl, rfl, rfl, Nat.le_refl _, fun _ _ => rfl⟩
         rintro r w8 ⟨rfl, hb8⟩
         have HB8 : Hid (Below W7.heap.size W7 w8) := Lib.hid (by first | exact hb8 | exact ⟨hb8.os, hb8.tape, hb8.output, hb8.size, hb8.block⟩)
         obtain ⟨⟨x0, x1, x2, x3⟩, y0, y1, y2, y3⟩ := HX.out w8 HB8.out
         clear hb8))
    all_goals
      go_wp2
      go_meet
      case rel => exact ⟨rfl, HB8.out⟩
  case rest =>
    obtain ⟨rfl, hb8⟩ := hcut
    have HB8 : Hid (Below w.heap.size w wc) := Lib.hid (HB7.out.trans (hb8.mono HB7.out.size))
    have HR8 := Lib.hid (HR7.out.new hb8)
    have HO8 := Lib.hid (HO7.out.new hb8)
    clear hb8 x0 x1 x2 x3 y0 y1 y2 y3 hcc HNEQ
    have HTU := Lib.hid (takeUnit_any _ b wc HO8.out H8.out (Nat.le_trans HNL.out (by decide)))
    go_wp2_with fail
    refine HTU.out.mono ?_
    rintro r w9 ⟨hb9, U, cu, hru, hcase⟩
    have HB9 : Hid (Below w.heap.size w w9) := Lib.hid (HB8.out.trans (hb9.mono HB8.out.size))
    have HR9 := Lib.hid (HR8.out.new hb9)
    have HO9 := Lib.hid (HO8.out.new hb9)
    have HRU := Lib.hid hru
    have HTR := Lib.hid (rtakeUnit_any _ b w9 HR9.out H8.out)
    have HNUM2 : Hid (∀ W, Calls Tryz.prog 10 #[errV cu] W fun e w' => e = .returned (.int .i64 (cu : Int)) ∧ W = w') := Lib.hid fun W => num_any cu W
    clear hb9 hru
    rcases hcase with ⟨hz, rfl⟩ | ⟨rfl, u, m, B, rfl, hun, _, _, _⟩
    · have HZ := Lib.hid hz
      obtain ⟨er2, her2⟩ : ∃ x, x = errV cu := ⟨_, rfl⟩
      rw [← her2] at HNUM2 ⊢
      clear hz her2
      go_wp2_with fail
      refine HTR.out.mono ?_
      rintro r w10 ⟨hb10, U', cu', hru', hcase⟩
      obtain ⟨h1, _⟩ := HRU.out.unique hru'
      subst h1
      clear hru'
      rcases hcase with ⟨_, rfl⟩ | ⟨h, _⟩
      rotate_left
      · exact absurd h HZ.out
      obtain ⟨W11, hW11⟩ : ∃ W, W = w10.alloc (.cells #[.int .i64 0, .int .i64 0, .slice none 0 0] 41) := ⟨_, rfl⟩
      have hb11 : Below w10.heap.size w10 W11 := by rw [hW11]; exact (Below.refl _ _).alloc (Nat.le_refl _) _
      have hbx := hb10.trans (hb11.mono hb10.size)
      have HB11 : Hid (Below w.heap.size w W11) := Lib.hid (HB9.out.trans (hbx.mono HB9.out.size))
      have HBY := Lib.hid (numBytes_any _ _ b b W11 (HO9.out.new hbx) (HR9.out.new hbx) H8.out H8.out)
      rw [decide_eq_true rfl] at HBY
      have HW11 := Lib.hid hW11
      have q1 : ((cu : Int) != (cu : Int)) = false := by simp
      have q2 : ((cu : Int) != 0) = true := by have := HZ.out; simp; omega
      clear hb10 hb11 hbx hW11
      go_wp2_with fail
      rw [← HW11.out]
      refine (HNUM2.out _).mono ?_
      rintro r w12 ⟨rfl, rfl⟩
      go_wp2_with fail
      refine HBY.out.mono ?_
      rintro r w12 ⟨rfl, rfl⟩
      go_wp2_with fail
      go_quiet (fail)
      all_goals
        go_wp2
        go_ret
        exact ⟨rfl, HB11.out.trans ⟨rfl, rfl, rfl, Nat.le_refl _, fun _ _ => rfl⟩⟩
    · have HUN := Lib.hid hun
      clear hun
      rw [errV_zero] at HNUM2
      go_wp2_with fail
      refine HTR.out.mono ?_
      rintro r w10 ⟨hb10, U', cu', hru', hcase⟩
      obtain ⟨h1, h2⟩ := HRU.out.unique hru'
      subst h1
      have h2 := h2 rfl
      subst h2
      clear hru'
      rcases hcase with ⟨h, _⟩ | ⟨_, lv, rfl, hdu⟩
      · exact absurd rfl h
      obtain ⟨aod, capd, rfl⟩ := hdu.val
      unfold docU
      obtain ⟨W11, hW11⟩ : ∃ W, W = w10.alloc (.cells #[.int .i64 U.epoch, .int .i64 U.low, .slice aod U.cells.length capd] 41) := ⟨_, rfl⟩
      have hb11 : Below w10.heap.size w10 W11 := by rw [hW11]; exact (Below.refl _ _).alloc (Nat.le_refl _) _
      have hx11 : W11.heap[w10.heap.size]? = some (.cells #[.int .i64 U.epoch, .int .i64 U.low, .slice aod U.cells.length capd] 41 (0, 0)) := by rw [hW11]; exact heap_alloc_new _ _
      have hbx := hb10.trans (hb11.mono hb10.size)
      have HB11 : Hid (Below w.heap.size w W11) := Lib.hid (HB9.out.trans (hbx.mono HB9.out.size))
      have HBY := Lib.hid (numBytes_any _ _ b b W11 (HO9.out.new hbx) (HR9.out.new hbx) H8.out H8.out)
      rw [decide_eq_true rfl] at HBY
      have HDU := Lib.hid (hdu.grown hb11)
      have HDOC2 := Lib.hid (fun (W : World) (hb : Below W11.heap.size W11 W) => documentU_any ((HUN.out.old hbx).old hb))
      have HSAME : Hid (∀ W lv2, Below W11.heap.size W11 W → DocU W (fun j => W11.heap.size ≤ j) lv2 U → Calls Tryz.prog 14 #[docU U lv2, docU U (.slice aod U.cells.length capd)] W fun r w' => r = .returned (.bool true) ∧ Below W.heap.size W w') := Lib.hid fun W lv2 hb hd => by
        have h := rsameG_any hd (HDU.out.grown hb) HUN.out.ok.bytes HUN.out.ok.bytes HUN.out.ok.len HUN.out.ok.len
        rw [sameUS_self] at h
        exact h
      obtain ⟨z, hz⟩ : ∃ z, z = w10.heap.size := ⟨_, rfl⟩
      rw [← hz] at hx11
      have HXU : Hid (∀ W, Below W11.heap.size W11 W → W.cell? ⟨z, 0, none⟩ = some (.int .i64 U.epoch) ∧ W.cell? ⟨z, 1, none⟩ = some (.int .i64 U.low) ∧ W.cell? ⟨z, 2, none⟩ = some (.slice aod U.cells.length capd)) := Lib.hid fun W hb => by
        obtain ⟨x0, x1, x2, _⟩ := three_cellsT ((hb.block _ (Array.getElem?_eq_some_iff.1 hx11).1).trans hx11)
        exact ⟨x0, x1, x2⟩
      have HZZ := Lib.hid hz
      have HW11 := Lib.hid hW11
      have HSELF2 : Hid (Below W11.heap.size W11 W11) := Lib.hid (Below.refl _ _)
      clear hb10 hb11 hbx hW11 hdu hx11 hz
      unfold docU at HSAME HDOC2
      generalize U.epoch = ep at *
      generalize U.low = lo at *
      generalize U.cells.length = nc at *
      go_wp2_with fail
      rw [← HW11.out, ← HZZ.out]
      refine (HNUM2.out _).mono ?_
      rintro r w12 ⟨rfl, rfl⟩
      go_wp2_with fail
      refine HBY.out.mono ?_
      rintro r w12 ⟨rfl, rfl⟩
      obtain ⟨x0, x1, x2⟩ := HXU.out W11 HSELF2.out
      go_wp2_with fail
      go_region_held3 (fun w' => w'.cell? ⟨z, 0, none⟩ = some (.int .i64 ep) ∧ w'.cell? ⟨z, 1, none⟩ = some (.int .i64 lo) ∧ w'.cell? ⟨z, 2, none⟩ = some (.slice aod nc capd)) (go_keep) (first
        | (go_at_call 15
           refine (HDOC2.out _ ?hbe).mono ?_
           case hbe => first | exact HSELF2.out | exact ⟨rfl, rfl, rfl, Nat.le_refl _, fun _ _ => rfl⟩
           rintro r w13 ⟨lv13, rfl, hd13', hb13'⟩
           have hb13 : Below W11.heap.size W11 w13 := by first | exact hb13' | exact ⟨hb13'.os, hb13'.tape, hb13'.output, hb13'.size, hb13'.block⟩
           have hd13 : DocU w13 (fun j => W11.heap.size ≤ j) lv13 U := by first | exact hd13' | exact hd13'.wide fun j hj => hj
           obtain ⟨ao13, cap13, hv13⟩ := docU_doc hd13
           subst hv13
           have HR13 := Lib.hid (HSAME.out _ _ hb13 hd13)
           have HB13 := Lib.hid hb13
           obtain ⟨x0, x1, x2⟩ := HXU.out w13 hb13
           clear hd13 hb13 hd13' hb13')
        | (go_at_call 14
           refine HR13.out.mono ?_
           rintro r w14 ⟨rfl, hb14⟩
           have HB14 := Lib.hid (HB13.out.trans (hb14.mono HB13.out.size))
           obtain ⟨x0, x1, x2⟩ := HXU.out w14 HB14.out
           clear hb14))
      all_goals
        go_wp2
        go_ret
        exact ⟨rfl, HB11.out.trans (HB14.out.mono HB11.out.size)⟩
end Go.Proofs.YtiaijpknnomlnaaGreat
