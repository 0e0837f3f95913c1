/- RecordBack, walked. -/
import Derived.Test.YtiaijpknnomlnaaGreatRpP
import Derived.Test.YtiaijpknnomlnaaGreatRcC
import Derived.Test.YtiaijpknnomlnaaGreatUwP
import Derived.Test.YtiaijpknnomlnaaGreatUvP
import Derived.Deep.CutBlock
import Derived.Deep.RegionHeld3
namespace Go.Proofs.YtiaijpknnomlnaaGreat
open Go.RowKit

set_option maxRecDepth 100000 in
theorem neq_actB (k e a : Int) (s : ByteArray) (w : World) :
    (binOp .neq 31 (.agg #[.int .i64 k, .int .i64 e, .int .i64 a, .string s]) (.agg #[.int .i64 k, .int .i64 e, .int .i64 a, .string s])).run Tryz.prog w = .ok (.bool false) w := by
  have ht : Tryz.prog.underlying 31 = some (.struct (Tryz.prog.fieldsOf 31)) := by kernel_rfl
  have hp : Tryz.prog.stoodInHeld 31 = false := by kernel_rfl
  have h1 : Tryz.prog.underlying 3 = some (.int .i64) := Tryz.underlying3
  have h2 : Tryz.prog.underlying 9 = some .string := Tryz.underlying9
  obtain ⟨L, hL⟩ : ∃ L, L = (Tryz.prog.fieldsOf 31).toList := ⟨_, rfl⟩
  have hm : (L.map fun f => (f.name == "_", f.type, f.offset)) = [(false, 3, 0), (false, 3, 1), (false, 3, 2), (false, 9, 3)] := by rw [hL]; kernel_rfl
  obtain ⟨f0, f1, f2, f3, hf, ⟨n0, hf0, g0⟩, ⟨n1, hf1, g1⟩, ⟨n2, hf2, g2⟩, n3, hf3, g3⟩ : ∃ f0 f1 f2 f3, L = [f0, f1, f2, f3] ∧ ((f0.name == "_") = false ∧ f0.type = 3 ∧ f0.offset = 0) ∧ ((f1.name == "_") = false ∧ f1.type = 3 ∧ f1.offset = 1) ∧ ((f2.name == "_") = false ∧ f2.type = 3 ∧ f2.offset = 2) ∧ (f3.name == "_") = false ∧ f3.type = 9 ∧ f3.offset = 3 := by
    have hlen := congrArg List.length hm
    rcases L with _ | ⟨f0, _ | ⟨f1, _ | ⟨f2, _ | ⟨f3, _ | ⟨f4, r⟩⟩⟩⟩⟩
    · simp at hlen
    · simp at hlen
    · simp at hlen
    · simp at hlen
    · simp only [List.map_cons, List.map_nil, List.cons.injEq, Prod.mk.injEq, and_true] at hm
      exact ⟨f0, f1, f2, f3, rfl, ⟨hm.1.1, hm.1.2.1, hm.1.2.2⟩, ⟨hm.2.1.1, hm.2.1.2.1, hm.2.1.2.2⟩, ⟨hm.2.2.1.1, hm.2.2.1.2.1, hm.2.2.1.2.2⟩, hm.2.2.2.1, hm.2.2.2.2.1, hm.2.2.2.2.2⟩
    · simp at hlen
  rw [hL] at hf
  clear hm hL
  have hn0 : ¬ f0.name = "_" := beq_eq_false_iff_ne.1 n0
  have hn1 : ¬ f1.name = "_" := beq_eq_false_iff_ne.1 n1
  have hn2 : ¬ f2.name = "_" := beq_eq_false_iff_ne.1 n2
  have hn3 : ¬ f3.name = "_" := beq_eq_false_iff_ne.1 n3
  clear n0 n1 n2 n3
  rw [run_neq_struct, run_equalIn_agg _ _ _ _ _ ht hp, hf]
  go_simp


theorem below_dr {w W : World} (h : Below w.heap.size w W) : Below w.heap.size w W.drew := h.drew
theorem runit_same {U U' : US} {c : Nat} (h : UOk U) (hl : (utext U).length ≤ 65536) (hn : U.cells.length ≤ 65536) (hr : RUnit (fr (utext U)) U' c) : c = 0 ∧ U' = U := by
  obtain ⟨h1, h2⟩ := (runit_put h hl hn).unique hr
  exact ⟨h1.symm, (h2 rfl).symm⟩
theorem rtake_same {kn en an k' e' a' c : Nat} {d d' : List Nat} (h : rchk (kn : Int) (en : Int) (an : Int) d.length = 0) (hr : RTake (fr (rtext kn en an d)) k' e' a' d' c) : k' = kn ∧ e' = en ∧ a' = an ∧ d' = d ∧ c = 0 := by
  obtain ⟨h1, h2, h3, h4, h5⟩ := hr.unique (rtake_text h)
  exact ⟨h1, h2, h3, h4, h5⟩
theorem fr_len_le {t : List Nat} (h : t.length ≤ 65536) : (fr t).length ≤ 65560 := by
  have := enc_len10 (n := t.length) (by unfold U64; omega)
  rw [fr_length]
  unfold fsize
  omega

set_option maxHeartbeats 16000000 in
set_option maxRecDepth 100000 in
theorem recordBack_walk (k e a : Int) (v : Value) (d : List Nat) (lv : Value) (l : Im IC) (bv : Value) (b : List Nat) (w : World) (hr : Reads w .u8 v d) (h8 : ∀ y ∈ d, y < 256)
    (hl : EntAt w (fun j => j < w.heap.size) lv l) (hl8 : ∀ f ∈ l, ∀ y ∈ f.2.2, y < 256) (hb : Reads w .u8 bv b) (hb8 : ∀ y ∈ b, y < 256) :
    Calls Tryz.prog 5 #[.agg #[.int .i64 k, .int .i64 e, .int .i64 a, v], lv, bv] w fun e w' => e = .returned (.bool true) ∧ Below w.heap.size w w' := by
  obtain ⟨ao, cap, rfl, _, _, _⟩ := hr.val
  obtain ⟨aob, capb, rfl, _, _, _⟩ := hb.val
  obtain ⟨aol, capl, rfl, hlc, hcap, _⟩ := hl.val
  obtain ⟨W1, hW1⟩ : ∃ W1, W1 = w.alloc (.cells #[.int .i64 k, .int .i64 e, .int .i64 a, .slice ao d.length cap] 25) := ⟨_, rfl⟩
  have hb1 : Below w.heap.size w W1 := by rw [hW1]; exact (Below.refl _ _).alloc (Nat.le_refl _) _
  have hx1 : W1.heap[w.heap.size]? = some (.cells #[.int .i64 k, .int .i64 e, .int .i64 a, .slice ao d.length cap] 25 (0, 0)) := by rw [hW1]; exact heap_alloc_new _ _
  have HX : Hid (∀ W, Below W1.heap.size W1 W → W.cell? ⟨w.heap.size, 0, none⟩ = some (.int .i64 k) ∧ W.cell? ⟨w.heap.size, 1, none⟩ = some (.int .i64 e) ∧ W.cell? ⟨w.heap.size, 2, none⟩ = some (.int .i64 a) ∧ W.cell? ⟨w.heap.size, 3, none⟩ = some (.slice ao d.length cap)) := Lib.hid fun W hb => by
    obtain ⟨h0, h1, h2, h3, _⟩ := four_cells9 ((hb.block _ (Array.getElem?_eq_some_iff.1 hx1).1).trans hx1)
    exact ⟨h0, h1, h2, h3⟩
  have HB1 := Lib.hid hb1
  have HD : Hid (∀ W, Below W1.heap.size W1 W → Reads W .u8 (.slice ao d.length cap) d) := Lib.hid fun W h => (hr.new hb1).new h
  have HRB : Hid (∀ W, Below W1.heap.size W1 W → Reads W .u8 (.slice aob b.length capb) b) := Lib.hid fun W h => (hb.new hb1).new h
  have HEN : Hid (∀ W, Below W1.heap.size W1 W → EntAt W (fun j => j < w.heap.size) (.slice aol l.length capl) l) := Lib.hid fun W h => (hl.keep (kept_new hb1 _)).keep (kept_new h _)
  have HLL : Hid (l.length ≤ 9223372036854775807) := Lib.hid (Nat.le_trans hlc hcap)
  have H8 := Lib.hid h8
  have HL8 := Lib.hid hl8
  have HB8 := Lib.hid hb8
  have HW1 := Lib.hid hW1
  obtain ⟨nd, hnd⟩ : ∃ n, n = d.length := ⟨_, rfl⟩
  obtain ⟨nb, hnb⟩ : ∃ n, n = b.length := ⟨_, rfl⟩
  obtain ⟨nl, hnl⟩ : ∃ n, n = l.length := ⟨_, rfl⟩
  rw [← hnd] at HX HD HW1
  rw [← hnb] at HRB
  rw [← hnl] at HEN
  rw [← hnd, ← hnb, ← hnl]
  have HND := Lib.hid hnd
  have HNB := Lib.hid hnb
  have HNL := Lib.hid hnl
  have HF : Hid (∀ W, Below W1.heap.size W1 W → Below w.heap.size w W) := Lib.hid fun W h => hb1.trans (h.mono hb1.size)
  have HLONG := Lib.hid (fun (W : World) (h : Below W1.heap.size W1 W) => by have h9 := long8_any (HEN.out W h) HLL.out 60; rw [← hnl] at h9; exact h9)
  clear hr hb hl hlc hcap hb1 hx1 h8 hl8 hb8 hW1 hnd hnb hnl
  go_enter Tryz.func5, Tryz.ntmps5
  go_wp2_with fail
  rw [← HW1.out]
  refine (alive9_any W1).mono ?_
  rintro r w2 ⟨rfl, hb2⟩
  have HC := Lib.hid hb2
  obtain ⟨x0, x1, x2, x3⟩ := HX.out w2 hb2
  have HLO := Lib.hid (HLONG.out w2 hb2)
  clear hb2
  by_cases h100 : (100 : Int) < (nd : Int)
  · go_wp2
    go_ret
    exact ⟨rfl, HF.out _ HC.out⟩
  go_wp2_with fail
  refine HLO.out.mono ?_
  rintro r w3 ⟨bl, rfl, hbl, hb3⟩
  have HC3 : Hid (Below W1.heap.size W1 w3) := Lib.hid (HC.out.trans (hb3.mono HC.out.size))
  clear hb3
  cases bl
  rotate_left
  · go_wp2
    go_ret
    exact ⟨rfl, HF.out _ HC3.out⟩
  obtain ⟨hl60, hl100⟩ := hbl rfl
  have HL60 : Hid (l.length ≤ 60) := Lib.hid (by rw [HNL.out] at hl60; omega)
  clear hbl hl60 hl100
  by_cases h3000 : (3000 : Int) < (nb : Int)
  · go_wp2
    go_ret
    exact ⟨rfl, HF.out _ HC3.out⟩
  have HB3K : Hid (b.length ≤ 3000) := Lib.hid (by rw [← HNB.out]; omega)
  have HL100 : Hid (d.length ≤ 100) := Lib.hid (by rw [← HND.out]; omega)
  have HC := HC3
  obtain ⟨x0, x1, x2, x3⟩ := HX.out w3 HC.out
  have HPU := Lib.hid (rput_any k e a _ d w3 (HD.out w3 HC.out) H8.out)
  obtain ⟨c, hc⟩ : ∃ c, c = rchk k e a d.length := ⟨_, rfl⟩
  rw [← hc] at HPU
  have HCC := Lib.hid hc
  clear hc
  go_wp2_with fail
  clear h100 h3000
  refine HPU.out.mono ?_
  rintro r w4 ⟨hb4, hcase⟩
  have HC4 : Hid (Below W1.heap.size W1 w4) := Lib.hid (HC.out.trans (hb4.mono HC.out.size))
  clear hb4 x0 x1 x2 x3 HC HC3 HLO HPU
  have HC := HC4
  rcases hcase with ⟨hz, rfl⟩ | ⟨hz, v4, rfl, ho4⟩
  · rw [errV_pos hz]
    clear hz
    have HEW := Lib.hid (HEN.out w4 HC.out)
    have hof := uof_any HEW.out HL8.out (by have := HL60.out; omega) 7 0
    have HOF := Lib.hid hof
    clear hof
    go_wp2_with fail
    refine HOF.out.mono ?_
    rintro r w10 ⟨hb10, hcase⟩
    have HC10 : Hid (Below W1.heap.size W1 w10) := Lib.hid (HC.out.trans (hb10.mono HC.out.size))
    have HC := HC10
    clear hb10 HOF HEW
    rcases hcase with ⟨hz, rfl⟩ | ⟨_, u, m, B, rfl, hun, _, _, _⟩
    · rw [errV_pos hz]
      clear hz
      have HTK3 := Lib.hid (rtake_any _ b w10 (HRB.out w10 HC.out) HB8.out (Nat.le_trans HB3K.out (by decide)))
      go_wp2_with fail
      refine HTK3.out.mono ?_
      rintro r w20 ⟨k2, e2, a2, v20, d2, c20, rfl, htake, ho20, hb20⟩
      obtain ⟨ao20, cap20, rfl, _, _, _⟩ := ho20.reads.val
      obtain ⟨n20, hn20⟩ : ∃ n, n = d2.length := ⟨_, rfl⟩
      rw [← hn20] at ho20 ⊢
      obtain ⟨W21, hW21⟩ : ∃ W, W = w20.alloc (.cells #[.int .i64 (k2 : Int), .int .i64 (e2 : Int), .int .i64 (a2 : Int), .slice ao20 n20 cap20] 25) := ⟨_, rfl⟩
      have hb21 : Below w20.heap.size w20 W21 := by rw [hW21]; exact (Below.refl _ _).alloc (Nat.le_refl _) _
      have hx21 : W21.heap[w20.heap.size]? = some (.cells #[.int .i64 (k2 : Int), .int .i64 (e2 : Int), .int .i64 (a2 : Int), .slice ao20 n20 cap20] 25 (0, 0)) := by rw [hW21]; exact heap_alloc_new _ _
      have HC21 : Hid (Below W1.heap.size W1 W21) := Lib.hid (HC.out.trans ((hb20.trans (hb21.mono hb20.size)).mono HC.out.size))
      have HRD21 := Lib.hid (ho20.reads.new hb21)
      have HW21 := Lib.hid hW21
      have HN20 := Lib.hid hn20
      obtain ⟨x0, x1, x2, x3, _⟩ := four_cells9 hx21
      rw [hW21] at x0 x1 x2 x3
      have HC := HC21
      by_cases hz : c20 = 0
      rotate_left
      · rw [errV_pos hz]
        clear htake ho20 hb20 hn20 hW21 hb21 hx21 hz HTK3
        have HTU4 := Lib.hid (takeUnit_any _ b W21 (HRB.out W21 HC.out) HB8.out (Nat.le_trans HB3K.out (by decide)))
        go_wp2_with fail
        rw [← HW21.out]
        clear x0 x1 x2 x3
        refine HTU4.out.mono ?_
        rintro r w30 ⟨hb30, U3, c30, hru, hcase⟩
        have HC30 : Hid (Below W1.heap.size W1 w30) := Lib.hid (HC.out.trans (hb30.mono HC.out.size))
        have HC := HC30
        rcases hcase with ⟨hz, rfl⟩ | ⟨rfl, u3, m3, B3, rfl, hun3, _, _, _⟩
        · rw [errV_pos hz]
          clear hru hb30 hz
          go_wp2
          go_ret
          exact ⟨rfl, HF.out _ HC.out⟩
        · obtain ⟨hbe, hok, hle⟩ := runit_back HB8.out hru
          have HBE := Lib.hid hbe
          have HLE := Lib.hid hle
          have HPT := Lib.hid (putUnit_any hun3)
          clear hru hb30 hun3 hbe hok hle
          go_wp2_with fail
          refine HPT.out.mono ?_
          rintro r w31 ⟨hb31, ⟨_, v31, rfl, ho31⟩ | ⟨hlong, _⟩⟩
          rotate_left
          · exact absurd HLE.out (Nat.not_le.2 hlong)
          rw [← HBE.out] at ho31
          have HC31 : Hid (Below W1.heap.size W1 w31) := Lib.hid (HC.out.trans (hb31.mono HC.out.size))
          have hby := numBytes_any v31 _ b b w31 ho31.reads (HRB.out w31 HC31.out) HB8.out HB8.out
          rw [decide_eq_true rfl] at hby
          have HBY := Lib.hid hby
          obtain ⟨ao31, cap31, hv31, _, _, _⟩ := ho31.reads.val
          subst hv31
          rw [← HNB.out] at HBY
          rw [errV_zero, ← HNB.out]
          clear hb31 ho31 hby HPT
          go_wp2_with fail
          refine HBY.out.mono ?_
          rintro r w31' ⟨rfl, hw⟩
          subst hw
          go_wp2
          go_ret
          exact ⟨rfl, HF.out _ HC31.out⟩
      · subst hz
        obtain ⟨hbe, hrc⟩ := rtake_back htake
        have hbytes : ∀ y ∈ d2, y < 256 := fun y hy => by
          have h1 := htake
          obtain ⟨t9, c9, hfo9, hif9⟩ := h1
          have h2 : y ∈ rtext k2 e2 a2 d2 := by
            obtain ⟨z1, z2, z3, z4, z5, z6, z7, z8, z9, _⟩ := rchk_zero hrc
            by_cases hk2 : (k2 : Int) = 2
            · unfold rtext
              rw [if_pos (show k2 = 2 by omega)]
              simp [hy]
            · have h0 := z9 hk2
              rw [List.length_eq_zero_iff.1 h0] at hy
              cases hy
          have h3 : y ∈ fr (rtext k2 e2 a2 d2) := by
            unfold fr fbody
            simp [h2]
          rw [← hbe] at h3
          exact HB8.out y h3
        have hpu := rput_any (k2 : Int) (e2 : Int) (a2 : Int) _ d2 W21 (by have := HRD21.out; exact this) hbytes
        rw [hrc] at hpu
        have HPU := Lib.hid hpu
        have HBE := Lib.hid hbe
        rw [errV_zero]
        clear htake ho20 hb20 hn20 hW21 hb21 hx21 hbe hrc hbytes hpu HTK3
        go_wp2_with fail
        rw [← HW21.out]
        clear x0 x1 x2 x3
        refine HPU.out.mono ?_
        rintro r w22 ⟨hb22, ⟨h, _⟩ | ⟨_, v22, rfl, ho22⟩⟩
        · exact absurd rfl h
        rw [Int.toNat_natCast, Int.toNat_natCast, Int.toNat_natCast, ← HBE.out] at ho22
        have HC22 : Hid (Below W1.heap.size W1 w22) := Lib.hid (HC.out.trans (hb22.mono HC.out.size))
        have HC := HC22
        have hby := numBytes_any v22 _ b b w22 ho22.reads (HRB.out w22 HC.out) HB8.out HB8.out
        rw [decide_eq_true rfl] at hby
        have HBY := Lib.hid hby
        obtain ⟨ao22, cap22, hv22, _, _, _⟩ := ho22.reads.val
        subst hv22
        rw [← HNB.out] at HBY ⊢
        clear hb22 ho22 hby HPU
        go_wp2_with fail
        refine HBY.out.mono ?_
        rintro r w22' ⟨rfl, hw⟩
        subst hw
        have HTU4 := Lib.hid (takeUnit_any _ b w22 (HRB.out w22 HC.out) HB8.out (Nat.le_trans HB3K.out (by decide)))
        go_wp2_with fail
        refine HTU4.out.mono ?_
        rintro r w30 ⟨hb30, U3, c30, hru, hcase⟩
        have HC30 : Hid (Below W1.heap.size W1 w30) := Lib.hid (HC.out.trans (hb30.mono HC.out.size))
        have HC := HC30
        rcases hcase with ⟨hz, rfl⟩ | ⟨rfl, u3, m3, B3, rfl, hun3, _, _, _⟩
        · rw [errV_pos hz]
          clear hru hb30 hz
          go_wp2
          go_ret
          exact ⟨rfl, HF.out _ HC.out⟩
        · obtain ⟨hbe, hok, hle⟩ := runit_back HB8.out hru
          have HBE := Lib.hid hbe
          have HLE := Lib.hid hle
          have HPT := Lib.hid (putUnit_any hun3)
          clear hru hb30 hun3 hbe hok hle
          go_wp2_with fail
          refine HPT.out.mono ?_
          rintro r w31 ⟨hb31, ⟨_, v31, rfl, ho31⟩ | ⟨hlong, _⟩⟩
          rotate_left
          · exact absurd HLE.out (Nat.not_le.2 hlong)
          rw [← HBE.out] at ho31
          have HC31 : Hid (Below W1.heap.size W1 w31) := Lib.hid (HC.out.trans (hb31.mono HC.out.size))
          have hby := numBytes_any v31 _ b b w31 ho31.reads (HRB.out w31 HC31.out) HB8.out HB8.out
          rw [decide_eq_true rfl] at hby
          have HBY := Lib.hid hby
          obtain ⟨ao31, cap31, hv31, _, _, _⟩ := ho31.reads.val
          subst hv31
          rw [← HNB.out] at HBY
          rw [errV_zero, ← HNB.out]
          clear hb31 ho31 hby HPT
          go_wp2_with fail
          refine HBY.out.mono ?_
          rintro r w31' ⟨rfl, hw⟩
          subst hw
          go_wp2
          go_ret
          exact ⟨rfl, HF.out _ HC31.out⟩
    · have hok := hun.ok
      have HOK := Lib.hid hok
      have hutl := utext_len hok (show l.length ≤ 1048576 by have := HL60.out; omega)
      have HUTL : Hid ((utext ⟨7, 0, l⟩).length ≤ 65536 ∧ ∀ y ∈ utext ⟨7, 0, l⟩, y < 256) := Lib.hid ⟨by have h1 := hutl.1; have h2 := HL60.out; have h3 : (utext ⟨7, 0, l⟩).length ≤ 30 + 94 * l.length := h1; omega, hutl.2⟩
      have HUN := Lib.hid hun
      have HPT := Lib.hid (putUnit_any hun)
      clear hun hok hutl
      go_wp2_with fail
      refine HPT.out.mono ?_
      rintro r w11 ⟨hb11, ⟨_, v11, rfl, ho11⟩ | ⟨hlong, _⟩⟩
      rotate_left
      · exact absurd HUTL.out.1 (Nat.not_le.2 hlong)
      have HC11 : Hid (Below W1.heap.size W1 w11) := Lib.hid (HC.out.trans (hb11.mono HC.out.size))
      have HUN11 := Lib.hid (HUN.out.old hb11)
      have HTU := Lib.hid (takeUnit_any v11 (fr (utext ⟨7, 0, l⟩)) w11 ho11.reads (fr_byte HUTL.out.2 (u64_of_le (by have := HUTL.out.1; omega))) (Nat.le_trans (fr_len_le HUTL.out.1) (by decide)))
      rw [errV_zero]
      clear hb11 ho11 HPT
      go_wp2_with fail
      refine HTU.out.mono ?_
      rintro r w12 ⟨hb12, U', c12, hru, hcase⟩
      obtain ⟨h1, h2⟩ := runit_same HOK.out HUTL.out.1 (by have := HL60.out; show l.length ≤ 65536; omega) hru
      subst h1 h2
      have HC12 : Hid (Below W1.heap.size W1 w12) := Lib.hid (HC11.out.trans (hb12.mono HC11.out.size))
      have HUN12 := Lib.hid (HUN11.out.old hb12)
      rcases hcase with ⟨h, _⟩ | ⟨_, u2, m2, B2, rfl, hun2, _, _, _⟩
      · exact absurd rfl h
      have hsm := usame_any hun2 HUN12.out
      rw [sameUS_self] at hsm
      have HSM := Lib.hid hsm
      clear hru hb12 hun2 hsm HTU
      go_wp2_with fail
      refine HSM.out.mono ?_
      rintro r w13 ⟨rfl, hb13⟩
      have HC13 : Hid (Below W1.heap.size W1 w13) := Lib.hid (HC12.out.trans (hb13.mono HC12.out.size))
      have HC := HC13
      clear hb13 HSM
      have HTK3 := Lib.hid (rtake_any _ b w13 (HRB.out w13 HC.out) HB8.out (Nat.le_trans HB3K.out (by decide)))
      go_wp2_with fail
      refine HTK3.out.mono ?_
      rintro r w20 ⟨k2, e2, a2, v20, d2, c20, rfl, htake, ho20, hb20⟩
      obtain ⟨ao20, cap20, rfl, _, _, _⟩ := ho20.reads.val
      obtain ⟨n20, hn20⟩ : ∃ n, n = d2.length := ⟨_, rfl⟩
      rw [← hn20] at ho20 ⊢
      obtain ⟨W21, hW21⟩ : ∃ W, W = w20.alloc (.cells #[.int .i64 (k2 : Int), .int .i64 (e2 : Int), .int .i64 (a2 : Int), .slice ao20 n20 cap20] 25) := ⟨_, rfl⟩
      have hb21 : Below w20.heap.size w20 W21 := by rw [hW21]; exact (Below.refl _ _).alloc (Nat.le_refl _) _
      have hx21 : W21.heap[w20.heap.size]? = some (.cells #[.int .i64 (k2 : Int), .int .i64 (e2 : Int), .int .i64 (a2 : Int), .slice ao20 n20 cap20] 25 (0, 0)) := by rw [hW21]; exact heap_alloc_new _ _
      have HC21 : Hid (Below W1.heap.size W1 W21) := Lib.hid (HC.out.trans ((hb20.trans (hb21.mono hb20.size)).mono HC.out.size))
      have HRD21 := Lib.hid (ho20.reads.new hb21)
      have HW21 := Lib.hid hW21
      have HN20 := Lib.hid hn20
      obtain ⟨x0, x1, x2, x3, _⟩ := four_cells9 hx21
      rw [hW21] at x0 x1 x2 x3
      have HC := HC21
      by_cases hz : c20 = 0
      rotate_left
      · rw [errV_pos hz]
        clear htake ho20 hb20 hn20 hW21 hb21 hx21 hz HTK3
        have HTU4 := Lib.hid (takeUnit_any _ b W21 (HRB.out W21 HC.out) HB8.out (Nat.le_trans HB3K.out (by decide)))
        go_wp2_with fail
        rw [← HW21.out]
        clear x0 x1 x2 x3
        refine HTU4.out.mono ?_
        rintro r w30 ⟨hb30, U3, c30, hru, hcase⟩
        have HC30 : Hid (Below W1.heap.size W1 w30) := Lib.hid (HC.out.trans (hb30.mono HC.out.size))
        have HC := HC30
        rcases hcase with ⟨hz, rfl⟩ | ⟨rfl, u3, m3, B3, rfl, hun3, _, _, _⟩
        · rw [errV_pos hz]
          clear hru hb30 hz
          go_wp2
          go_ret
          exact ⟨rfl, HF.out _ HC.out⟩
        · obtain ⟨hbe, hok, hle⟩ := runit_back HB8.out hru
          have HBE := Lib.hid hbe
          have HLE := Lib.hid hle
          have HPT := Lib.hid (putUnit_any hun3)
          clear hru hb30 hun3 hbe hok hle
          go_wp2_with fail
          refine HPT.out.mono ?_
          rintro r w31 ⟨hb31, ⟨_, v31, rfl, ho31⟩ | ⟨hlong, _⟩⟩
          rotate_left
          · exact absurd HLE.out (Nat.not_le.2 hlong)
          rw [← HBE.out] at ho31
          have HC31 : Hid (Below W1.heap.size W1 w31) := Lib.hid (HC.out.trans (hb31.mono HC.out.size))
          have hby := numBytes_any v31 _ b b w31 ho31.reads (HRB.out w31 HC31.out) HB8.out HB8.out
          rw [decide_eq_true rfl] at hby
          have HBY := Lib.hid hby
          obtain ⟨ao31, cap31, hv31, _, _, _⟩ := ho31.reads.val
          subst hv31
          rw [← HNB.out] at HBY
          rw [errV_zero, ← HNB.out]
          clear hb31 ho31 hby HPT
          go_wp2_with fail
          refine HBY.out.mono ?_
          rintro r w31' ⟨rfl, hw⟩
          subst hw
          go_wp2
          go_ret
          exact ⟨rfl, HF.out _ HC31.out⟩
      · subst hz
        obtain ⟨hbe, hrc⟩ := rtake_back htake
        have hbytes : ∀ y ∈ d2, y < 256 := fun y hy => by
          have h1 := htake
          obtain ⟨t9, c9, hfo9, hif9⟩ := h1
          have h2 : y ∈ rtext k2 e2 a2 d2 := by
            obtain ⟨z1, z2, z3, z4, z5, z6, z7, z8, z9, _⟩ := rchk_zero hrc
            by_cases hk2 : (k2 : Int) = 2
            · unfold rtext
              rw [if_pos (show k2 = 2 by omega)]
              simp [hy]
            · have h0 := z9 hk2
              rw [List.length_eq_zero_iff.1 h0] at hy
              cases hy
          have h3 : y ∈ fr (rtext k2 e2 a2 d2) := by
            unfold fr fbody
            simp [h2]
          rw [← hbe] at h3
          exact HB8.out y h3
        have hpu := rput_any (k2 : Int) (e2 : Int) (a2 : Int) _ d2 W21 (by have := HRD21.out; exact this) hbytes
        rw [hrc] at hpu
        have HPU := Lib.hid hpu
        have HBE := Lib.hid hbe
        rw [errV_zero]
        clear htake ho20 hb20 hn20 hW21 hb21 hx21 hbe hrc hbytes hpu HTK3
        go_wp2_with fail
        rw [← HW21.out]
        clear x0 x1 x2 x3
        refine HPU.out.mono ?_
        rintro r w22 ⟨hb22, ⟨h, _⟩ | ⟨_, v22, rfl, ho22⟩⟩
        · exact absurd rfl h
        rw [Int.toNat_natCast, Int.toNat_natCast, Int.toNat_natCast, ← HBE.out] at ho22
        have HC22 : Hid (Below W1.heap.size W1 w22) := Lib.hid (HC.out.trans (hb22.mono HC.out.size))
        have HC := HC22
        have hby := numBytes_any v22 _ b b w22 ho22.reads (HRB.out w22 HC.out) HB8.out HB8.out
        rw [decide_eq_true rfl] at hby
        have HBY := Lib.hid hby
        obtain ⟨ao22, cap22, hv22, _, _, _⟩ := ho22.reads.val
        subst hv22
        rw [← HNB.out] at HBY ⊢
        clear hb22 ho22 hby HPU
        go_wp2_with fail
        refine HBY.out.mono ?_
        rintro r w22' ⟨rfl, hw⟩
        subst hw
        have HTU4 := Lib.hid (takeUnit_any _ b w22 (HRB.out w22 HC.out) HB8.out (Nat.le_trans HB3K.out (by decide)))
        go_wp2_with fail
        refine HTU4.out.mono ?_
        rintro r w30 ⟨hb30, U3, c30, hru, hcase⟩
        have HC30 : Hid (Below W1.heap.size W1 w30) := Lib.hid (HC.out.trans (hb30.mono HC.out.size))
        have HC := HC30
        rcases hcase with ⟨hz, rfl⟩ | ⟨rfl, u3, m3, B3, rfl, hun3, _, _, _⟩
        · rw [errV_pos hz]
          clear hru hb30 hz
          go_wp2
          go_ret
          exact ⟨rfl, HF.out _ HC.out⟩
        · obtain ⟨hbe, hok, hle⟩ := runit_back HB8.out hru
          have HBE := Lib.hid hbe
          have HLE := Lib.hid hle
          have HPT := Lib.hid (putUnit_any hun3)
          clear hru hb30 hun3 hbe hok hle
          go_wp2_with fail
          refine HPT.out.mono ?_
          rintro r w31 ⟨hb31, ⟨_, v31, rfl, ho31⟩ | ⟨hlong, _⟩⟩
          rotate_left
          · exact absurd HLE.out (Nat.not_le.2 hlong)
          rw [← HBE.out] at ho31
          have HC31 : Hid (Below W1.heap.size W1 w31) := Lib.hid (HC.out.trans (hb31.mono HC.out.size))
          have hby := numBytes_any v31 _ b b w31 ho31.reads (HRB.out w31 HC31.out) HB8.out HB8.out
          rw [decide_eq_true rfl] at hby
          have HBY := Lib.hid hby
          obtain ⟨ao31, cap31, hv31, _, _, _⟩ := ho31.reads.val
          subst hv31
          rw [← HNB.out] at HBY
          rw [errV_zero, ← HNB.out]
          clear hb31 ho31 hby HPT
          go_wp2_with fail
          refine HBY.out.mono ?_
          rintro r w31' ⟨rfl, hw⟩
          subst hw
          go_wp2
          go_ret
          exact ⟨rfl, HF.out _ HC31.out⟩
  · rw [hz] at HCC
    obtain ⟨z1, z2, z3, z4, z5, z6, z7, _⟩ := rchk_zero HCC.out.symm
    obtain ⟨kn, rfl⟩ : ∃ n : Nat, k = (n : Int) := ⟨k.toNat, by omega⟩
    obtain ⟨en, rfl⟩ : ∃ n : Nat, e = (n : Int) := ⟨e.toNat, by omega⟩
    obtain ⟨an, rfl⟩ : ∃ n : Nat, a = (n : Int) := ⟨a.toNat, by omega⟩
    rw [Int.toNat_natCast, Int.toNat_natCast, Int.toNat_natCast] at ho4
    have HTL : Hid ((rtext kn en an d).length ≤ 110 ∧ ∀ y ∈ rtext kn en an d, y < 256) := Lib.hid ⟨rtext_le (u64_of_le (by omega)) (u64_of_le (by omega)) (u64_of_le (by omega)) z7, rtext_byte (u64_of_le (by omega)) (u64_of_le (by omega)) (u64_of_le (by omega)) H8.out z7⟩
    have HTK := Lib.hid (rtake_any v4 (fr (rtext kn en an d)) w4 ho4.reads (fr_byte HTL.out.2 (u64_of_le (by have := HTL.out.1; omega))) (Nat.le_trans (fr_len_le (by have := HTL.out.1; omega)) (by decide)))
    clear hz z1 z2 z3 z4 z5 z6 z7 ho4
    go_wp2_with fail
    refine HTK.out.mono ?_
    rintro r w5 ⟨k', e', a', v5, d', c5, rfl, htake, ho5, hb5⟩
    obtain ⟨h1, h2, h3, h4, h5⟩ := rtake_same HCC.out.symm htake
    subst h1 h2 h3 h4 h5
    rw [errV_zero]
    obtain ⟨ao5, cap5, rfl, _, _, _⟩ := ho5.reads.val
    obtain ⟨W6, hW6⟩ : ∃ W, W = w5.alloc (.cells #[.int .i64 (k' : Int), .int .i64 (e' : Int), .int .i64 (a' : Int), .slice ao5 d'.length cap5] 25) := ⟨_, rfl⟩
    have hb6 : Below w5.heap.size w5 W6 := by rw [hW6]; exact (Below.refl _ _).alloc (Nat.le_refl _) _
    have hx6 : W6.heap[w5.heap.size]? = some (.cells #[.int .i64 (k' : Int), .int .i64 (e' : Int), .int .i64 (a' : Int), .slice ao5 d'.length cap5] 25 (0, 0)) := by rw [hW6]; exact heap_alloc_new _ _
    have hc6 : Below W1.heap.size W1 W6 := HC.out.trans ((hb5.trans (hb6.mono hb5.size)).mono HC.out.size)
    have HC6 := Lib.hid hc6
    obtain ⟨q, hq⟩ : ∃ q, q = w5.heap.size := ⟨_, rfl⟩
    rw [← hq] at hx6
    have HQ := Lib.hid hq
    have HW6 := Lib.hid hW6
    obtain ⟨s, hs⟩ : ∃ s, s = S8 d' := ⟨_, rfl⟩
    have HS := Lib.hid hs
    have HRD6 := Lib.hid (ho5.reads.new hb6)
    rw [← HND.out] at HRD6 hx6 HW6 ⊢
    have HXX : Hid (∀ W, Below W6.heap.size W6 W → (W.cell? ⟨q, 0, none⟩ = some (.int .i64 (k' : Int)) ∧ W.cell? ⟨q, 1, none⟩ = some (.int .i64 (e' : Int)) ∧ W.cell? ⟨q, 2, none⟩ = some (.int .i64 (a' : Int)) ∧ W.cell? ⟨q, 3, none⟩ = some (.slice ao5 nd cap5)) ∧
        W.cell? ⟨w.heap.size, 0, none⟩ = some (.int .i64 (k' : Int)) ∧ W.cell? ⟨w.heap.size, 1, none⟩ = some (.int .i64 (e' : Int)) ∧ W.cell? ⟨w.heap.size, 2, none⟩ = some (.int .i64 (a' : Int)) ∧ W.cell? ⟨w.heap.size, 3, none⟩ = some (.slice ao nd cap)) := Lib.hid fun W hb => by
      obtain ⟨x0, x1, x2, x3, _⟩ := four_cells9 ((hb.block _ (Array.getElem?_eq_some_iff.1 hx6).1).trans hx6)
      exact ⟨⟨x0, x1, x2, x3⟩, HX.out W (HC6.out.trans (hb.mono HC6.out.size))⟩
    have HDOC1 : Hid (∀ W, Below W6.heap.size W6 W → Calls Tryz.prog 9 #[.agg #[.int .i64 (k' : Int), .int .i64 (e' : Int), .int .i64 (a' : Int), .slice ao5 nd cap5]] W fun r w' => r = .returned (.agg #[.int .i64 (k' : Int), .int .i64 (e' : Int), .int .i64 (a' : Int), .string s]) ∧ Below W.heap.size W w') := Lib.hid fun W hb => by
      rw [HS.out]
      exact rdoc_any (k' : Int) (e' : Int) (a' : Int) _ d' W (HRD6.out.new hb)
    have HDOC2 : Hid (∀ W, Below W6.heap.size W6 W → Calls Tryz.prog 9 #[.agg #[.int .i64 (k' : Int), .int .i64 (e' : Int), .int .i64 (a' : Int), .slice ao nd cap]] W fun r w' => r = .returned (.agg #[.int .i64 (k' : Int), .int .i64 (e' : Int), .int .i64 (a' : Int), .string s]) ∧ Below W.heap.size W w') := Lib.hid fun W hb => by
      rw [HS.out]
      exact rdoc_any (k' : Int) (e' : Int) (a' : Int) _ d' W (HD.out W (HC6.out.trans (hb.mono HC6.out.size)))
    have HNEQ := fun W => neq_actB (k' : Int) (e' : Int) (a' : Int) s W
    obtain ⟨⟨x0, x1, x2, x3⟩, y0, y1, y2, y3⟩ := HXX.out W6 (Below.refl _ _)
    rw [HW6.out] at x0 x1 x2 x3 y0 y1 y2 y3
    rw [HQ.out] at x0 x1 x2 x3
    clear htake ho5 hb5 hb6 hx6 hc6 hq hW6 hs
    go_upto_region 8 with fail
    rw [← HW6.out, ← HQ.out]
    clear x0 x1 x2 x3 y0 y1 y2 y3
    obtain ⟨⟨x0, x1, x2, x3⟩, y0, y1, y2, y3⟩ := HXX.out W6 (Below.refl _ _)
    have HSELF : Hid (Below W6.heap.size W6 W6) := Lib.hid (Below.refl _ _)
    go_cut [59] from 51 (fun bv wx => bv = .bool false ∧ Below W6.heap.size W6 wx)
    case first =>
      go_region_held3 (fun w' => (w'.cell? ⟨q, 0, none⟩ = some (.int .i64 (k' : Int)) ∧ w'.cell? ⟨q, 1, none⟩ = some (.int .i64 (e' : Int)) ∧ w'.cell? ⟨q, 2, none⟩ = some (.int .i64 (a' : Int)) ∧ w'.cell? ⟨q, 3, none⟩ = some (.slice ao5 nd cap5)) ∧
          w'.cell? ⟨w.heap.size, 0, none⟩ = some (.int .i64 (k' : Int)) ∧ w'.cell? ⟨w.heap.size, 1, none⟩ = some (.int .i64 (e' : Int)) ∧ w'.cell? ⟨w.heap.size, 2, none⟩ = some (.int .i64 (a' : Int)) ∧ w'.cell? ⟨w.heap.size, 3, none⟩ = some (.slice ao nd cap)) (go_keep) (first
        | (go_at_call 9
           with_reducible refine (HDOC1.out _ ?hbd).mono ?_
           case hbd => first | exact HSELF.out | exact HP7.out | exact ⟨rfl, rfl, rfl, Nat.le_refl _, fun _ _ => rfl⟩ | exact ⟨HP7.out.os, HP7.out.tape, HP7.out.output, HP7.out.size, HP7.out.block⟩
           rintro r w7 ⟨rfl, hb7⟩
           have HP7 : Hid (Below W6.heap.size W6 w7) := Lib.hid (by first | exact hb7 | exact HP7.out.trans (hb7.mono HP7.out.size) | exact ⟨hb7.os, hb7.tape, hb7.output, hb7.size, hb7.block⟩)
           obtain ⟨⟨x0, x1, x2, x3⟩, y0, y1, y2, y3⟩ := HXX.out w7 HP7.out
           clear hb7)
        | (go_at_call 9
           with_reducible refine (HDOC2.out _ ?hbe).mono ?_
           case hbe => first | exact HP7.out | exact HSELF.out | exact ⟨rfl, rfl, rfl, Nat.le_refl _, fun _ _ => rfl⟩ | exact ⟨HP7.out.os, HP7.out.tape, HP7.out.output, HP7.out.size, HP7.out.block⟩
           rintro r w8 ⟨rfl, hb8⟩
           have HP7 : Hid (Below W6.heap.size W6 w8) := Lib.hid (by first | exact HP7.out.trans (hb8.mono HP7.out.size) | exact hb8 | exact ⟨hb8.os, hb8.tape, hb8.output, hb8.size, hb8.block⟩)
           obtain ⟨⟨x0, x1, x2, x3⟩, y0, y1, y2, y3⟩ := HXX.out w8 HP7.out
           clear hb8))
      all_goals
        go_wp2
        go_meet
        case rel => exact ⟨rfl, HP7.out⟩
    case rest =>
      obtain ⟨rfl, hbw⟩ := hcut
      have HC : Hid (Below W1.heap.size W1 wc) := Lib.hid (HC6.out.trans (hbw.mono HC6.out.size))
      clear hbw x0 x1 x2 x3 y0 y1 y2 y3
      have HEW := Lib.hid (HEN.out wc HC.out)
      have hof := uof_any HEW.out HL8.out (by have := HL60.out; omega) 7 0
      have HOF := Lib.hid hof
      clear hof
      go_wp2_with fail
      refine HOF.out.mono ?_
      rintro r w10 ⟨hb10, hcase⟩
      have HC10 : Hid (Below W1.heap.size W1 w10) := Lib.hid (HC.out.trans (hb10.mono HC.out.size))
      have HC := HC10
      clear hb10 HOF HEW
      rcases hcase with ⟨hz, rfl⟩ | ⟨_, u, m, B, rfl, hun, _, _, _⟩
      · rw [errV_pos hz]
        clear hz
        have HTK3 := Lib.hid (rtake_any _ b w10 (HRB.out w10 HC.out) HB8.out (Nat.le_trans HB3K.out (by decide)))
        go_wp2_with fail
        refine HTK3.out.mono ?_
        rintro r w20 ⟨k2, e2, a2, v20, d2, c20, rfl, htake, ho20, hb20⟩
        obtain ⟨ao20, cap20, rfl, _, _, _⟩ := ho20.reads.val
        obtain ⟨n20, hn20⟩ : ∃ n, n = d2.length := ⟨_, rfl⟩
        rw [← hn20] at ho20 ⊢
        obtain ⟨W21, hW21⟩ : ∃ W, W = w20.alloc (.cells #[.int .i64 (k2 : Int), .int .i64 (e2 : Int), .int .i64 (a2 : Int), .slice ao20 n20 cap20] 25) := ⟨_, rfl⟩
        have hb21 : Below w20.heap.size w20 W21 := by rw [hW21]; exact (Below.refl _ _).alloc (Nat.le_refl _) _
        have hx21 : W21.heap[w20.heap.size]? = some (.cells #[.int .i64 (k2 : Int), .int .i64 (e2 : Int), .int .i64 (a2 : Int), .slice ao20 n20 cap20] 25 (0, 0)) := by rw [hW21]; exact heap_alloc_new _ _
        have HC21 : Hid (Below W1.heap.size W1 W21) := Lib.hid (HC.out.trans ((hb20.trans (hb21.mono hb20.size)).mono HC.out.size))
        have HRD21 := Lib.hid (ho20.reads.new hb21)
        have HW21 := Lib.hid hW21
        have HN20 := Lib.hid hn20
        obtain ⟨x0, x1, x2, x3, _⟩ := four_cells9 hx21
        rw [hW21] at x0 x1 x2 x3
        have HC := HC21
        by_cases hz : c20 = 0
        rotate_left
        · rw [errV_pos hz]
          clear htake ho20 hb20 hn20 hW21 hb21 hx21 hz HTK3
          have HTU4 := Lib.hid (takeUnit_any _ b W21 (HRB.out W21 HC.out) HB8.out (Nat.le_trans HB3K.out (by decide)))
          go_wp2_with fail
          rw [← HW21.out]
          clear x0 x1 x2 x3
          refine HTU4.out.mono ?_
          rintro r w30 ⟨hb30, U3, c30, hru, hcase⟩
          have HC30 : Hid (Below W1.heap.size W1 w30) := Lib.hid (HC.out.trans (hb30.mono HC.out.size))
          have HC := HC30
          rcases hcase with ⟨hz, rfl⟩ | ⟨rfl, u3, m3, B3, rfl, hun3, _, _, _⟩
          · rw [errV_pos hz]
            clear hru hb30 hz
            go_wp2
            go_ret
            exact ⟨rfl, HF.out _ HC.out⟩
          · obtain ⟨hbe, hok, hle⟩ := runit_back HB8.out hru
            have HBE := Lib.hid hbe
            have HLE := Lib.hid hle
            have HPT := Lib.hid (putUnit_any hun3)
            clear hru hb30 hun3 hbe hok hle
            go_wp2_with fail
            refine HPT.out.mono ?_
            rintro r w31 ⟨hb31, ⟨_, v31, rfl, ho31⟩ | ⟨hlong, _⟩⟩
            rotate_left
            · exact absurd HLE.out (Nat.not_le.2 hlong)
            rw [← HBE.out] at ho31
            have HC31 : Hid (Below W1.heap.size W1 w31) := Lib.hid (HC.out.trans (hb31.mono HC.out.size))
            have hby := numBytes_any v31 _ b b w31 ho31.reads (HRB.out w31 HC31.out) HB8.out HB8.out
            rw [decide_eq_true rfl] at hby
            have HBY := Lib.hid hby
            obtain ⟨ao31, cap31, hv31, _, _, _⟩ := ho31.reads.val
            subst hv31
            rw [← HNB.out] at HBY
            rw [errV_zero, ← HNB.out]
            clear hb31 ho31 hby HPT
            go_wp2_with fail
            refine HBY.out.mono ?_
            rintro r w31' ⟨rfl, hw⟩
            subst hw
            go_wp2
            go_ret
            exact ⟨rfl, HF.out _ HC31.out⟩
        · subst hz
          obtain ⟨hbe, hrc⟩ := rtake_back htake
          have hbytes : ∀ y ∈ d2, y < 256 := fun y hy => by
            have h1 := htake
            obtain ⟨t9, c9, hfo9, hif9⟩ := h1
            have h2 : y ∈ rtext k2 e2 a2 d2 := by
              obtain ⟨z1, z2, z3, z4, z5, z6, z7, z8, z9, _⟩ := rchk_zero hrc
              by_cases hk2 : (k2 : Int) = 2
              · unfold rtext
                rw [if_pos (show k2 = 2 by omega)]
                simp [hy]
              · have h0 := z9 hk2
                rw [List.length_eq_zero_iff.1 h0] at hy
                cases hy
            have h3 : y ∈ fr (rtext k2 e2 a2 d2) := by
              unfold fr fbody
              simp [h2]
            rw [← hbe] at h3
            exact HB8.out y h3
          have hpu := rput_any (k2 : Int) (e2 : Int) (a2 : Int) _ d2 W21 (by have := HRD21.out; exact this) hbytes
          rw [hrc] at hpu
          have HPU := Lib.hid hpu
          have HBE := Lib.hid hbe
          rw [errV_zero]
          clear htake ho20 hb20 hn20 hW21 hb21 hx21 hbe hrc hbytes hpu HTK3
          go_wp2_with fail
          rw [← HW21.out]
          clear x0 x1 x2 x3
          refine HPU.out.mono ?_
          rintro r w22 ⟨hb22, ⟨h, _⟩ | ⟨_, v22, rfl, ho22⟩⟩
          · exact absurd rfl h
          rw [Int.toNat_natCast, Int.toNat_natCast, Int.toNat_natCast, ← HBE.out] at ho22
          have HC22 : Hid (Below W1.heap.size W1 w22) := Lib.hid (HC.out.trans (hb22.mono HC.out.size))
          have HC := HC22
          have hby := numBytes_any v22 _ b b w22 ho22.reads (HRB.out w22 HC.out) HB8.out HB8.out
          rw [decide_eq_true rfl] at hby
          have HBY := Lib.hid hby
          obtain ⟨ao22, cap22, hv22, _, _, _⟩ := ho22.reads.val
          subst hv22
          rw [← HNB.out] at HBY ⊢
          clear hb22 ho22 hby HPU
          go_wp2_with fail
          refine HBY.out.mono ?_
          rintro r w22' ⟨rfl, hw⟩
          subst hw
          have HTU4 := Lib.hid (takeUnit_any _ b w22 (HRB.out w22 HC.out) HB8.out (Nat.le_trans HB3K.out (by decide)))
          go_wp2_with fail
          refine HTU4.out.mono ?_
          rintro r w30 ⟨hb30, U3, c30, hru, hcase⟩
          have HC30 : Hid (Below W1.heap.size W1 w30) := Lib.hid (HC.out.trans (hb30.mono HC.out.size))
          have HC := HC30
          rcases hcase with ⟨hz, rfl⟩ | ⟨rfl, u3, m3, B3, rfl, hun3, _, _, _⟩
          · rw [errV_pos hz]
            clear hru hb30 hz
            go_wp2
            go_ret
            exact ⟨rfl, HF.out _ HC.out⟩
          · obtain ⟨hbe, hok, hle⟩ := runit_back HB8.out hru
            have HBE := Lib.hid hbe
            have HLE := Lib.hid hle
            have HPT := Lib.hid (putUnit_any hun3)
            clear hru hb30 hun3 hbe hok hle
            go_wp2_with fail
            refine HPT.out.mono ?_
            rintro r w31 ⟨hb31, ⟨_, v31, rfl, ho31⟩ | ⟨hlong, _⟩⟩
            rotate_left
            · exact absurd HLE.out (Nat.not_le.2 hlong)
            rw [← HBE.out] at ho31
            have HC31 : Hid (Below W1.heap.size W1 w31) := Lib.hid (HC.out.trans (hb31.mono HC.out.size))
            have hby := numBytes_any v31 _ b b w31 ho31.reads (HRB.out w31 HC31.out) HB8.out HB8.out
            rw [decide_eq_true rfl] at hby
            have HBY := Lib.hid hby
            obtain ⟨ao31, cap31, hv31, _, _, _⟩ := ho31.reads.val
            subst hv31
            rw [← HNB.out] at HBY
            rw [errV_zero, ← HNB.out]
            clear hb31 ho31 hby HPT
            go_wp2_with fail
            refine HBY.out.mono ?_
            rintro r w31' ⟨rfl, hw⟩
            subst hw
            go_wp2
            go_ret
            exact ⟨rfl, HF.out _ HC31.out⟩
      · have hok := hun.ok
        have HOK := Lib.hid hok
        have hutl := utext_len hok (show l.length ≤ 1048576 by have := HL60.out; omega)
        have HUTL : Hid ((utext ⟨7, 0, l⟩).length ≤ 65536 ∧ ∀ y ∈ utext ⟨7, 0, l⟩, y < 256) := Lib.hid ⟨by have h1 := hutl.1; have h2 := HL60.out; have h3 : (utext ⟨7, 0, l⟩).length ≤ 30 + 94 * l.length := h1; omega, hutl.2⟩
        have HUN := Lib.hid hun
        have HPT := Lib.hid (putUnit_any hun)
        clear hun hok hutl
        go_wp2_with fail
        refine HPT.out.mono ?_
        rintro r w11 ⟨hb11, ⟨_, v11, rfl, ho11⟩ | ⟨hlong, _⟩⟩
        rotate_left
        · exact absurd HUTL.out.1 (Nat.not_le.2 hlong)
        have HC11 : Hid (Below W1.heap.size W1 w11) := Lib.hid (HC.out.trans (hb11.mono HC.out.size))
        have HUN11 := Lib.hid (HUN.out.old hb11)
        have HTU := Lib.hid (takeUnit_any v11 (fr (utext ⟨7, 0, l⟩)) w11 ho11.reads (fr_byte HUTL.out.2 (u64_of_le (by have := HUTL.out.1; omega))) (Nat.le_trans (fr_len_le HUTL.out.1) (by decide)))
        rw [errV_zero]
        clear hb11 ho11 HPT
        go_wp2_with fail
        refine HTU.out.mono ?_
        rintro r w12 ⟨hb12, U', c12, hru, hcase⟩
        obtain ⟨h1, h2⟩ := runit_same HOK.out HUTL.out.1 (by have := HL60.out; show l.length ≤ 65536; omega) hru
        subst h1 h2
        have HC12 : Hid (Below W1.heap.size W1 w12) := Lib.hid (HC11.out.trans (hb12.mono HC11.out.size))
        have HUN12 := Lib.hid (HUN11.out.old hb12)
        rcases hcase with ⟨h, _⟩ | ⟨_, u2, m2, B2, rfl, hun2, _, _, _⟩
        · exact absurd rfl h
        have hsm := usame_any hun2 HUN12.out
        rw [sameUS_self] at hsm
        have HSM := Lib.hid hsm
        clear hru hb12 hun2 hsm HTU
        go_wp2_with fail
        refine HSM.out.mono ?_
        rintro r w13 ⟨rfl, hb13⟩
        have HC13 : Hid (Below W1.heap.size W1 w13) := Lib.hid (HC12.out.trans (hb13.mono HC12.out.size))
        have HC := HC13
        clear hb13 HSM
        have HTK3 := Lib.hid (rtake_any _ b w13 (HRB.out w13 HC.out) HB8.out (Nat.le_trans HB3K.out (by decide)))
        go_wp2_with fail
        refine HTK3.out.mono ?_
        rintro r w20 ⟨k2, e2, a2, v20, d2, c20, rfl, htake, ho20, hb20⟩
        obtain ⟨ao20, cap20, rfl, _, _, _⟩ := ho20.reads.val
        obtain ⟨n20, hn20⟩ : ∃ n, n = d2.length := ⟨_, rfl⟩
        rw [← hn20] at ho20 ⊢
        obtain ⟨W21, hW21⟩ : ∃ W, W = w20.alloc (.cells #[.int .i64 (k2 : Int), .int .i64 (e2 : Int), .int .i64 (a2 : Int), .slice ao20 n20 cap20] 25) := ⟨_, rfl⟩
        have hb21 : Below w20.heap.size w20 W21 := by rw [hW21]; exact (Below.refl _ _).alloc (Nat.le_refl _) _
        have hx21 : W21.heap[w20.heap.size]? = some (.cells #[.int .i64 (k2 : Int), .int .i64 (e2 : Int), .int .i64 (a2 : Int), .slice ao20 n20 cap20] 25 (0, 0)) := by rw [hW21]; exact heap_alloc_new _ _
        have HC21 : Hid (Below W1.heap.size W1 W21) := Lib.hid (HC.out.trans ((hb20.trans (hb21.mono hb20.size)).mono HC.out.size))
        have HRD21 := Lib.hid (ho20.reads.new hb21)
        have HW21 := Lib.hid hW21
        have HN20 := Lib.hid hn20
        obtain ⟨x0, x1, x2, x3, _⟩ := four_cells9 hx21
        rw [hW21] at x0 x1 x2 x3
        have HC := HC21
        by_cases hz : c20 = 0
        rotate_left
        · rw [errV_pos hz]
          clear htake ho20 hb20 hn20 hW21 hb21 hx21 hz HTK3
          have HTU4 := Lib.hid (takeUnit_any _ b W21 (HRB.out W21 HC.out) HB8.out (Nat.le_trans HB3K.out (by decide)))
          go_wp2_with fail
          rw [← HW21.out]
          clear x0 x1 x2 x3
          refine HTU4.out.mono ?_
          rintro r w30 ⟨hb30, U3, c30, hru, hcase⟩
          have HC30 : Hid (Below W1.heap.size W1 w30) := Lib.hid (HC.out.trans (hb30.mono HC.out.size))
          have HC := HC30
          rcases hcase with ⟨hz, rfl⟩ | ⟨rfl, u3, m3, B3, rfl, hun3, _, _, _⟩
          · rw [errV_pos hz]
            clear hru hb30 hz
            go_wp2
            go_ret
            exact ⟨rfl, HF.out _ HC.out⟩
          · obtain ⟨hbe, hok, hle⟩ := runit_back HB8.out hru
            have HBE := Lib.hid hbe
            have HLE := Lib.hid hle
            have HPT := Lib.hid (putUnit_any hun3)
            clear hru hb30 hun3 hbe hok hle
            go_wp2_with fail
            refine HPT.out.mono ?_
            rintro r w31 ⟨hb31, ⟨_, v31, rfl, ho31⟩ | ⟨hlong, _⟩⟩
            rotate_left
            · exact absurd HLE.out (Nat.not_le.2 hlong)
            rw [← HBE.out] at ho31
            have HC31 : Hid (Below W1.heap.size W1 w31) := Lib.hid (HC.out.trans (hb31.mono HC.out.size))
            have hby := numBytes_any v31 _ b b w31 ho31.reads (HRB.out w31 HC31.out) HB8.out HB8.out
            rw [decide_eq_true rfl] at hby
            have HBY := Lib.hid hby
            obtain ⟨ao31, cap31, hv31, _, _, _⟩ := ho31.reads.val
            subst hv31
            rw [← HNB.out] at HBY
            rw [errV_zero, ← HNB.out]
            clear hb31 ho31 hby HPT
            go_wp2_with fail
            refine HBY.out.mono ?_
            rintro r w31' ⟨rfl, hw⟩
            subst hw
            go_wp2
            go_ret
            exact ⟨rfl, HF.out _ HC31.out⟩
        · subst hz
          obtain ⟨hbe, hrc⟩ := rtake_back htake
          have hbytes : ∀ y ∈ d2, y < 256 := fun y hy => by
            have h1 := htake
            obtain ⟨t9, c9, hfo9, hif9⟩ := h1
            have h2 : y ∈ rtext k2 e2 a2 d2 := by
              obtain ⟨z1, z2, z3, z4, z5, z6, z7, z8, z9, _⟩ := rchk_zero hrc
              by_cases hk2 : (k2 : Int) = 2
              · unfold rtext
                rw [if_pos (show k2 = 2 by omega)]
                simp [hy]
              · have h0 := z9 hk2
                rw [List.length_eq_zero_iff.1 h0] at hy
                cases hy
            have h3 : y ∈ fr (rtext k2 e2 a2 d2) := by
              unfold fr fbody
              simp [h2]
            rw [← hbe] at h3
            exact HB8.out y h3
          have hpu := rput_any (k2 : Int) (e2 : Int) (a2 : Int) _ d2 W21 (by have := HRD21.out; exact this) hbytes
          rw [hrc] at hpu
          have HPU := Lib.hid hpu
          have HBE := Lib.hid hbe
          rw [errV_zero]
          clear htake ho20 hb20 hn20 hW21 hb21 hx21 hbe hrc hbytes hpu HTK3
          go_wp2_with fail
          rw [← HW21.out]
          clear x0 x1 x2 x3
          refine HPU.out.mono ?_
          rintro r w22 ⟨hb22, ⟨h, _⟩ | ⟨_, v22, rfl, ho22⟩⟩
          · exact absurd rfl h
          rw [Int.toNat_natCast, Int.toNat_natCast, Int.toNat_natCast, ← HBE.out] at ho22
          have HC22 : Hid (Below W1.heap.size W1 w22) := Lib.hid (HC.out.trans (hb22.mono HC.out.size))
          have HC := HC22
          have hby := numBytes_any v22 _ b b w22 ho22.reads (HRB.out w22 HC.out) HB8.out HB8.out
          rw [decide_eq_true rfl] at hby
          have HBY := Lib.hid hby
          obtain ⟨ao22, cap22, hv22, _, _, _⟩ := ho22.reads.val
          subst hv22
          rw [← HNB.out] at HBY ⊢
          clear hb22 ho22 hby HPU
          go_wp2_with fail
          refine HBY.out.mono ?_
          rintro r w22' ⟨rfl, hw⟩
          subst hw
          have HTU4 := Lib.hid (takeUnit_any _ b w22 (HRB.out w22 HC.out) HB8.out (Nat.le_trans HB3K.out (by decide)))
          go_wp2_with fail
          refine HTU4.out.mono ?_
          rintro r w30 ⟨hb30, U3, c30, hru, hcase⟩
          have HC30 : Hid (Below W1.heap.size W1 w30) := Lib.hid (HC.out.trans (hb30.mono HC.out.size))
          have HC := HC30
          rcases hcase with ⟨hz, rfl⟩ | ⟨rfl, u3, m3, B3, rfl, hun3, _, _, _⟩
          · rw [errV_pos hz]
            clear hru hb30 hz
            go_wp2
            go_ret
            exact ⟨rfl, HF.out _ HC.out⟩
          · obtain ⟨hbe, hok, hle⟩ := runit_back HB8.out hru
            have HBE := Lib.hid hbe
            have HLE := Lib.hid hle
            have HPT := Lib.hid (putUnit_any hun3)
            clear hru hb30 hun3 hbe hok hle
            go_wp2_with fail
            refine HPT.out.mono ?_
            rintro r w31 ⟨hb31, ⟨_, v31, rfl, ho31⟩ | ⟨hlong, _⟩⟩
            rotate_left
            · exact absurd HLE.out (Nat.not_le.2 hlong)
            rw [← HBE.out] at ho31
            have HC31 : Hid (Below W1.heap.size W1 w31) := Lib.hid (HC.out.trans (hb31.mono HC.out.size))
            have hby := numBytes_any v31 _ b b w31 ho31.reads (HRB.out w31 HC31.out) HB8.out HB8.out
            rw [decide_eq_true rfl] at hby
            have HBY := Lib.hid hby
            obtain ⟨ao31, cap31, hv31, _, _, _⟩ := ho31.reads.val
            subst hv31
            rw [← HNB.out] at HBY
            rw [errV_zero, ← HNB.out]
            clear hb31 ho31 hby HPT
            go_wp2_with fail
            refine HBY.out.mono ?_
            rintro r w31' ⟨rfl, hw⟩
            subst hw
            go_wp2
            go_ret
            exact ⟨rfl, HF.out _ HC31.out⟩
end Go.Proofs.YtiaijpknnomlnaaGreat
