/- The document's own manifests: Check. -/
import Derived.Test.YtpebmmhokigglaaMfB
namespace Go.Proofs.Ytpebmmhokigglaa
open Go.RowKit

theorem Try.sizePTD : (Try.prog.info? 72).map (·.size) = some 35 := by kernel_rfl
theorem Try.sizeMFD : (Try.prog.info? 36).map (·.size) = some 37 := by kernel_rfl
theorem Try.sizeDGD : (Try.prog.info? 33).map (·.size) = some 32 := by kernel_rfl
theorem eq_digestsD (a b : List Nat) (ha : a.length = 32) (hb : b.length = 32) (w : World) : (Op.equalIn 10000 33 (.agg (vals .u8 a).toArray) (.agg (vals .u8 b).toArray)).run Try.prog w = .ok (a == b) w :=
  equalIn_nums (k := .u8) Try.underlying33 Try.underlying5 (fun w => by kernel_rfl) a b ha hb w

set_option maxHeartbeats 8000000 in
set_option maxRecDepth 100000 in
theorem rmcheck_any (m : MF) (v : Value) (w : World) (B : Nat → Prop) (h : PsAt w B v m.ps) (hd : Dg m.prev) :
    Calls Try.prog 27 #[.agg (mfRow m v).toArray] w fun e w' => e = .returned (.int .i64 (mchk m : Int)) ∧ Below w.heap.size w w' := by
  obtain ⟨ao, cap, rfl, l1, m1, _⟩ := h.val
  obtain ⟨n, hn⟩ : ∃ n, n = m.ps.length := ⟨_, rfl⟩
  rw [← hn] at h ⊢
  obtain ⟨W1, hW1⟩ : ∃ W1, W1 = w.alloc (.cells (mfRow m (.slice ao n cap)).toArray 36) := ⟨_, rfl⟩
  have hb1 : Below w.heap.size w W1 := by rw [hW1]; exact (Below.refl _ _).alloc (Nat.le_refl _) _
  have hx1 : MB W1 w.heap.size m (.slice ao n cap) 36 := by rw [hW1]; exact mb_new _ _ _ _
  obtain ⟨W2, hW2⟩ : ∃ W, W = W1.alloc (.cells #[.int .i64 m.fro, .int .i64 m.upto, .int .i64 m.trim] 3) := ⟨_, rfl⟩
  have hb2 : Below W1.heap.size W1 W2 := by rw [hW2]; exact (Below.refl _ _).alloc (Nat.le_refl _) _
  have hs1 : W1.heap.size = w.heap.size + 1 := by rw [hW1]; simp
  have HCE : Hid (∀ k, k < 3 → W2.cell? ⟨w.heap.size + 1, k, none⟩ = some (.int .i64 ([m.fro, m.upto, m.trim].getD k 0))) := Lib.hid fun k hk => by
    rw [hW2, ← hs1]
    match k, hk with
    | 0, _ => rw [World.cell?_alloc_at _ _ _ _ rfl]; rfl
    | 1, _ => rw [World.cell?_alloc_at _ _ _ _ rfl]; rfl
    | 2, _ => rw [World.cell?_alloc_at _ _ _ _ rfl]; rfl
  have hbw : Below w.heap.size w W2 := hb1.trans (hb2.mono hb1.size)
  have hx2 := hx1.old hb2
  have HB2 := Lib.hid hbw
  have HR := Lib.hid ((h.old hb1).old hb2)
  have HD := Lib.hid hd
  have HN := Lib.hid hn
  have HX2 := Lib.hid hx2
  obtain ⟨z, hz⟩ : ∃ z, z = mchk m := ⟨_, rfl⟩
  rw [← hz]
  have HZ := Lib.hid hz
  obtain ⟨x0, x1, x2, x3, x36⟩ := hx1.x hd
  have HXM : Hid (∀ W, Below W2.heap.size W2 W → (W.cell? ⟨w.heap.size, 0, none⟩ = some (.int .i64 m.num) ∧ W.cell? ⟨w.heap.size, 1, none⟩ = some (.int .i64 m.fro)) ∧ W.cell? ⟨w.heap.size, 2, none⟩ = some (.int .i64 m.upto) ∧ W.cell? ⟨w.heap.size, 36, none⟩ = some (.slice ao n cap)) := Lib.hid fun W hb => by
    obtain ⟨a, b, c, _, d⟩ := (HX2.out.old hb).x HD.out
    exact ⟨⟨a, b⟩, c, d⟩
  have HPV : Hid (∀ j u, (vals .u8 m.prev)[j]? = some u → W2.cell? ⟨w.heap.size, 4 + j, none⟩ = some u) := Lib.hid hx2.prev
  have HDS : Hid ((Try.prog.info? 33).map (·.size) = some (vals .u8 m.prev).length) := Lib.hid (by rw [vals_length, hd.1]; exact Try.sizeDGD)
  have heq := fun w => eq_digestsD m.prev zero32 hd.1 (by simp [zero32]) w
  rw [zero_valsM] at heq
  obtain ⟨zb, hzb⟩ : ∃ b, b = (m.prev == zero32) := ⟨_, rfl⟩
  rw [← hzb] at heq
  have HZB := Lib.hid hzb
  obtain ⟨A, hA⟩ : ∃ A, A = (mfRow m (.slice ao n cap)).toArray := ⟨_, rfl⟩
  rw [← hA] at hW1 ⊢
  rw [hW1] at x0 x1 x2 x3 x36
  have HW1 := Lib.hid hW1
  have HW2 := Lib.hid hW2
  have HS1 := Lib.hid hs1
  clear hA hb1 hb2 hx1 hx2 hbw h l1 m1 hd hz hW1 hW2 hn hzb hs1
  go_enter Try.func27, Try.ntmps27
  go_wp2
  rw [← HW1.out, ← HW2.out]
  clear x0 x1 x2 x3 x36
  go_loopw [4, 16] (fun _ iv wr => ∃ k : Nat, k ≤ 3 ∧ iv = .int .i64 (k : Int) ∧ (∀ j, j < k → ¬ outM ([m.fro, m.upto, m.trim].getD j 0)) ∧ wr = W2)
    (fun _ iv _ => 3 - (intOf iv).toNat)
  case atStart => exact ⟨0, by omega, rfl, fun j hj => absurd hj (Nat.not_lt_zero j), rfl⟩
  case round =>
    obtain ⟨k, hk, rfl, hno, rfl⟩ := hrel
    have HNO := Lib.hid hno
    by_cases hlt : k < 3
    · have hc := HCE.out k hlt
      have hki : (k : Int) < 3 := by omega
      have HKL : Hid (k + 1 ≤ 3) := Lib.hid hlt
      have HIN : Hid ([m.fro, m.upto, m.trim].getD k 0 = m.fro ∨ [m.fro, m.upto, m.trim].getD k 0 = m.upto ∨ [m.fro, m.upto, m.trim].getD k 0 = m.trim) := Lib.hid (by
        match k, hlt with
        | 0, _ => exact .inl rfl
        | 1, _ => exact .inr (.inl rfl)
        | 2, _ => exact .inr (.inr rfl))
      obtain ⟨x, hx⟩ : ∃ x, x = [m.fro, m.upto, m.trim].getD k 0 := ⟨_, rfl⟩
      rw [← hx] at hc HIN
      have HXX := Lib.hid hx
      clear hno hx
      have HBAD : Hid (outM x → (z : Int) = 1) := Lib.hid fun ho => by
        rw [HZ.out]; unfold mchk
        rw [if_pos (by
          rcases HIN.out with rfl | rfl | rfl
          · exact .inr (.inl ho)
          · exact .inr (.inr (.inl ho))
          · exact .inr (.inr (.inr ho)))]
        rfl
      by_cases g1 : x < 0
      · have HE := Lib.hid (HBAD.out (.inl g1))
        go_wp2
        go_ret
        exact ⟨by rw [HE.out]; rfl, HB2.out⟩
      by_cases g2 : x > 1048576
      · have HE := Lib.hid (HBAD.out (.inr g2))
        go_wp2
        go_ret
        exact ⟨by rw [HE.out]; rfl, HB2.out⟩
      have HOK : Hid (¬ outM x) := Lib.hid (by unfold outM; omega)
      go_wp2
      go_roundw
      case rel =>
        refine ⟨k + 1, HKL.out, by go_num, fun j hj => ?_, by first | rfl | trivial⟩
        by_cases hjk : j < k
        · exact HNO.out j hjk
        · obtain rfl : j = k := by omega
          rw [← HXX.out]; exact HOK.out
      case measure => have := HKL.out; simp [intOf]; omega
    · obtain rfl : k = 3 := by omega
      have HMK : Hid (¬ (outM m.fro ∨ outM m.upto ∨ outM m.trim)) := Lib.hid (by
        rintro (h | h | h)
        · exact HNO.out 0 (by decide) h
        · exact HNO.out 1 (by decide) h
        · exact HNO.out 2 (by decide) h)
      obtain ⟨⟨x0, x1⟩, x2, x36⟩ := HXM.out wr (Below.refl _ _)
      clear hno
      by_cases g1 : m.num < 0
      · have HE : Hid ((z : Int) = 1) := Lib.hid (by rw [HZ.out]; unfold mchk; rw [if_pos (.inl (.inl g1))]; rfl)
        go_wp2
        go_ret
        exact ⟨by rw [HE.out]; rfl, HB2.out⟩
      by_cases g2 : m.num > 999999
      · have HE : Hid ((z : Int) = 1) := Lib.hid (by rw [HZ.out]; unfold mchk; rw [if_pos (.inl (.inr g2))]; rfl)
        go_wp2
        go_ret
        exact ⟨by rw [HE.out]; rfl, HB2.out⟩
      have HNR : Hid (¬ ((m.num < 0 ∨ 999999 < m.num) ∨ outM m.fro ∨ outM m.upto ∨ outM m.trim)) := Lib.hid (by
        rintro (h | h)
        · omega
        · exact HMK.out h)
      have HF0 : Hid (0 ≤ m.fro ∧ m.fro ≤ 1048576) := Lib.hid (by have := HMK.out; unfold outM at this; omega)
      by_cases g3 : m.fro > m.upto
      · have HE : Hid ((z : Int) = 2) := Lib.hid (by rw [HZ.out]; unfold mchk; rw [if_neg HNR.out, if_pos (.inl g3)]; rfl)
        go_wp2
        go_ret
        exact ⟨by rw [HE.out]; rfl, HB2.out⟩
      by_cases g4 : m.num = 0 ∧ zb = false
      · obtain ⟨g4, rfl⟩ := g4
        have HE : Hid ((z : Int) = 2) := Lib.hid (by
          rw [HZ.out]; unfold mchk
          rw [if_neg HNR.out, if_pos (.inr ⟨g4, by have := HZB.out; intro e; rw [e] at this; simp at this⟩)]
          rfl)
        have g4b : (m.num == 0) = true := by simp [g4]
        clear g4
        go_wp2_with ((with_reducible show wpList _ _ _ (Oper.mk (some 46) _ _ _ _ _ :: _) _ _); go_must (refine wpList_load_atG (by first | rfl | simp [Region.wanted, yielded, g4b]) 33 (.tmp 45) rfl w.heap.size 4 rfl (vals .u8 m.prev) _ HPV.out Try.underlying33 rfl HDS.out ?_))
        go_ret
        exact ⟨by rw [HE.out]; rfl, HB2.out⟩
      have HZQ : Hid (z = if 1024 < n then 3 else partsC m.upto m.fro m.ps) := Lib.hid (by
        rw [HZ.out]; unfold mchk
        rw [if_neg HNR.out, if_neg (by
          rintro (h | ⟨h1, h2⟩)
          · exact g3 h
          · refine g4 ⟨h1, ?_⟩
            rw [HZB.out]
            exact beq_eq_false_iff_ne.2 h2), ← HN.out])
      have HG4 : Hid (m.num = 0 → zb = true) := Lib.hid fun h => by
        cases zb
        · exact absurd ⟨h, rfl⟩ g4
        · rfl
      have HG3 : Hid (decide (m.upto < m.fro) = false) := Lib.hid (decide_eq_false g3)
      clear g4
      go_upto_region 9 with fail
      go_cut [50] from 35 to 51 (fun ov wx => ov = .bool false ∧ wx = wr)
      case first =>
        by_cases g5 : m.num = 0
        · have g5b : (m.num == 0) = true := by simp [g5]
          have hzt := HG4.out g5
          rw [hzt] at heq
          clear hzt g5
          go_wp2_with ((with_reducible show wpList _ _ _ (Oper.mk (some 46) _ _ _ _ _ :: _) _ _); go_must (refine wpList_load_atG (by first | rfl | simp [Region.wanted, yielded, g5b]) 33 (.tmp 45) rfl w.heap.size 4 rfl (vals .u8 m.prev) _ HPV.out Try.underlying33 rfl HDS.out ?_))
          go_meet
          case rel => exact ⟨by first | rfl | rw [HG3.out], by first | rfl | trivial⟩
        · have g5b : (m.num == 0) = false := by simp [g5]
          clear g5
          go_wp2
          go_meet
          case rel => exact ⟨by first | rfl | rw [HG3.out], by first | rfl | trivial⟩
      case rest =>
        obtain ⟨rfl, rfl⟩ := hcut
        by_cases g6 : (n : Int) > 1024
        · have HE : Hid ((z : Int) = 3) := Lib.hid (by rw [HZQ.out, if_pos (by omega)]; rfl)
          go_wp2
          go_ret
          exact ⟨by rw [HE.out]; rfl, HB2.out⟩
        have HEQ : Hid (z = partsC m.upto m.fro m.ps) := Lib.hid (by rw [HZQ.out, if_neg (by omega)])
        have HN4 : Hid (n ≤ 1024) := Lib.hid (by omega)
        have HCK : Hid (CkS m 0 m.fro) := Lib.hid ⟨Nat.zero_le _, rfl, HF0.out.1, by have := HF0.out.2; omega⟩
        go_wp2
        clear x0 x1 x2 x36
        go_loopw [5, 7, 60] (fun xv _ iv wr => ∃ (k : Nat) (x : Int), iv = .int .i64 (k : Int) ∧ xv = .int .i64 x ∧ CkS m k x ∧ Below wc.heap.size wc wr)
          (fun _ _ iv _ => n - (intOf iv).toNat)
        case atStart => exact ⟨0, m.fro, rfl, rfl, HCK.out, Below.refl _ _⟩
        case round =>
          obtain ⟨k, x, rfl, rfl, hck, hb⟩ := hrel
          have HB := Lib.hid hb
          by_cases hlt : k < n
          · have hltp : k < m.ps.length := by rw [← HN.out]; exact hlt
            obtain ⟨b, off, rfl, _, _, hdg, hcell⟩ := (HR.out.old hb).at hltp
            have HCN := Lib.hid (hck.next hltp)
            have HCB := Lib.hid (hck.bad hltp)
            have h1 := hck.lo
            have h2 := hck.hi
            generalize m.ps.getD k (0, 0, 0, []) = p at hdg hcell HCN HCB
            have HLEN : Hid ((Try.prog.info? 72).map (·.size) = some (ptRow p).length) := Lib.hid (by rw [ptRow_len hdg]; exact Try.sizePTD)
            have HSZ : Hid ((Try.prog.info? 72).map (·.size) = some (ptRow p).toArray.size) := Lib.hid (by rw [ptRow_size hdg]; exact Try.sizePTD)
            have HCELL := Lib.hid hcell
            have HALL := Lib.hid (all_one (ptRow_one p))
            have HS35 := Lib.hid (ptRow_size hdg)
            have hlti : (k : Int) < (n : Int) := by omega
            have HXB : Hid (0 ≤ x ∧ x ≤ 2000000) := Lib.hid (by have := HN4.out; omega)
            have HKL : Hid (k + 1 ≤ n) := Lib.hid hlt
            clear hb hck hdg hcell h1 h2
            go_wp2_with (first
              | ((with_reducible show wpList _ _ _ (Oper.mk (some 63) _ _ _ _ _ :: _) _ _); go_must (refine wpList_load_at rfl 72 (.tmp 62) rfl b (off + k * 35) rfl (ptRow p) _ HCELL.out Try.underlying72 rfl HLEN.out ?_))
              | ((with_reducible show wpList _ _ _ (Oper.mk none _ _ _ _ _ :: _) _ _); go_must (refine wpList_store_new rfl 72 (.tmp 7) (.tmp 63) rfl wr _ (ptRow p).toArray rfl rfl _ HSZ.out (by rw [HS35.out]; rfl) HALL.out ?_)))
            intro W3 hp3 hb3 hs3
            have hp3 : PB W3 wr.heap.size p 72 := hp3
            have HB3 : Hid (Below wc.heap.size wc W3) := Lib.hid (HB.out.trans (hb3.mono HB.out.size))
            have HBF : Hid (Below w.heap.size w W3) := Lib.hid (HB2.out.trans (HB3.out.mono HB2.out.size))
            obtain ⟨y0, y1, y2⟩ := hp3.x
            clear hp3 hb3 hs3
            obtain ⟨f, mm, ss, sum⟩ := p
            simp only at y0 y1 y2
            have HP1 : Hid ((mm < 1 ∨ 64 < mm ∨ ss < 1 ∨ 65536 < ss) → (z : Int) = 1) := Lib.hid fun hc => by
              have h1 : partC x (f, mm, ss, sum) = 1 := by unfold partC; rw [if_pos hc]
              rw [HEQ.out, HCB.out (by rw [h1]; decide), h1]; rfl
            by_cases k1 : mm < 1
            · have HE := Lib.hid (HP1.out (.inl k1))
              go_wp2
              go_ret
              exact ⟨by rw [HE.out]; rfl, HBF.out⟩
            by_cases k2 : mm > 64
            · have HE := Lib.hid (HP1.out (.inr (.inl k2)))
              go_wp2
              go_ret
              exact ⟨by rw [HE.out]; rfl, HBF.out⟩
            by_cases k3 : ss < 1
            · have HE := Lib.hid (HP1.out (.inr (.inr (.inl k3))))
              go_wp2
              go_ret
              exact ⟨by rw [HE.out]; rfl, HBF.out⟩
            by_cases k4 : ss > 65536
            · have HE := Lib.hid (HP1.out (.inr (.inr (.inr k4))))
              go_wp2
              go_ret
              exact ⟨by rw [HE.out]; rfl, HBF.out⟩
            by_cases k5 : f = x
            rotate_left
            · have HE : Hid ((z : Int) = 2) := Lib.hid (by
                have h1 : partC x (f, mm, ss, sum) = 2 := by unfold partC; rw [if_neg (by simp only; omega), if_pos k5]
                rw [HEQ.out, HCB.out (by rw [h1]; decide), h1]; rfl)
              have hfx : (f == x) = false := by simp [k5]
              clear k5
              go_wp2
              go_ret
              exact ⟨by rw [HE.out]; rfl, HBF.out⟩
            have HNX := Lib.hid (HCN.out (partC_good ⟨by simp only; omega, by simp only; omega, by simp only; omega, by simp only; omega, k5⟩))
            subst k5
            have hwr : wrap64 (f + mm) = f + mm := by
              have := HXB.out
              exact IntWalk.wrap64_in _ (by omega)
            have HH := Lib.hid hwr
            go_wp2
            go_roundw
            case rel => exact ⟨k + 1, _, by go_num, by first | rfl | rw [HH.out], HNX.out, HB3.out⟩
            case measure => have := HKL.out; simp [intOf]; omega
          · obtain rfl : k = n := by have := hck.kle; have := HN.out; omega
            have hck2 : CkS m m.ps.length x := by rw [HN.out] at hck; exact hck
            have HF := Lib.hid hck2.fin
            obtain ⟨_, y2, _⟩ := HXM.out wr hb
            clear hck hck2 hb
            have HBF : Hid (Below w.heap.size w wr) := Lib.hid (HB2.out.trans (HB.out.mono HB2.out.size))
            by_cases hu : x = m.upto
            · have HE : Hid ((z : Int) = 0) := Lib.hid (by rw [HEQ.out, HF.out, if_pos hu]; rfl)
              have hub : (x == m.upto) = true := by simp [hu]
              clear hu
              go_wp2
              go_ret
              exact ⟨by rw [HE.out]; rfl, HBF.out⟩
            · have HE : Hid ((z : Int) = 2) := Lib.hid (by rw [HEQ.out, HF.out, if_neg hu]; rfl)
              have hub : (x == m.upto) = false := by simp [hu]
              clear hu
              go_wp2
              go_ret
              exact ⟨by rw [HE.out]; rfl, HBF.out⟩

end Go.Proofs.Ytpebmmhokigglaa
