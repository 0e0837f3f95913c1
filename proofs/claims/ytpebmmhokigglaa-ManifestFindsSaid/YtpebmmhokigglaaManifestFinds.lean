/- ManifestFinds' walk. -/
import Derived.Test.YtpebmmhokigglaaMfE
import Derived.Test.YtpebmmhokigglaaMfC
namespace Go.Proofs.Ytpebmmhokigglaa
open Go.RowKit

theorem find_facts {m : MF} (hz : mchk m = 0) {a : Int} (h0 : -9223372036854775808 ≤ a) (h1 : a ≤ 9223372036854775807) {i : Int} {b : Bool} (h : FindPost m.ps a i b) :
    (b = true ∧ (m.fro ≤ a ∧ a < m.upto) ∧ ∃ k, k < m.ps.length ∧ i = (k : Int) ∧ inP (m.ps.getD k p0) a ∧ ∀ j, j < m.ps.length → inP (m.ps.getD j p0) a → j = k) ∨ (b = false ∧ ¬ (m.fro ≤ a ∧ a < m.upto) ∧ ∀ j, j < m.ps.length → ¬ inP (m.ps.getD j p0) a) := by
  obtain ⟨⟨_, f1, f2, _⟩, _, _, _, hp⟩ := mchk_zero hz
  obtain ⟨t1, t2, t3, t4⟩ := parts_tile hp
  have hh : ∀ j, j < m.ps.length → hasB (m.ps.getD j p0) a = decide (inP (m.ps.getD j p0) a) := fun j hj => by
    have := t2 (m.ps.getD j p0) (getD_memP hj)
    exact hasB_inP (by omega) (by omega) (by omega) h0 h1
  rcases h with ⟨k, hk, hb, _, rfl, rfl⟩ | ⟨hno, _, rfl⟩
  · rw [hh k hk, decide_eq_true_iff] at hb
    refine .inl ⟨rfl, ?_, k, hk, rfl, hb, ?_⟩
    · have := t2 (m.ps.getD k p0) (getD_memP hk)
      unfold inP at hb
      omega
    · intro j hj hjn
      unfold inP at hb hjn
      rcases Nat.lt_trichotomy j k with h | h | h
      · have := t3 j k h hk; omega
      · exact h
      · have := t3 k j h hj; omega
  · refine .inr ⟨rfl, ?_, fun j hj hjn => ?_⟩
    · rintro ⟨h2, h3⟩
      obtain ⟨j, hj, hjn⟩ := t4 a h2 h3
      have := hno j hj
      rw [hh j hj, decide_eq_false_iff_not] at this
      exact this hjn
    · have := hno j hj
      rw [hh j hj, decide_eq_false_iff_not] at this
      exact this hjn
/-- How many parts so far have the address. -/
def Cnt (ps : List PT) (a : Int) (k : Nat) (c : Int) : Prop := (c = 0 ∧ ∀ j, j < k → ¬ inP (ps.getD j p0) a) ∨ (c = 1 ∧ ∃ j, j < k ∧ inP (ps.getD j p0) a)

set_option maxHeartbeats 8000000 in
set_option maxRecDepth 100000 in
theorem manifestFinds_walk (m : MF) (v : Value) (a : Int) (w : World) (B : Nat → Prop) (h : PsAt w B v m.ps) (hd : Dg m.prev) (ha0 : -9223372036854775808 ≤ a) (ha1 : a ≤ 9223372036854775807) :
    Calls Try.prog 4 #[.agg (mfRow m v).toArray, .int .i64 a] w fun e w' => e = .returned (.bool true) ∧ Below w.heap.size w w' := by
  obtain ⟨ao, cap, rfl, l1, m1, _⟩ := h.val
  obtain ⟨n, hn⟩ : ∃ n, n = m.ps.length := ⟨_, rfl⟩
  rw [← hn] at h ⊢
  obtain ⟨W1, hW1⟩ : ∃ W1, W1 = w.alloc (.cells (mfRow m (.slice ao n cap)).toArray 27) := ⟨_, rfl⟩
  have hb1 : Below w.heap.size w W1 := by rw [hW1]; exact (Below.refl _ _).alloc (Nat.le_refl _) _
  have hx1 : MB W1 w.heap.size m (.slice ao n cap) 27 := by rw [hW1]; exact mb_new _ _ _ _
  have HB1 := Lib.hid hb1
  have HR := Lib.hid (h.old hb1)
  have HD := Lib.hid hd
  have HN := Lib.hid hn
  have HA := Lib.hid (And.intro ha0 ha1)
  have HMS : Hid ((Try.prog.info? 27).map (·.size) = some (mfRow m (.slice ao n cap)).toArray.size) := Lib.hid (by rw [mfRow_size hd]; exact Try.sizeMF)
  have HX1 := Lib.hid hx1
  have HAL := Lib.hid (alive15_any W1)
  have HCK : Hid (∀ W, Below W1.heap.size W1 W → Calls Try.prog 13 #[.agg (mfRow m (.slice ao n cap)).toArray] W fun e w' => e = .returned (errV (mchk m)) ∧ Below W.heap.size W w') := Lib.hid fun W hb => mcheck_any m _ W B (HR.out.old hb) HD.out
  have HFI : Hid (∀ W, Below W1.heap.size W1 W → Calls Try.prog 14 #[.agg (mfRow m (.slice ao n cap)).toArray, .int .i64 a] W fun e w' => ∃ i b, FindPost m.ps a i b ∧ e = .returned (.tuple #[.int .i64 i, .bool b]) ∧ Below W.heap.size W w') := Lib.hid fun W hb => mfind_any m _ a W B (HR.out.old hb) HD.out
  have HXA : Hid (∀ W, Below W1.heap.size W1 W → W.heap[w.heap.size]? = some (.cells (mfRow m (.slice ao n cap)).toArray 27 (0, 0))) := Lib.hid fun W hb => HX1.out.old hb
  obtain ⟨A, hA⟩ : ∃ A, A = (mfRow m (.slice ao n cap)).toArray := ⟨_, rfl⟩
  rw [← hA] at hW1 HMS HCK HFI HXA ⊢
  have HW1 := Lib.hid hW1
  have HX : Hid (∀ W, Below W1.heap.size W1 W → W.cell? ⟨w.heap.size, 1, none⟩ = some (.int .i64 m.fro) ∧ W.cell? ⟨w.heap.size, 2, none⟩ = some (.int .i64 m.upto) ∧ W.cell? ⟨w.heap.size, 36, none⟩ = some (.slice ao n cap)) := Lib.hid fun W hb => by
    obtain ⟨_, b, c, _, d⟩ := (HX1.out.old hb).x HD.out
    exact ⟨b, c, d⟩
  obtain ⟨z, hz⟩ : ∃ z, z = mchk m := ⟨_, rfl⟩
  rw [← hz] at HCK
  have HZ := Lib.hid hz
  clear hA hb1 hx1 h l1 m1 hd hW1 hn hz ha0 ha1
  go_enter Try.func4, Try.ntmps4
  go_wp2_with fail
  rw [← HW1.out]
  refine HAL.out.mono ?_
  rintro e w2 ⟨rfl, hb2⟩
  obtain ⟨x1, x2, x36⟩ := HX.out w2 hb2
  have HB2 := Lib.hid hb2
  have HBW2 : Hid (Below w.heap.size w w2) := Lib.hid (HB1.out.trans (hb2.mono HB1.out.size))
  clear hb2
  by_cases g0 : (n : Int) > 60
  · go_wp2
    go_ret
    exact ⟨rfl, HBW2.out⟩
  have HN6 : Hid (n ≤ 60) := Lib.hid (by omega)
  have HGB : Hid (decide ((60 : Int) < (n : Int)) = false) := Lib.hid (decide_eq_false (by omega))
  have hck2 := HCK.out w2 HB2.out
  by_cases hz0 : z = 0
  rotate_left
  · rw [errV_pos hz0] at hck2
    have HC2 := Lib.hid hck2
    clear hck2 hz0
    go_wp2_with ((with_reducible show wpList _ _ _ (Oper.mk (some 17) _ _ _ _ _ :: _) _ _); go_must (refine wpList_load_rowH (by simp [Region.wanted, yielded, HGB.out]) 27 (.tmp 2) rfl w.heap.size rfl _ A _ _ (HXA.out w2 HB2.out) Try.underlying27 rfl HMS.out ?_))
    refine HC2.out.mono ?_
    rintro e w3 ⟨rfl, hb3⟩
    have HB3 : Hid (Below w.heap.size w w3) := Lib.hid (HBW2.out.trans (hb3.mono HBW2.out.size))
    clear hb3
    go_wp2
    go_ret
    exact ⟨rfl, HB3.out⟩
  rw [hz0, errV_zero] at hck2
  have HZ0 : Hid (mchk m = 0) := Lib.hid (by rw [← HZ.out, hz0])
  have HC2 := Lib.hid hck2
  clear hck2 hz0 HZ
  go_wp2_with ((with_reducible show wpList _ _ _ (Oper.mk (some 17) _ _ _ _ _ :: _) _ _); go_must (refine wpList_load_rowH (by simp [Region.wanted, yielded, HGB.out]) 27 (.tmp 2) rfl w.heap.size rfl _ A _ _ (HXA.out w2 HB2.out) Try.underlying27 rfl HMS.out ?_))
  refine HC2.out.mono ?_
  rintro e w3 ⟨rfl, hb3⟩
  have HB3 : Hid (Below W1.heap.size W1 w3) := Lib.hid (HB2.out.trans (hb3.mono HB2.out.size))
  have HF3 := Lib.hid (HFI.out w3 HB3.out)
  clear hb3 x1 x2 x36
  go_wp2_with ((with_reducible show wpList _ _ _ (Oper.mk (some 22) _ _ _ _ _ :: _) _ _); go_must (refine wpList_load_row rfl 27 (.tmp 2) rfl w.heap.size rfl _ A _ _ (HXA.out w3 HB3.out) Try.underlying27 rfl HMS.out ?_))
  refine HF3.out.mono ?_
  rintro e w4 ⟨i, b, hfp, rfl, hb4⟩
  have HFF := Lib.hid (find_facts HZ0.out HA.out.1 HA.out.2 hfp)
  have HB4 : Hid (Below W1.heap.size W1 w4) := Lib.hid (HB3.out.trans (hb4.mono HB3.out.size))
  have HR4 := Lib.hid (HR.out.old HB4.out)
  obtain ⟨x1, x2, x36⟩ := HX.out w4 HB4.out
  clear hb4 hfp
  go_wp2
  clear x1 x2 x36
  go_loopw [7, 8, 9, 30] (fun cv _ _ iv wr => ∃ (k : Nat) (c : Int), k ≤ n ∧ iv = .int .i64 (k : Int) ∧ cv = .int .i64 c ∧ Cnt m.ps a k c ∧ Below w4.heap.size w4 wr)
    (fun _ _ _ iv _ => n - (intOf iv).toNat)
  case atStart => exact ⟨0, 0, Nat.zero_le _, rfl, rfl, .inl ⟨rfl, fun j hj => absurd hj (Nat.not_lt_zero j)⟩, Below.refl _ _⟩
  case round =>
    obtain ⟨k, c, hk, rfl, rfl, hcnt, hb⟩ := hrel
    have HB := Lib.hid hb
    have HC := Lib.hid hcnt
    by_cases hlt : k < n
    · have hltp : k < m.ps.length := by rw [← HN.out]; exact hlt
      obtain ⟨bb, off, rfl, _, _, hdg, hcell⟩ := (HR4.out.old hb).at hltp
      have htl := parts_tile (mchk_zero HZ0.out).2.2.2.2
      have hbd := htl.2.1 (m.ps.getD k p0) (getD_memP hltp)
      have hfr := (mchk_zero HZ0.out).1.2
      obtain ⟨p, hp⟩ : ∃ p, p = m.ps.getD k p0 := ⟨_, rfl⟩
      have hp' : m.ps.getD k (0, 0, 0, []) = p := hp.symm
      rw [hp'] at hdg hcell hbd
      have HP := Lib.hid hp
      have HLEN : Hid ((Try.prog.info? 49).map (·.size) = some (ptRow p).length) := Lib.hid (by rw [ptRow_len hdg]; exact Try.sizePT)
      have HSZ : Hid ((Try.prog.info? 49).map (·.size) = some (ptRow p).toArray.size) := Lib.hid (by rw [ptRow_size hdg]; exact Try.sizePT)
      have HCELL := Lib.hid hcell
      have HALL := Lib.hid (all_one (ptRow_one p))
      have HS35 := Lib.hid (ptRow_size hdg)
      have hlti : (k : Int) < (n : Int) := by omega
      have hn6 : (n : Int) ≤ 60 := by omega
      have HKL := Lib.hid hltp
      have HKN : Hid (k + 1 ≤ n) := Lib.hid hlt
      have hwr : wrap64 (p.1 + p.2.1) = p.1 + p.2.1 := IntWalk.wrap64_in _ (by omega)
      have hc01 : c = 0 ∨ c = 1 := by rcases hcnt with h | h; exact .inl h.1; exact .inr h.1
      have HC01 := Lib.hid hc01
      have hwc : wrap64 (c + 1) = c + 1 := IntWalk.wrap64_in _ (by omega)
      have HWR := Lib.hid hwr
      have HWC := Lib.hid hwc
      clear hb hcnt hdg hcell hp hp' hltp htl hbd hfr hc01 hwr hwc
      go_wp2_with (first
        | ((with_reducible show wpList _ _ _ (Oper.mk (some 34) _ _ _ _ _ :: _) _ _); go_must (refine wpList_load_at rfl 49 (.tmp 33) rfl bb (off + k * 35) rfl (ptRow p) _ HCELL.out Try.underlying49 rfl HLEN.out ?_))
        | ((with_reducible show wpList _ _ _ (Oper.mk none _ _ _ _ _ :: _) _ _); go_must (refine wpList_store_new rfl 49 (.tmp 9) (.tmp 34) rfl wr _ (ptRow p).toArray rfl rfl _ HSZ.out (by rw [HS35.out]; rfl) HALL.out ?_)))
      intro W2 hp2 hb2 hs2
      have hp2 : PB W2 wr.heap.size p 49 := hp2
      have HB2' : Hid (Below w4.heap.size w4 W2) := Lib.hid (HB.out.trans (hb2.mono HB.out.size))
      obtain ⟨y0, y1, _⟩ := hp2.x
      clear hp2 hb2 hs2
      have hwr := HWR.out
      by_cases g1 : p.1 ≤ a
      rotate_left
      · have HNI : Hid (¬ inP p a) := Lib.hid fun h => g1 h.1
        go_wp2
        go_roundw
        case rel =>
          refine ⟨k + 1, c, HKN.out, by go_num, rfl, ?_, HB2'.out⟩
          rcases HC.out with ⟨h1, h2⟩ | ⟨h1, j, h2, h3⟩
          · refine .inl ⟨h1, fun j hj hin => ?_⟩
            by_cases hjk : j < k
            · exact h2 j hjk hin
            · obtain rfl : j = k := by omega
              rw [← HP.out] at hin
              exact HNI.out hin
          · exact .inr ⟨h1, j, by omega, h3⟩
        case measure => have := HKN.out; simp [intOf]; omega
      by_cases g2 : a < p.1 + p.2.1
      rotate_left
      · have HNI : Hid (¬ inP p a) := Lib.hid fun h => g2 h.2
        go_wp2
        go_roundw
        case rel =>
          refine ⟨k + 1, c, HKN.out, by go_num, rfl, ?_, HB2'.out⟩
          rcases HC.out with ⟨h1, h2⟩ | ⟨h1, j, h2, h3⟩
          · refine .inl ⟨h1, fun j hj hin => ?_⟩
            by_cases hjk : j < k
            · exact h2 j hjk hin
            · obtain rfl : j = k := by omega
              rw [← HP.out] at hin
              exact HNI.out hin
          · exact .inr ⟨h1, j, by omega, h3⟩
        case measure => have := HKN.out; simp [intOf]; omega
      have HI : Hid (inP (m.ps.getD k p0) a) := Lib.hid (by rw [← HP.out]; exact ⟨g1, g2⟩)
      rcases HFF.out with ⟨rfl, _, k0, _, rfl, _, huq⟩ | ⟨_, _, hno⟩
      rotate_left
      · exact absurd HI.out (hno k HKL.out)
      obtain rfl := huq k HKL.out HI.out
      have HCZ : Hid (c = 0) := Lib.hid (by
        rcases HC.out with ⟨h1, _⟩ | ⟨_, j, h2, h3⟩
        · exact h1
        · have := huq j (by have := HKL.out; omega) h3
          omega)
      have hcz := HCZ.out
      subst hcz
      have hkk : ((k : Int) == (k : Int)) = true := by simp
      clear huq
      go_wp2
      go_roundw
      case rel => exact ⟨k + 1, 1, HKN.out, by go_num, rfl, .inr ⟨rfl, k, by omega, HI.out⟩, HB2'.out⟩
      case measure => have := HKN.out; simp [intOf]; omega
    · obtain rfl : k = n := by omega
      obtain ⟨x1, x2, _⟩ := HX.out wr (HB4.out.trans (hb.mono HB4.out.size))
      have HBF : Hid (Below w.heap.size w wr) := Lib.hid ((HB1.out.trans (HB4.out.mono HB1.out.size)).trans (hb.mono (Nat.le_trans HB1.out.size HB4.out.size)))
      clear hb hcnt
      rcases HFF.out with ⟨rfl, ⟨r1, r2⟩, k0, hk0, rfl, hin, _⟩ | ⟨rfl, hnr, hno⟩
      · have hc1 : c = 1 := by
          rcases HC.out with ⟨_, h2⟩ | ⟨h1, _⟩
          · exact absurd hin (h2 k0 (by rw [HN.out]; exact hk0))
          · exact h1
        subst hc1
        clear hin hk0
        go_wp2
        go_ret
        exact ⟨rfl, HBF.out⟩
      · have hc0 : c = 0 := by
          rcases HC.out with ⟨h1, _⟩ | ⟨_, j, h2, h3⟩
          · exact h1
          · exact absurd h3 (hno j (by have := HN.out; omega))
        subst hc0
        clear hno
        by_cases r1 : m.fro ≤ a
        · have r2 : ¬ a < m.upto := fun h => hnr ⟨r1, h⟩
          clear hnr
          go_wp2
          go_ret
          exact ⟨rfl, HBF.out⟩
        · clear hnr
          go_wp2
          go_ret
          exact ⟨rfl, HBF.out⟩

end Go.Proofs.Ytpebmmhokigglaa
