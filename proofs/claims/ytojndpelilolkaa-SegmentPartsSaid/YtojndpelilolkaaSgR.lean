/- The document's own segments: Slice. -/
import Derived.Test.YtojndpelilolkaaSgQ
import Derived.Test.YtojndpelilolkaaSgI
import Derived.Deep.Cut
import Derived.Deep.CutBlock
import Derived.Deep.RegionLawGrows
namespace Go.Proofs.Ytojndpelilolkaa
open Go.RowKit

theorem SdB.set1 {w : World} {q : Nat} {x y : Value} (h : SdB w q x y) (b : Value) : SdB (w.setCell ⟨q, 1, none⟩ b) q x b := by
  unfold SdB at h ⊢
  rw [heap_setCell_same _ _ 1 _ _ _ h]
  rfl
/-- What a call of the document's answers that hands back a segment and an error's number. -/
def SdRes (x : Int × List IC × Nat) (w : World) (e : Ending) (w' : World) : Prop :=
  Below w.heap.size w w' ∧ ∃ v, e = .returned (.tuple #[.agg #[.int .i64 x.1, v], .int .i64 (x.2.2 : Nat)]) ∧ Dc w' (fun j => w.heap.size ≤ j) v x.2.1
theorem dc_nil (w : World) (B : Nat → Prop) : Dc w B (.slice none 0 0) [] := recAt_nil _ _ _
theorem ownsD_nil (w : World) (base : Nat) : OwnsD w base (.slice none 0 0) [] := World.ownsRow_nil _ _ _ _
theorem take_drop_snoc (cs : List IC) (k j : Nat) (h : k + j < cs.length) : (cs.drop k).take (j + 1) = (cs.drop k).take j ++ [cs.getD (k + j) (0, [])] := by
  rw [take_snocI _ _ (by rw [List.length_drop]; omega)]
  congr 2
  rw [List.getD_eq_getElem?_getD, List.getElem?_drop, ← List.getD_eq_getElem?_getD]

set_option maxHeartbeats 4000000 in
set_option maxRecDepth 100000 in
theorem rsgslice_any (f lo hi : Int) (v : Value) (cs : List IC) (w : World) (B : Nat → Prop) (h : Dc w B v cs) (hf : -9223372036854775808 ≤ f ∧ f ≤ 9223372036854775807) :
    Calls Try.prog 24 #[.agg #[.int .i64 f, v], .int .i64 lo, .int .i64 hi] w (SdRes (sgS f cs lo hi) w) := by
  obtain ⟨ao, cap, rfl, l1, _, _⟩ := h.val
  obtain ⟨W1, hW1⟩ : ∃ W1, W1 = (w.alloc (.cells #[.int .i64 f, .slice ao cs.length cap] 29)).alloc (.cells #[.int .i64 0, .slice none 0 0] 29) := ⟨_, rfl⟩
  have hb1 : Below w.heap.size w W1 := by rw [hW1]; exact ((Below.refl _ _).alloc (Nat.le_refl _) _).alloc (by simp) _
  have hx1 : SdB W1 w.heap.size (.int .i64 f) (.slice ao cs.length cap) := by rw [hW1]; exact (sdb_new _ _ _).old ((Below.refl _ _).alloc (Nat.le_refl _) _)
  have hz1 : SdB W1 (w.heap.size + 1) (.int .i64 0) (.slice none 0 0) := by
    have := sdb_new (w.alloc (.cells #[.int .i64 f, .slice ao cs.length cap] 29)) (.int .i64 0) (.slice none 0 0)
    rw [hW1]; simpa using this
  have HX1 := Lib.hid hx1
  have HZ1 := Lib.hid hz1
  have HB1 := Lib.hid hb1
  have HR1 := Lib.hid (h.old hb1)
  have HCA := Lib.hid (rsgcheck_any f _ cs W1 B (h.old hb1) hf)
  obtain ⟨n, hn⟩ : ∃ n, n = cs.length := ⟨_, rfl⟩
  rw [← hn] at HX1 HR1 HCA hW1 l1 ⊢
  have HN := Lib.hid hn
  have HW1 := Lib.hid hW1
  have HCAP := Lib.hid l1
  obtain ⟨ca, hca⟩ : ∃ c, c = sgC f cs := ⟨_, rfl⟩
  rw [← hca] at HCA
  have HCA2 := Lib.hid hca
  have HX : Hid (∀ W, Below W1.heap.size W1 W → (W.cell? ⟨w.heap.size, 0, none⟩ = some (.int .i64 f) ∧ W.cell? ⟨w.heap.size, 1, none⟩ = some (.slice ao n cap)) ∧
      W.cell? ⟨w.heap.size + 1, 0, none⟩ = some (.int .i64 0) ∧ W.cell? ⟨w.heap.size + 1, 1, none⟩ = some (.slice none 0 0) ∧ W.frozen? ⟨w.heap.size + 1, 0, none⟩ = false ∧ W.frozen? ⟨w.heap.size + 1, 1, none⟩ = false) := Lib.hid fun W hb => by
    obtain ⟨p0, p1, _, _⟩ := (HX1.out.old hb).x
    exact ⟨⟨p0, p1⟩, (HZ1.out.old hb).x⟩
  have HBAD : Hid (∀ (c : Nat) W, sgS f cs lo hi = (0, [], c) → Below W1.heap.size W1 W → SdRes (sgS f cs lo hi) w (.returned (.tuple #[.agg #[.int .i64 0, .slice none 0 0], .int .i64 (c : Int)])) ((W.setCell ⟨w.heap.size + 1, 0, none⟩ (.int .i64 0)).setCell ⟨w.heap.size + 1, 1, none⟩ (.slice none 0 0))) := Lib.hid fun c W he hb => by
    rw [he]
    refine ⟨((HB1.out.trans (hb.mono HB1.out.size)).setCell ?_ _).setCell ?_ _, _, rfl, dc_nil _ _⟩
    · show w.heap.size ≤ w.heap.size + 1; omega
    · show w.heap.size ≤ w.heap.size + 1; omega
  clear h hb1 hx1 hz1 hn hW1 hca l1 hf
  go_enter Try.func24, Try.ntmps24
  go_wp2_with fail
  rw [← HW1.out]
  refine HCA.out.mono ?_
  rintro e w2 ⟨rfl, hb2⟩
  have HB2 := Lib.hid hb2
  obtain ⟨⟨x0, x1⟩, z0, z1, f0, f1⟩ := HX.out w2 hb2
  clear hb2
  by_cases g1 : ca = 0
  rotate_left
  · have HE : Hid (sgS f cs lo hi = (0, [], ca)) := Lib.hid (by unfold sgS; rw [if_pos (by rw [← HCA2.out]; exact g1), HCA2.out])
    have hgb : ((ca : Int) != 0) = true := by simp; omega
    clear g1
    go_wp2
    refine bodyPost_ret (v := .tuple #[.agg #[.int .i64 0, .slice none 0 0], .int .i64 (ca : Int)]) (by simp [results, Try.results24, go_sem, z0, z1]) rfl ?_
    exact HBAD.out ca w2 HE.out HB2.out
  have HA0 : Hid (sgC f cs = 0) := Lib.hid (by rw [← HCA2.out, g1])
  obtain ⟨a0, a1, a2, a3⟩ := sgC_zero HA0.out
  rw [← HN.out] at a1 a2
  have HLE : Hid (0 ≤ f ∧ f + (n : Int) ≤ 1048576 ∧ n ≤ 64) := Lib.hid ⟨a0, a1, a2⟩
  have hwr : wrap64 (f + (n : Int)) = f + (n : Int) := w64_in (by omega) (by omega)
  have hgb : ((ca : Int) != 0) = false := by simp [g1]
  have HRANGE : Hid (lo < f ∨ hi > f + (n : Int) ∨ lo > hi → sgS f cs lo hi = (0, [], 1)) := Lib.hid fun h => by
    unfold sgS; rw [if_neg (by rw [HA0.out]; decide), if_pos (by rw [← HN.out]; exact h)]
  clear g1 a0 a1 a2 a3
  by_cases g2 : lo < f
  · have HE := Lib.hid (HRANGE.out (.inl g2))
    go_wp2
    refine bodyPost_ret (v := .tuple #[.agg #[.int .i64 0, .slice none 0 0], .int .i64 1]) (by simp [results, Try.results24, go_sem, z0, z1]) rfl ?_
    exact HBAD.out 1 w2 HE.out HB2.out
  by_cases g3 : hi > f + (n : Int)
  · have HE := Lib.hid (HRANGE.out (.inr (.inl g3)))
    go_wp2
    refine bodyPost_ret (v := .tuple #[.agg #[.int .i64 0, .slice none 0 0], .int .i64 1]) (by simp [results, Try.results24, go_sem, z0, z1]) rfl ?_
    exact HBAD.out 1 w2 HE.out HB2.out
  by_cases g4 : lo > hi
  · have HE := Lib.hid (HRANGE.out (.inr (.inr g4)))
    go_wp2
    refine bodyPost_ret (v := .tuple #[.agg #[.int .i64 0, .slice none 0 0], .int .i64 1]) (by simp [results, Try.results24, go_sem, z0, z1]) rfl ?_
    exact HBAD.out 1 w2 HE.out HB2.out
  have HPLACE : Hid (∃ k d : Nat, lo = f + (k : Int) ∧ hi = lo + (d : Int) ∧ k + d ≤ n ∧ sgS f cs lo hi = (lo, (cs.drop k).take d, 0)) := Lib.hid (by
    obtain ⟨q0, q1, q2⟩ := HLE.out
    refine ⟨(lo - f).toNat, (hi - lo).toNat, by omega, by omega, by omega, ?_⟩
    unfold sgS
    rw [if_neg (by rw [HA0.out]; decide), if_neg (by rw [← HN.out]; omega)])
  obtain ⟨W3, hW3⟩ : ∃ W, W = w2.alloc (.cells #[.int .i64 lo, .slice none 0 0] 29) := ⟨_, rfl⟩
  have hb3 : Below w2.heap.size w2 W3 := by rw [hW3]; exact (Below.refl _ _).alloc (Nat.le_refl _) _
  have hx3 : SdB W3 w2.heap.size (.int .i64 lo) (.slice none 0 0) := by rw [hW3]; exact sdb_new _ _ _
  have HW3 := Lib.hid hW3
  have HX3 := Lib.hid hx3
  have HB3 := Lib.hid hb3
  have HS3 : Hid (w2.heap.size < W3.heap.size) := Lib.hid hx3.lt
  obtain ⟨qo, hqo⟩ : ∃ q, q = w2.heap.size := ⟨_, rfl⟩
  have HQO := Lib.hid hqo
  obtain ⟨k, d, hk, hd, hkd, hsg⟩ := HPLACE.out
  have HK := Lib.hid hk
  have HD := Lib.hid hd
  have HKD := Lib.hid hkd
  have HSG := Lib.hid hsg
  have HSTART : Hid ((cs.drop k).take 0 = []) := Lib.hid (by simp)
  have HFB : Hid (0 ≤ f ∧ f ≤ 1048576 ∧ k + d ≤ 64) := Lib.hid (by have := HLE.out; omega)
  clear hW3 hb3 hx3 hqo hk hd hkd hsg z0 z1 f0 f1
  go_wp2
  rw [← HW3.out, ← HQO.out]
  go_loopw [10] (fun av wr => ∃ (j : Nat) (o : Option Addr) (c : Nat), j ≤ d ∧ av = .int .i64 (lo + (j : Int)) ∧ OwnsD wr W3.heap.size (.slice o j c) ((cs.drop k).take j) ∧ SdB wr qo (.int .i64 lo) (.slice o j c) ∧ Below w2.heap.size w2 wr ∧ W3.heap.size ≤ wr.heap.size)
    (fun av _ => d - (intOf av - lo).toNat)
  case atStart =>
    refine ⟨0, none, 0, Nat.zero_le _, by simp, by rw [HSTART.out]; exact ownsD_nil _ _, ?_, ?_, ?_⟩
    · rw [HQO.out]; exact HX3.out
    · exact HB3.out
    · exact Nat.le_refl _
  case round =>
    obtain ⟨j, o, c, hj, rfl, ho, hx, hb, hsz⟩ := hrel
    have HO := Lib.hid ho
    have HXR := Lib.hid hx
    have HB := Lib.hid hb
    have HSZ := Lib.hid hsz
    have HBW : Hid (Below W1.heap.size W1 wr) := Lib.hid (HB2.out.trans (hb.mono HB2.out.size))
    clear ho hx hb hsz x0 x1
    obtain ⟨⟨x0, x1⟩, z0, z1, f0, f1⟩ := HX.out wr HBW.out
    obtain ⟨p0, p1, fp0, fp1⟩ := HXR.out.x
    by_cases hlt : j < d
    · have hlti : lo + (j : Int) < hi := by have := HD.out; omega
      have hwj : wrap64 (lo + (j : Int) - f) = ((k + j : Nat) : Int) := by
        have h1 := HK.out; have h2 := HFB.out
        rw [show lo + (j : Int) - f = ((k + j : Nat) : Int) by omega]
        exact w64_in (by omega) (by omega)
      have hwj2 : IntKind.i64.wrap (lo + (j : Int) - f) = ((k + j : Nat) : Int) := by
        have h1 := HK.out; have h2 := HFB.out
        rw [show lo + (j : Int) - f = ((k + j : Nat) : Int) by omega, IntKind.wrap_i64]
        omega
      have hwn : wrap64 (lo + (j : Int) + 1) = lo + ((j + 1 : Nat) : Int) := by
        have h1 := HK.out; have h2 := HFB.out
        rw [show lo + (j : Int) + 1 = lo + ((j + 1 : Nat) : Int) by omega]
        exact w64_in (by omega) (by omega)
      have hkc : k + j < cs.length := by rw [← HN.out]; have := HKD.out; omega
      have hkn : ((k + j : Nat) : Int) < (n : Int) := by rw [HN.out]; omega
      have HTD := Lib.hid (take_drop_snoc cs k j hkc)
      obtain ⟨bm, offm, rfl, hbm, _, c0, c1⟩ := (HR1.out.old HBW.out).at hkc
      generalize hg : cs.getD (k + j) (0, []) = g at c0 c1
      rw [hg] at HTD
      obtain ⟨kk, dd⟩ := g
      simp only at c0 c1
      obtain ⟨s, hs⟩ : ∃ s, s = S8 dd := ⟨_, rfl⟩
      rw [← hs] at c1
      have HS := Lib.hid hs
      have HL : Hid (((cs.drop k).take j).length = j) := Lib.hid (by rw [List.length_take, List.length_drop]; omega)
      have HQW : Hid (qo < W3.heap.size) := Lib.hid (by rw [HQO.out]; exact HS3.out)
      have HJ64 : Hid (j ≤ 64) := Lib.hid (by have := HFB.out; omega)
      obtain ⟨e, he⟩ : ∃ e, e = k + j := ⟨_, rfl⟩
      rw [← he] at hwj hwj2 hkn c0 c1
      have p1a : ∀ o', (wr.alloc o').cell? ⟨qo, 1, none⟩ = some (.slice o j c) := fun o' => ((HXR.out.old ((Below.refl _ _).alloc (Nat.le_refl _) o')).x).2.1
      have p1b : ∀ o', (wr.drew.alloc o').cell? ⟨qo, 1, none⟩ = some (.slice o j c) := fun o' => ((HXR.out.old (((Below.refl _ _).drew).alloc (Nat.le_refl _) o')).x).2.1
      have HJT := Lib.hid hlt
      clear hkc hg hs he hbm hlt
      go_wp2_with fail
      go_region_law
        ((refine step_appRec (by rfl) _ _ _ (by rfl) W3.heap.size 45 _ 2 24 Try.underlying27 Try.infoC rfl (by decide) (.slice o j c) (((cs.drop k).take j).map drow) (by rfl) (by first | exact ownsD_rec.1 (HO.out.below ((Below.refl _ _).alloc (Nat.le_refl _) _)) | exact ownsD_rec.1 (HO.out.below (((Below.refl _ _).drew).alloc (Nat.le_refl _) _)) | exact ownsD_rec.1 HO.out) [.int .i64 kk, .string s] rfl (by simp [Value.oneCell']) ⟨wr.heap.size, 0, none⟩ (by rfl) (by first | exact rec_cell wr [.int .i64 kk, .string s] _ | exact rec_cell wr.drew [.int .i64 kk, .string s] _) (by rw [List.length_map, HL.out]; have := HJ64.out; simp only [maxLen]; omega) (by rw [List.length_map, HL.out]; have := HJ64.out; omega) (by have := HSZ.out; simp; omega) ?_
          intro g cap2 w5 ho5 hg5 _
          rw [List.length_map, HL.out] at ho5
          rw [List.length_map, HL.out]
          have hb5 : Below W3.heap.size wr w5 := by
            first
              | exact (((Below.refl _ _).alloc HSZ.out _) : Below W3.heap.size wr _).grown hg5 (by have := HSZ.out; simp; omega) (fun i hi => (HO.out.lt i hi).1)
              | exact ((((Below.refl _ _).drew).alloc (by have := HSZ.out; simp; omega) _) : Below W3.heap.size wr _).grown hg5 (by have := HSZ.out; simp; omega) (fun i hi => (HO.out.lt i hi).1)
          have HX5 := Lib.hid (HXR.out.low hb5 HQW.out)
          obtain ⟨p0, p1, fp0, fp1⟩ := HX5.out.x
          have HO5 := Lib.hid ho5
          have HB5 := Lib.hid hb5
          clear ho5 hg5 hb5))
      all_goals
        have HN5 : Hid (OwnsD (w5.setCell ⟨qo, 1, none⟩ (.slice (some ⟨g, 0, none⟩) (j + 1) cap2)) W3.heap.size (.slice (some ⟨g, 0, none⟩) (j + 1) cap2) ((cs.drop k).take (j + 1))) := Lib.hid (by
          refine OwnsD.set ?_ HQW.out _ _
          rw [HTD.out]
          refine ownsD_rec.2 ?_
          have := HO5.out
          rw [HS.out] at this
          rw [List.map_append]
          exact this)
        have HXN : Hid (SdB (w5.setCell ⟨qo, 1, none⟩ (.slice (some ⟨g, 0, none⟩) (j + 1) cap2)) qo (.int .i64 lo) (.slice (some ⟨g, 0, none⟩) (j + 1) cap2)) := Lib.hid (HX5.out.set1 _)
        have HBN : Hid (Below w2.heap.size w2 (w5.setCell ⟨qo, 1, none⟩ (.slice (some ⟨g, 0, none⟩) (j + 1) cap2)) ∧ W3.heap.size ≤ (w5.setCell ⟨qo, 1, none⟩ (.slice (some ⟨g, 0, none⟩) (j + 1) cap2)).heap.size) := Lib.hid
          ⟨(HB.out.trans (HB5.out.mono (Nat.le_of_lt HS3.out))).setCell (by show w2.heap.size ≤ qo; rw [HQO.out]; exact Nat.le_refl _) _, by have h1 := HB5.out.size; have h2 := HSZ.out; simp; omega⟩
        have HMS : Hid (d - (intOf (.int .i64 (lo + ((j + 1 : Nat) : Int))) - lo).toNat < d - (intOf (.int .i64 (lo + (j : Int))) - lo).toNat) := Lib.hid (by
          show d - (lo + ((j + 1 : Nat) : Int) - lo).toNat < d - (lo + (j : Int) - lo).toNat
          have := HJT.out
          omega)
        have HJD : Hid (j + 1 ≤ d) := Lib.hid HJT.out
        clear HO5 HB5 HX5 p0 p1 fp0 fp1
        go_wp2
        go_roundw
      all_goals first
        | (case rel => exact ⟨j + 1, _, _, HJD.out, by first | rfl | exact congrArg (Value.int .i64) hwn, HN5.out, HXN.out, HBN.out.1, HBN.out.2⟩)
        | (case measure => first | exact HMS.out | (have h := HMS.out; rw [← hwn] at h; exact h))
        | trace_state
    · have hjd : j = d := by omega
      subst hjd
      have hge : ¬ lo + (j : Int) < hi := by have := HD.out; omega
      have HFW : Hid (Below w.heap.size w wr) := Lib.hid (HB1.out.trans (HBW.out.mono HB1.out.size))
      have HSZ0 : Hid (w.heap.size + 1 < W3.heap.size) := Lib.hid (by have h1 := HZ1.out.lt; have h2 := HB2.out.size; have h3 := HS3.out; omega)
      clear hlt
      go_wp2
      refine bodyPost_ret (v := .tuple #[.agg #[.int .i64 lo, .slice o j c], .int .i64 0]) (by simp [results, Try.results24, go_sem, z0, z1]) rfl ?_
      rw [HSG.out]
      refine ⟨(HFW.out.setCell ?_ _).setCell ?_ _, _, rfl, ?_⟩
      · show w.heap.size ≤ w.heap.size + 1; omega
      · show w.heap.size ≤ w.heap.size + 1; omega
      · exact (((HO.out.set HSZ0.out _ _).set HSZ0.out _ _).mono (by have := HSZ0.out; omega)).dc

end Go.Proofs.Ytojndpelilolkaa
