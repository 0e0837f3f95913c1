/- The document's own segments: Join. -/
import Derived.Test.YtojndpelilolkaaSgR
import Derived.Deep.RegionLawGrows
namespace Go.Proofs.Ytojndpelilolkaa
open Go.RowKit

theorem drow_len (cs : List IC) : ∀ r ∈ cs.map drow, r.length = 2 := fun r hr => by obtain ⟨x, _, rfl⟩ := List.mem_map.1 hr; rfl
theorem drow_one (cs : List IC) : ∀ r ∈ cs.map drow, ∀ u ∈ r, u.oneCell' = true := fun r hr u hu => by
  obtain ⟨x, _, rfl⟩ := List.mem_map.1 hr
  simp only [drow, List.mem_cons, List.not_mem_nil, or_false] at hu
  rcases hu with rfl | rfl <;> rfl
theorem ownsD_made {W : World} {base e : Nat} (h : W.heap[e]? = some (.cells #[] 45 (0, 0))) (hb : base ≤ e) : OwnsD W base (.slice (some ⟨e, 0, none⟩) 0 0) [] :=
  ⟨by simp [dvals], .inr ⟨e, 0, #[], rfl, hb, h, Nat.le_refl _, by simp [maxLen], rfl, rfl⟩⟩

set_option maxHeartbeats 4000000 in
set_option maxRecDepth 100000 in
theorem rsgjoin_any (fa fb : Int) (v1 v2 : Value) (a b : List IC) (w : World) (A B : Nat → Prop) (h1 : Dc w A v1 a) (h2 : Dc w B v2 b) (hfa : -9223372036854775808 ≤ fa ∧ fa ≤ 9223372036854775807) (hfb : -9223372036854775808 ≤ fb ∧ fb ≤ 9223372036854775807) :
    Calls Try.prog 22 #[.agg #[.int .i64 fa, v1], .agg #[.int .i64 fb, v2]] w (SdRes (sgJ fa a fb b) w) := by
  obtain ⟨ao1, cap1, rfl, _, _, _⟩ := h1.val
  obtain ⟨ao2, cap2, rfl, _, _, _⟩ := h2.val
  obtain ⟨W0, hW0⟩ : ∃ W1, W1 = ((w.alloc (.cells #[.int .i64 fa, .slice ao1 a.length cap1] 29)).alloc (.cells #[.int .i64 fb, .slice ao2 b.length cap2] 29)).alloc (.cells #[.int .i64 0, .slice none 0 0] 29) := ⟨_, rfl⟩
  obtain ⟨W1, hW1⟩ : ∃ W1, W1 = W0.alloc (.cells #[.int .i64 fa, .slice ao1 a.length cap1, .int .i64 fb, .slice ao2 b.length cap2] 29) := ⟨_, rfl⟩
  have hb0 : Below w.heap.size w W0 := by rw [hW0]; exact (((Below.refl _ _).alloc (Nat.le_refl _) _).alloc (by simp) _).alloc (by simp; omega) _
  have hb01 : Below W0.heap.size W0 W1 := by rw [hW1]; exact (Below.refl _ _).alloc (Nat.le_refl _) _
  have hsz0 : W0.heap.size = w.heap.size + 1 + 1 + 1 := by rw [hW0]; simp
  have hx1 : SdB W0 w.heap.size (.int .i64 fa) (.slice ao1 a.length cap1) := by rw [hW0]; exact ((sdb_new _ _ _).old ((Below.refl _ _).alloc (Nat.le_refl _) _)).old ((Below.refl _ _).alloc (Nat.le_refl _) _)
  have hy1 : SdB W0 (w.heap.size + 1) (.int .i64 fb) (.slice ao2 b.length cap2) := by
    have := (sdb_new (w.alloc (.cells #[.int .i64 fa, .slice ao1 a.length cap1] 29)) (.int .i64 fb) (.slice ao2 b.length cap2)).old ((Below.refl _ _).alloc (Nat.le_refl _) (.cells #[.int .i64 0, .slice none 0 0] 29))
    rw [hW0]; simpa using this
  have hz1 : SdB W0 (w.heap.size + 1 + 1) (.int .i64 0) (.slice none 0 0) := by
    have := sdb_new ((w.alloc (.cells #[.int .i64 fa, .slice ao1 a.length cap1] 29)).alloc (.cells #[.int .i64 fb, .slice ao2 b.length cap2] 29)) (.int .i64 0) (.slice none 0 0)
    rw [hW0]; simpa using this
  have hr1 : W1.heap[W0.heap.size]? = some (.cells #[.int .i64 fa, .slice ao1 a.length cap1, .int .i64 fb, .slice ao2 b.length cap2] 29 (0, 0)) := by rw [hW1]; exact heap_alloc_new _ _
  have hb1 : Below w.heap.size w W1 := hb0.trans (hb01.mono hb0.size)
  have HX1 := Lib.hid (hx1.old hb01)
  have HY1 := Lib.hid (hy1.old hb01)
  have HZ1 := Lib.hid (hz1.old hb01)
  have HB1 := Lib.hid hb1
  have HR1 := Lib.hid (h1.old hb1)
  have HR2 := Lib.hid (h2.old hb1)
  obtain ⟨n1, hn1⟩ : ∃ n, n = a.length := ⟨_, rfl⟩
  obtain ⟨n2, hn2⟩ : ∃ n, n = b.length := ⟨_, rfl⟩
  rw [← hn1] at HX1 HR1 hr1 hW0 hW1 ⊢
  rw [← hn2] at HY1 HR2 hr1 hW0 hW1 ⊢
  have HN1 := Lib.hid hn1
  have HN2 := Lib.hid hn2
  obtain ⟨ca, hca⟩ : ∃ c, c = sgC fa a := ⟨_, rfl⟩
  obtain ⟨cb, hcb⟩ : ∃ c, c = sgC fb b := ⟨_, rfl⟩
  have HCA : Hid (∀ W, Below W1.heap.size W1 W → Calls Try.prog 9 #[.agg #[.int .i64 fa, .slice ao1 n1 cap1]] W fun e w' => e = .returned (.int .i64 (ca : Int)) ∧ Below W.heap.size W w') := Lib.hid fun W hb => by
    rw [hca]; exact rsgcheck_any fa _ a W A (HR1.out.old hb) hfa
  have HCB : Hid (∀ W, Below W1.heap.size W1 W → Calls Try.prog 9 #[.agg #[.int .i64 fb, .slice ao2 n2 cap2]] W fun e w' => e = .returned (.int .i64 (cb : Int)) ∧ Below W.heap.size W w') := Lib.hid fun W hb => by
    rw [hcb]; exact rsgcheck_any fb _ b W B (HR2.out.old hb) hfb
  have HCA2 := Lib.hid hca
  have HCB2 := Lib.hid hcb
  obtain ⟨qr, hqr⟩ : ∃ q, q = W0.heap.size := ⟨_, rfl⟩
  rw [← hqr] at hr1
  have HX : Hid (∀ W, Below W1.heap.size W1 W → (W.cell? ⟨w.heap.size, 0, none⟩ = some (.int .i64 fa) ∧ W.cell? ⟨w.heap.size, 1, none⟩ = some (.slice ao1 n1 cap1)) ∧
      (W.cell? ⟨w.heap.size + 1, 0, none⟩ = some (.int .i64 fb) ∧ W.cell? ⟨w.heap.size + 1, 1, none⟩ = some (.slice ao2 n2 cap2)) ∧
      W.cell? ⟨w.heap.size + 1 + 1, 0, none⟩ = some (.int .i64 0) ∧ W.cell? ⟨w.heap.size + 1 + 1, 1, none⟩ = some (.slice none 0 0) ∧ W.frozen? ⟨w.heap.size + 1 + 1, 0, none⟩ = false ∧ W.frozen? ⟨w.heap.size + 1 + 1, 1, none⟩ = false) := Lib.hid fun W hb => by
    obtain ⟨p0, p1, _, _⟩ := (HX1.out.old hb).x
    obtain ⟨q0, q1, _, _⟩ := (HY1.out.old hb).x
    exact ⟨⟨p0, p1⟩, ⟨q0, q1⟩, (HZ1.out.old hb).x⟩
  have HROW : Hid (∀ W, Below W1.heap.size W1 W → W.cell? ⟨qr, 0, none⟩ = some (.int .i64 fa) ∧ W.cell? ⟨qr, 1, none⟩ = some (.slice ao1 n1 cap1) ∧ W.cell? ⟨qr, 2, none⟩ = some (.int .i64 fb) ∧ W.cell? ⟨qr, 3, none⟩ = some (.slice ao2 n2 cap2)) := Lib.hid fun W hb => by
    have h := (hb.block _ (Array.getElem?_eq_some_iff.1 hr1).1).trans hr1
    exact ⟨by rw [cell_of_row _ _ 0 _ _ _ h]; rfl, by rw [cell_of_row _ _ 1 _ _ _ h]; rfl, by rw [cell_of_row _ _ 2 _ _ _ h]; rfl, by rw [cell_of_row _ _ 3 _ _ _ h]; rfl⟩
  have HBAD : Hid (∀ (c : Nat) W, sgJ fa a fb b = (0, [], c) → Below W1.heap.size W1 W → SdRes (sgJ fa a fb b) w (.returned (.tuple #[.agg #[.int .i64 0, .slice none 0 0], .int .i64 (c : Int)])) ((W.setCell ⟨w.heap.size + 1 + 1, 0, none⟩ (.int .i64 0)).setCell ⟨w.heap.size + 1 + 1, 1, none⟩ (.slice none 0 0))) := Lib.hid fun c W he hb => by
    rw [he]
    refine ⟨((HB1.out.trans (hb.mono HB1.out.size)).setCell ?_ _).setCell ?_ _, _, rfl, dc_nil _ _⟩
    · show w.heap.size ≤ w.heap.size + 1 + 1; omega
    · show w.heap.size ≤ w.heap.size + 1 + 1; omega
  have HQR := Lib.hid hqr
  have HQR2 : Hid (qr = w.heap.size + 1 + 1 + 1) := Lib.hid (hqr.trans hsz0)
  have HFA := Lib.hid hfa
  have HW1 := Lib.hid (hW1.trans (by rw [hW0]))
  clear h1 h2 hb0 hb01 hsz0 hx1 hy1 hz1 hr1 hb1 hn1 hn2 hca hcb hW0 hW1 hqr hfa hfb
  go_enter Try.func22, Try.ntmps22
  go_wp2_with fail
  rw [← HW1.out, ← HQR2.out]
  go_loopw [7, 8, 15] (fun _ _ i wr => (i = .int .i64 0 ∨ (i = .int .i64 1 ∧ ca = 0) ∨ (i = .int .i64 2 ∧ ca = 0 ∧ cb = 0)) ∧ Below W1.heap.size W1 wr)
    (fun _ _ i _ => 2 - (intOf i).toNat)
  case atStart => exact ⟨.inl rfl, Below.refl _ _⟩
  case round =>
    obtain ⟨hc, hb⟩ := hrel
    have HB := Lib.hid hb
    obtain ⟨⟨x0, x1⟩, ⟨y0, y1⟩, z0, z1, f0, f1⟩ := HX.out wr hb
    obtain ⟨r0, r1, r2, r3⟩ := HROW.out wr hb
    clear hb
    rcases hc with rfl | ⟨rfl, hca0⟩ | ⟨rfl, hca0, hcb0⟩
    · obtain ⟨W2, hW2⟩ : ∃ W, W = wr.alloc (.cells #[.int .i64 fa, .slice ao1 n1 cap1] 29) := ⟨_, rfl⟩
      have HB2 : Hid (Below W1.heap.size W1 W2) := Lib.hid (by rw [hW2]; exact HB.out.alloc HB.out.size _)
      have HC := Lib.hid (HCA.out W2 HB2.out)
      have HW2 := Lib.hid hW2
      clear hW2
      go_wp2_with fail
      rw [← HW2.out]
      refine HC.out.mono ?_
      rintro e w3 ⟨rfl, hb3⟩
      have HB3 : Hid (Below W1.heap.size W1 w3) := Lib.hid (HB2.out.trans (hb3.mono HB2.out.size))
      clear hb3 x0 x1 y0 y1 z0 z1 f0 f1 r0 r1 r2 r3
      obtain ⟨⟨x0, x1⟩, ⟨y0, y1⟩, z0, z1, f0, f1⟩ := HX.out w3 HB3.out
      by_cases g1 : ca = 0
      · have gb : ((ca : Int) != 0) = false := by simp [g1]
        have HG := Lib.hid g1
        clear g1
        go_wp2
        go_roundw
        case rel => exact ⟨.inr (.inl ⟨rfl, HG.out⟩), HB3.out⟩
        case measure => decide
      · have gb : ((ca : Int) != 0) = true := by simp; omega
        have HE : Hid (sgJ fa a fb b = (0, [], ca)) := Lib.hid (by unfold sgJ; rw [if_pos (by rw [← HCA2.out]; exact g1), HCA2.out])
        clear g1
        go_wp2
        refine bodyPost_ret (v := .tuple #[.agg #[.int .i64 0, .slice none 0 0], .int .i64 (ca : Int)]) (by simp [results, Try.results22, go_sem, z0, z1]) rfl ?_
        exact HBAD.out ca w3 HE.out HB3.out
    · obtain ⟨W2, hW2⟩ : ∃ W, W = wr.alloc (.cells #[.int .i64 fb, .slice ao2 n2 cap2] 29) := ⟨_, rfl⟩
      have HB2 : Hid (Below W1.heap.size W1 W2) := Lib.hid (by rw [hW2]; exact HB.out.alloc HB.out.size _)
      have HC := Lib.hid (HCB.out W2 HB2.out)
      have HW2 := Lib.hid hW2
      have HCA0 := Lib.hid hca0
      clear hW2 hca0
      go_wp2_with fail
      rw [← HW2.out]
      refine HC.out.mono ?_
      rintro e w3 ⟨rfl, hb3⟩
      have HB3 : Hid (Below W1.heap.size W1 w3) := Lib.hid (HB2.out.trans (hb3.mono HB2.out.size))
      clear hb3 x0 x1 y0 y1 z0 z1 f0 f1 r0 r1 r2 r3
      obtain ⟨⟨x0, x1⟩, ⟨y0, y1⟩, z0, z1, f0, f1⟩ := HX.out w3 HB3.out
      by_cases g1 : cb = 0
      · have gb : ((cb : Int) != 0) = false := by simp [g1]
        have HG := Lib.hid g1
        clear g1
        go_wp2
        go_roundw
        case rel => exact ⟨.inr (.inr ⟨rfl, HCA0.out, HG.out⟩), HB3.out⟩
        case measure => decide
      · have gb : ((cb : Int) != 0) = true := by simp; omega
        have HE : Hid (sgJ fa a fb b = (0, [], cb)) := Lib.hid (by unfold sgJ; rw [if_neg (by rw [← HCA2.out, HCA0.out]; decide), if_pos (by rw [← HCB2.out]; exact g1), HCB2.out])
        clear g1
        go_wp2
        refine bodyPost_ret (v := .tuple #[.agg #[.int .i64 0, .slice none 0 0], .int .i64 (cb : Int)]) (by simp [results, Try.results22, go_sem, z0, z1]) rfl ?_
        exact HBAD.out cb w3 HE.out HB3.out
    · have HA0 : Hid (sgC fa a = 0) := Lib.hid (by rw [← HCA2.out, hca0])
      have HB0 : Hid (sgC fb b = 0) := Lib.hid (by rw [← HCB2.out, hcb0])
      obtain ⟨a0, a1, a2, _⟩ := sgC_zero HA0.out
      obtain ⟨b0, b1, b2, _⟩ := sgC_zero HB0.out
      rw [← HN1.out] at a1 a2
      rw [← HN2.out] at b2
      have HLE : Hid (n1 ≤ 64 ∧ n2 ≤ 64) := Lib.hid ⟨a2, b2⟩
      have hwr : wrap64 (fa + (n1 : Int)) = fa + (n1 : Int) := w64_in (by omega) (by omega)
      clear hca0 hcb0 a0 a1 a2 b0 b1 b2 r0 r1 r2 r3
      by_cases g3 : fa + (n1 : Int) = fb
      rotate_left
      · have hne : (fa + (n1 : Int) != fb) = true := by simp [g3]
        have HE : Hid (sgJ fa a fb b = (0, [], 13)) := Lib.hid (by unfold sgJ; rw [if_neg (by rw [HA0.out]; decide), if_neg (by rw [HB0.out]; decide), if_pos (by rw [← HN1.out]; exact fun e => g3 e.symm)])
        clear g3
        go_wp2
        refine bodyPost_ret (v := .tuple #[.agg #[.int .i64 0, .slice none 0 0], .int .i64 13]) (by simp [results, Try.results22, go_sem, z0, z1]) rfl ?_
        exact HBAD.out 13 wr HE.out HB.out
      have hne : (fa + (n1 : Int) != fb) = false := by simp [g3]
      have HFM : Hid (¬ fb ≠ fa + (a.length : Int)) := Lib.hid (by rw [← HN1.out]; simp [g3])
      clear g3
      go_upto_region 10 with fail
      go_cut [9] from 16 to 45 (fun c wx => ∃ (q : Nat) (v' : Value), c = .pointer (some ⟨q, 0, none⟩) ∧ SdB wx q (.int .i64 fa) v' ∧ OwnsD wx wr.heap.size v' (a ++ b) ∧ Below wr.heap.size wr wx ∧ wr.heap.size ≤ q)
      case first =>
        go_region_held_law (fun w' => w'.cell? ⟨w.heap.size, 0, none⟩ = some (.int .i64 fa) ∧ w'.cell? ⟨w.heap.size, 1, none⟩ = some (.slice ao1 n1 cap1) ∧ w'.cell? ⟨w.heap.size + 1, 1, none⟩ = some (.slice ao2 n2 cap2)) (go_keep) (first
          | (refine step_appRecs (w := (wr.alloc (.cells #[] 45)).drew) (B := A) (by rfl) _ _ _ (by rfl) wr.heap.size 45 _ 2 24 Try.underlying27 Try.infoC rfl (by decide) (.slice (some ⟨wr.heap.size, 0, none⟩) 0 0) (.slice ao1 n1 cap1) [] (a.map drow) (by rfl) (by rfl) ?rown ?rat (drow_len a) (drow_one a) ?rl ?rb ?rz ?_
             case rown => exact ownsD_rec.1 (ownsD_made (by show (wr.alloc (.cells #[] 45)).heap[wr.heap.size]? = _; exact heap_alloc_new wr _) (by omega))
             case rat => exact (HR1.out.old (HB.out.trans (Below.mono (show Below wr.heap.size wr (wr.alloc (.cells #[] 45)).drew from by first | exact ((Below.refl _ _).alloc (Nat.le_refl _) _).drew | exact (((Below.refl _ _).alloc (Nat.le_refl _) _).alloc (by simp) _).drew) HB.out.size)))
             case rl => rw [List.length_map, ← HN1.out]; have := HLE.out.1; simp only [List.length_nil, maxLen]; omega
             case rb => rw [List.length_map, ← HN1.out]; have := HLE.out.1; simp only [List.length_nil]; omega
             case rz => simp <;> omega
             intro v5 w5 ho5 hg5
             rw [List.nil_append] at ho5
             change World.grownBy _ _ (some _) at hg5
             have HO5 : Hid (OwnsD w5 wr.heap.size v5 a) := Lib.hid (ownsD_rec.2 ho5)
             have HB5 : Hid (Below wr.heap.size wr w5) := Lib.hid ((show Below wr.heap.size wr (wr.alloc (.cells #[] 45)).drew from by first | exact ((Below.refl _ _).alloc (Nat.le_refl _) _).drew | exact (((Below.refl _ _).alloc (Nat.le_refl _) _).alloc (by simp) _).drew).grown hg5 (by first | (simp; done) | (simp; omega)) (fun j hj => by simp only [Option.some.injEq] at hj; omega))
             have HNB : Hid True := Lib.hid trivial
             obtain ⟨o5, c5, rfl⟩ := HO5.out.form
             rw [← HN1.out] at HO5
             rw [← HN1.out]
             obtain ⟨⟨x0, x1⟩, ⟨y0, y1⟩, z0, z1, f0, f1⟩ := HX.out w5 (HB.out.trans (HB5.out.mono HB.out.size))
             clear ho5 hg5)
          | (refine step_appRecs (w := ((wr.alloc (.cells #[.int .i64 0, .slice none 0 0] 29)).alloc (.cells #[] 45)).drew) (B := A) (by rfl) _ _ _ (by rfl) wr.heap.size 45 _ 2 24 Try.underlying27 Try.infoC rfl (by decide) (.slice (some ⟨wr.heap.size + 1, 0, none⟩) 0 0) (.slice ao1 n1 cap1) [] (a.map drow) (by rfl) (by rfl) ?rown ?rat (drow_len a) (drow_one a) ?rl ?rb ?rz ?_
             case rown => exact ownsD_rec.1 (ownsD_made (by show ((wr.alloc (.cells #[.int .i64 0, .slice none 0 0] 29)).alloc (.cells #[] 45)).heap[wr.heap.size + 1]? = _; have h := heap_alloc_new (wr.alloc (.cells #[.int .i64 0, .slice none 0 0] 29)) (.cells #[] 45); simpa using h) (by omega))
             case rat => exact (HR1.out.old (HB.out.trans (Below.mono (show Below wr.heap.size wr ((wr.alloc (.cells #[.int .i64 0, .slice none 0 0] 29)).alloc (.cells #[] 45)).drew from by first | exact ((Below.refl _ _).alloc (Nat.le_refl _) _).drew | exact (((Below.refl _ _).alloc (Nat.le_refl _) _).alloc (by simp) _).drew) HB.out.size)))
             case rl => rw [List.length_map, ← HN1.out]; have := HLE.out.1; simp only [List.length_nil, maxLen]; omega
             case rb => rw [List.length_map, ← HN1.out]; have := HLE.out.1; simp only [List.length_nil]; omega
             case rz => simp <;> omega
             intro v5 w5 ho5 hg5
             rw [List.nil_append] at ho5
             change World.grownBy _ _ (some _) at hg5
             have HO5 : Hid (OwnsD w5 wr.heap.size v5 a) := Lib.hid (ownsD_rec.2 ho5)
             have HB5 : Hid (Below wr.heap.size wr w5) := Lib.hid ((show Below wr.heap.size wr ((wr.alloc (.cells #[.int .i64 0, .slice none 0 0] 29)).alloc (.cells #[] 45)).drew from by first | exact ((Below.refl _ _).alloc (Nat.le_refl _) _).drew | exact (((Below.refl _ _).alloc (Nat.le_refl _) _).alloc (by simp) _).drew).grown hg5 (by first | (simp; done) | (simp; omega)) (fun j hj => by simp only [Option.some.injEq] at hj; omega))
             have HBZ2 : Hid (SdB w5 (wr.heap.size) (.int .i64 0) (.slice none 0 0)) := Lib.hid ((hg5.block _ (by simp <;> omega) (fun h => by simp only [Option.some.injEq] at h; omega)).trans (by show ((wr.alloc (.cells #[.int .i64 0, .slice none 0 0] 29)).alloc (.cells #[] 45)).heap[wr.heap.size]? = _; exact (Below.heap_alloc _ _ _ (by simp)).trans (heap_alloc_new wr _)))
             have HQZ : Hid (wr.heap.size ≤ wr.heap.size) := Lib.hid (by omega)
             obtain ⟨o5, c5, rfl⟩ := HO5.out.form
             rw [← HN1.out] at HO5
             rw [← HN1.out]
             obtain ⟨⟨x0, x1⟩, ⟨y0, y1⟩, z0, z1, f0, f1⟩ := HX.out w5 (HB.out.trans (HB5.out.mono HB.out.size))
             clear ho5 hg5)
          | (refine step_appRecs (w := ((wr.alloc (.cells #[] 45)).alloc (.cells #[.int .i64 0, .slice none 0 0] 29)).drew) (B := A) (by rfl) _ _ _ (by rfl) wr.heap.size 45 _ 2 24 Try.underlying27 Try.infoC rfl (by decide) (.slice (some ⟨wr.heap.size, 0, none⟩) 0 0) (.slice ao1 n1 cap1) [] (a.map drow) (by rfl) (by rfl) ?rown ?rat (drow_len a) (drow_one a) ?rl ?rb ?rz ?_
             case rown => exact ownsD_rec.1 (ownsD_made (by show ((wr.alloc (.cells #[] 45)).alloc (.cells #[.int .i64 0, .slice none 0 0] 29)).heap[wr.heap.size]? = _; exact (Below.heap_alloc _ _ _ (by simp)).trans (heap_alloc_new wr _)) (by omega))
             case rat => exact (HR1.out.old (HB.out.trans (Below.mono (show Below wr.heap.size wr ((wr.alloc (.cells #[] 45)).alloc (.cells #[.int .i64 0, .slice none 0 0] 29)).drew from by first | exact ((Below.refl _ _).alloc (Nat.le_refl _) _).drew | exact (((Below.refl _ _).alloc (Nat.le_refl _) _).alloc (by simp) _).drew) HB.out.size)))
             case rl => rw [List.length_map, ← HN1.out]; have := HLE.out.1; simp only [List.length_nil, maxLen]; omega
             case rb => rw [List.length_map, ← HN1.out]; have := HLE.out.1; simp only [List.length_nil]; omega
             case rz => simp <;> omega
             intro v5 w5 ho5 hg5
             rw [List.nil_append] at ho5
             change World.grownBy _ _ (some _) at hg5
             have HO5 : Hid (OwnsD w5 wr.heap.size v5 a) := Lib.hid (ownsD_rec.2 ho5)
             have HB5 : Hid (Below wr.heap.size wr w5) := Lib.hid ((show Below wr.heap.size wr ((wr.alloc (.cells #[] 45)).alloc (.cells #[.int .i64 0, .slice none 0 0] 29)).drew from by first | exact ((Below.refl _ _).alloc (Nat.le_refl _) _).drew | exact (((Below.refl _ _).alloc (Nat.le_refl _) _).alloc (by simp) _).drew).grown hg5 (by first | (simp; done) | (simp; omega)) (fun j hj => by simp only [Option.some.injEq] at hj; omega))
             have HBZ3 : Hid (SdB w5 (wr.heap.size + 1) (.int .i64 0) (.slice none 0 0)) := Lib.hid ((hg5.block _ (by simp <;> omega) (fun h => by simp only [Option.some.injEq] at h; omega)).trans (by show ((wr.alloc (.cells #[] 45)).alloc (.cells #[.int .i64 0, .slice none 0 0] 29)).heap[wr.heap.size + 1]? = _; have h := heap_alloc_new (wr.alloc (.cells #[] 45)) (.cells #[.int .i64 0, .slice none 0 0] 29); simpa using h))
             have HQZ : Hid (wr.heap.size ≤ wr.heap.size + 1) := Lib.hid (by omega)
             obtain ⟨o5, c5, rfl⟩ := HO5.out.form
             rw [← HN1.out] at HO5
             rw [← HN1.out]
             obtain ⟨⟨x0, x1⟩, ⟨y0, y1⟩, z0, z1, f0, f1⟩ := HX.out w5 (HB.out.trans (HB5.out.mono HB.out.size))
             clear ho5 hg5)
          | (have hzz := HBZ2.out
             refine step_appRecs (w := w5) (B := B) (by rfl) _ _ _ (by rfl) wr.heap.size 45 _ 2 24 Try.underlying27 Try.infoC rfl (by decide) (.slice o5 n1 c5) (.slice ao2 n2 cap2) (a.map drow) (b.map drow) (by rfl) (by rfl) ?sown ?sat (drow_len b) (drow_one b) ?sl ?sb ?sz ?_
             case sown => first | exact ownsD_rec.1 HO5.out | exact ownsD_rec.1 (HO5.out.below ((Below.refl _ _).alloc (Nat.le_refl _) _))
             case sat => first | exact HR2.out.old (HB.out.trans (HB5.out.mono HB.out.size)) | exact HR2.out.old (HB.out.trans ((HB5.out.alloc HB5.out.size _).mono HB.out.size))
             case sl => rw [List.length_map, List.length_map, ← HN1.out, ← HN2.out]; have := HLE.out; simp only [maxLen]; omega
             case sb => rw [List.length_map, List.length_map, ← HN1.out, ← HN2.out]; have := HLE.out; omega
             case sz => have := HB5.out.size; first | exact this | (simp; omega)
             intro v6 w6 ho6 hg6
             have HO6 : Hid (OwnsD w6 wr.heap.size v6 (a ++ b)) := Lib.hid (ownsD_rec.2 (by rw [List.map_append]; exact ho6))
             have HB6 : Hid (Below wr.heap.size wr w6) := Lib.hid (by first | exact HB5.out.grown hg6 HB5.out.size (fun j hj => (HO5.out.lt j hj).1) | exact (HB5.out.alloc HB5.out.size _).grown hg6 (by have := HB5.out.size; simp; omega) (fun j hj => (HO5.out.lt j hj).1))
             obtain ⟨o6, c6, rfl⟩ := HO6.out.form
             obtain ⟨n6, hn6⟩ : ∃ n, n = (a ++ b).length := ⟨_, rfl⟩
             rw [← hn6] at HO6
             rw [← hn6]
             obtain ⟨⟨x0, x1⟩, ⟨y0, y1⟩, z0, z1, f0, f1⟩ := HX.out w6 (HB.out.trans (HB6.out.mono HB.out.size))
             have hne : (Value.slice o5 n1 c5).ownBlock ≠ some (wr.heap.size) := fun h => by
               obtain ⟨_, _, c, hc⟩ := RecOwn.block (ownsD_rec.1 HO5.out) h
               have h2 := HBZ2.out
               have := hc.symm.trans h2
               cases this
             have hbx : SdB w6 (wr.heap.size) (.int .i64 0) (.slice none 0 0) := (hg6.block _ HBZ2.out.lt (fun h => hne h.symm)).trans HBZ2.out
             obtain ⟨u0, u1, g0, g1⟩ := hbx.x
             have hn6q : (Value.slice o6 n6 c6).ownBlock = none ∨ (Value.slice o6 n6 c6).ownBlock ≠ some (wr.heap.size) := by
               cases hv : (Value.slice o6 n6 c6).ownBlock with
               | none => exact .inl rfl
               | some j =>
                 refine .inr fun h => ?_
                 cases h
                 obtain ⟨_, _, c, hc⟩ := RecOwn.block (ownsD_rec.1 HO6.out) hv
                 have := hc.symm.trans hbx
                 cases this
             have HSX : Hid (SdB ((w6.setCell ⟨wr.heap.size, 0, none⟩ (.int .i64 fa)).setCell ⟨wr.heap.size, 1, none⟩ (.slice o6 n6 c6)) (wr.heap.size) (.int .i64 fa) (.slice o6 n6 c6)) := Lib.hid (hbx.set _ _)
             have HCX : Hid (OwnsD ((w6.setCell ⟨wr.heap.size, 0, none⟩ (.int .i64 fa)).setCell ⟨wr.heap.size, 1, none⟩ (.slice o6 n6 c6)) wr.heap.size (.slice o6 n6 c6) (a ++ b)) := Lib.hid ((HO6.out.grown (grown_set _ _ _ _) hn6q).grown (grown_set _ _ _ _) hn6q)
             have HQX : Hid (wr.heap.size ≤ wr.heap.size) := Lib.hid HQZ.out
             have HBX : Hid (Below wr.heap.size wr ((w6.setCell ⟨wr.heap.size, 0, none⟩ (.int .i64 fa)).setCell ⟨wr.heap.size, 1, none⟩ (.slice o6 n6 c6))) := Lib.hid ((HB6.out.setCell HQX.out _).setCell HQX.out _)
             obtain ⟨⟨k0, k1⟩, ⟨k2, k3⟩, _⟩ := HX.out _ (HB.out.trans (HBX.out.mono HB.out.size))
             clear ho6 hg6 hn6 hne hbx hn6q)
          | (have hzz := HBZ3.out
             refine step_appRecs (w := w5) (B := B) (by rfl) _ _ _ (by rfl) wr.heap.size 45 _ 2 24 Try.underlying27 Try.infoC rfl (by decide) (.slice o5 n1 c5) (.slice ao2 n2 cap2) (a.map drow) (b.map drow) (by rfl) (by rfl) ?sown ?sat (drow_len b) (drow_one b) ?sl ?sb ?sz ?_
             case sown => first | exact ownsD_rec.1 HO5.out | exact ownsD_rec.1 (HO5.out.below ((Below.refl _ _).alloc (Nat.le_refl _) _))
             case sat => first | exact HR2.out.old (HB.out.trans (HB5.out.mono HB.out.size)) | exact HR2.out.old (HB.out.trans ((HB5.out.alloc HB5.out.size _).mono HB.out.size))
             case sl => rw [List.length_map, List.length_map, ← HN1.out, ← HN2.out]; have := HLE.out; simp only [maxLen]; omega
             case sb => rw [List.length_map, List.length_map, ← HN1.out, ← HN2.out]; have := HLE.out; omega
             case sz => have := HB5.out.size; first | exact this | (simp; omega)
             intro v6 w6 ho6 hg6
             have HO6 : Hid (OwnsD w6 wr.heap.size v6 (a ++ b)) := Lib.hid (ownsD_rec.2 (by rw [List.map_append]; exact ho6))
             have HB6 : Hid (Below wr.heap.size wr w6) := Lib.hid (by first | exact HB5.out.grown hg6 HB5.out.size (fun j hj => (HO5.out.lt j hj).1) | exact (HB5.out.alloc HB5.out.size _).grown hg6 (by have := HB5.out.size; simp; omega) (fun j hj => (HO5.out.lt j hj).1))
             obtain ⟨o6, c6, rfl⟩ := HO6.out.form
             obtain ⟨n6, hn6⟩ : ∃ n, n = (a ++ b).length := ⟨_, rfl⟩
             rw [← hn6] at HO6
             rw [← hn6]
             obtain ⟨⟨x0, x1⟩, ⟨y0, y1⟩, z0, z1, f0, f1⟩ := HX.out w6 (HB.out.trans (HB6.out.mono HB.out.size))
             have hne : (Value.slice o5 n1 c5).ownBlock ≠ some (wr.heap.size + 1) := fun h => by
               obtain ⟨_, _, c, hc⟩ := RecOwn.block (ownsD_rec.1 HO5.out) h
               have h2 := HBZ3.out
               have := hc.symm.trans h2
               cases this
             have hbx : SdB w6 (wr.heap.size + 1) (.int .i64 0) (.slice none 0 0) := (hg6.block _ HBZ3.out.lt (fun h => hne h.symm)).trans HBZ3.out
             obtain ⟨u0, u1, g0, g1⟩ := hbx.x
             have hn6q : (Value.slice o6 n6 c6).ownBlock = none ∨ (Value.slice o6 n6 c6).ownBlock ≠ some (wr.heap.size + 1) := by
               cases hv : (Value.slice o6 n6 c6).ownBlock with
               | none => exact .inl rfl
               | some j =>
                 refine .inr fun h => ?_
                 cases h
                 obtain ⟨_, _, c, hc⟩ := RecOwn.block (ownsD_rec.1 HO6.out) hv
                 have := hc.symm.trans hbx
                 cases this
             have HSX : Hid (SdB ((w6.setCell ⟨wr.heap.size + 1, 0, none⟩ (.int .i64 fa)).setCell ⟨wr.heap.size + 1, 1, none⟩ (.slice o6 n6 c6)) (wr.heap.size + 1) (.int .i64 fa) (.slice o6 n6 c6)) := Lib.hid (hbx.set _ _)
             have HCX : Hid (OwnsD ((w6.setCell ⟨wr.heap.size + 1, 0, none⟩ (.int .i64 fa)).setCell ⟨wr.heap.size + 1, 1, none⟩ (.slice o6 n6 c6)) wr.heap.size (.slice o6 n6 c6) (a ++ b)) := Lib.hid ((HO6.out.grown (grown_set _ _ _ _) hn6q).grown (grown_set _ _ _ _) hn6q)
             have HQX : Hid (wr.heap.size ≤ wr.heap.size + 1) := Lib.hid HQZ.out
             have HBX : Hid (Below wr.heap.size wr ((w6.setCell ⟨wr.heap.size + 1, 0, none⟩ (.int .i64 fa)).setCell ⟨wr.heap.size + 1, 1, none⟩ (.slice o6 n6 c6))) := Lib.hid ((HB6.out.setCell HQX.out _).setCell HQX.out _)
             obtain ⟨⟨k0, k1⟩, ⟨k2, k3⟩, _⟩ := HX.out _ (HB.out.trans (HBX.out.mono HB.out.size))
             clear ho6 hg6 hn6 hne hbx hn6q)
          | (have hnb := HNB.out
             refine step_appRecs (w := (w5.alloc (.cells #[.int .i64 0, .slice none 0 0] 29))) (B := B) (by rfl) _ _ _ (by rfl) wr.heap.size 45 _ 2 24 Try.underlying27 Try.infoC rfl (by decide) (.slice o5 n1 c5) (.slice ao2 n2 cap2) (a.map drow) (b.map drow) (by rfl) (by rfl) ?sown ?sat (drow_len b) (drow_one b) ?sl ?sb ?sz ?_
             case sown => first | exact ownsD_rec.1 HO5.out | exact ownsD_rec.1 (HO5.out.below ((Below.refl _ _).alloc (Nat.le_refl _) _))
             case sat => first | exact HR2.out.old (HB.out.trans (HB5.out.mono HB.out.size)) | exact HR2.out.old (HB.out.trans ((HB5.out.alloc HB5.out.size _).mono HB.out.size))
             case sl => rw [List.length_map, List.length_map, ← HN1.out, ← HN2.out]; have := HLE.out; simp only [maxLen]; omega
             case sb => rw [List.length_map, List.length_map, ← HN1.out, ← HN2.out]; have := HLE.out; omega
             case sz => have := HB5.out.size; first | exact this | (simp; omega)
             intro v6 w6 ho6 hg6
             have HO6 : Hid (OwnsD w6 wr.heap.size v6 (a ++ b)) := Lib.hid (ownsD_rec.2 (by rw [List.map_append]; exact ho6))
             have HB6 : Hid (Below wr.heap.size wr w6) := Lib.hid (by first | exact HB5.out.grown hg6 HB5.out.size (fun j hj => (HO5.out.lt j hj).1) | exact (HB5.out.alloc HB5.out.size _).grown hg6 (by have := HB5.out.size; simp; omega) (fun j hj => (HO5.out.lt j hj).1))
             obtain ⟨o6, c6, rfl⟩ := HO6.out.form
             obtain ⟨n6, hn6⟩ : ∃ n, n = (a ++ b).length := ⟨_, rfl⟩
             rw [← hn6] at HO6
             rw [← hn6]
             obtain ⟨⟨x0, x1⟩, ⟨y0, y1⟩, z0, z1, f0, f1⟩ := HX.out w6 (HB.out.trans (HB6.out.mono HB.out.size))
             have hne : (Value.slice o5 n1 c5).ownBlock ≠ some (w5.heap.size) := fun h => by
               have := (HO5.out.lt _ h).2
               omega
             have hbx : SdB w6 (w5.heap.size) (.int .i64 0) (.slice none 0 0) := (hg6.block _ (by simp) (fun h => hne h.symm)).trans (sdb_new w5 _ _)
             obtain ⟨u0, u1, g0, g1⟩ := hbx.x
             have hn6q : (Value.slice o6 n6 c6).ownBlock = none ∨ (Value.slice o6 n6 c6).ownBlock ≠ some (w5.heap.size) := by
               cases hv : (Value.slice o6 n6 c6).ownBlock with
               | none => exact .inl rfl
               | some j =>
                 refine .inr fun h => ?_
                 cases h
                 obtain ⟨_, _, c, hc⟩ := RecOwn.block (ownsD_rec.1 HO6.out) hv
                 have := hc.symm.trans hbx
                 cases this
             have HSX : Hid (SdB ((w6.setCell ⟨w5.heap.size, 0, none⟩ (.int .i64 fa)).setCell ⟨w5.heap.size, 1, none⟩ (.slice o6 n6 c6)) (w5.heap.size) (.int .i64 fa) (.slice o6 n6 c6)) := Lib.hid (hbx.set _ _)
             have HCX : Hid (OwnsD ((w6.setCell ⟨w5.heap.size, 0, none⟩ (.int .i64 fa)).setCell ⟨w5.heap.size, 1, none⟩ (.slice o6 n6 c6)) wr.heap.size (.slice o6 n6 c6) (a ++ b)) := Lib.hid ((HO6.out.grown (grown_set _ _ _ _) hn6q).grown (grown_set _ _ _ _) hn6q)
             have HQX : Hid (wr.heap.size ≤ w5.heap.size) := Lib.hid HB5.out.size
             have HBX : Hid (Below wr.heap.size wr ((w6.setCell ⟨w5.heap.size, 0, none⟩ (.int .i64 fa)).setCell ⟨w5.heap.size, 1, none⟩ (.slice o6 n6 c6))) := Lib.hid ((HB6.out.setCell HQX.out _).setCell HQX.out _)
             obtain ⟨⟨k0, k1⟩, ⟨k2, k3⟩, _⟩ := HX.out _ (HB.out.trans (HBX.out.mono HB.out.size))
             clear ho6 hg6 hn6 hne hbx hn6q)
          | (have hnb := HNB.out
             refine step_appRecs (w := w5) (B := B) (by rfl) _ _ _ (by rfl) wr.heap.size 45 _ 2 24 Try.underlying27 Try.infoC rfl (by decide) (.slice o5 n1 c5) (.slice ao2 n2 cap2) (a.map drow) (b.map drow) (by rfl) (by rfl) ?sown ?sat (drow_len b) (drow_one b) ?sl ?sb ?sz ?_
             case sown => first | exact ownsD_rec.1 HO5.out | exact ownsD_rec.1 (HO5.out.below ((Below.refl _ _).alloc (Nat.le_refl _) _))
             case sat => first | exact HR2.out.old (HB.out.trans (HB5.out.mono HB.out.size)) | exact HR2.out.old (HB.out.trans ((HB5.out.alloc HB5.out.size _).mono HB.out.size))
             case sl => rw [List.length_map, List.length_map, ← HN1.out, ← HN2.out]; have := HLE.out; simp only [maxLen]; omega
             case sb => rw [List.length_map, List.length_map, ← HN1.out, ← HN2.out]; have := HLE.out; omega
             case sz => have := HB5.out.size; first | exact this | (simp; omega)
             intro v6 w6 ho6 hg6
             have HO6 : Hid (OwnsD w6 wr.heap.size v6 (a ++ b)) := Lib.hid (ownsD_rec.2 (by rw [List.map_append]; exact ho6))
             have HB6 : Hid (Below wr.heap.size wr w6) := Lib.hid (by first | exact HB5.out.grown hg6 HB5.out.size (fun j hj => (HO5.out.lt j hj).1) | exact (HB5.out.alloc HB5.out.size _).grown hg6 (by have := HB5.out.size; simp; omega) (fun j hj => (HO5.out.lt j hj).1))
             obtain ⟨o6, c6, rfl⟩ := HO6.out.form
             obtain ⟨n6, hn6⟩ : ∃ n, n = (a ++ b).length := ⟨_, rfl⟩
             rw [← hn6] at HO6
             rw [← hn6]
             obtain ⟨⟨x0, x1⟩, ⟨y0, y1⟩, z0, z1, f0, f1⟩ := HX.out w6 (HB.out.trans (HB6.out.mono HB.out.size))
             have hal : Below w6.heap.size w6 (w6.alloc (.cells #[.int .i64 fa, .slice o6 n6 c6] 29)) := (Below.refl _ _).alloc (Nat.le_refl _) _
             have HSX : Hid (SdB (w6.alloc (.cells #[.int .i64 fa, .slice o6 n6 c6] 29)) w6.heap.size (.int .i64 fa) (.slice o6 n6 c6)) := Lib.hid (sdb_new _ _ _)
             have HCX : Hid (OwnsD (w6.alloc (.cells #[.int .i64 fa, .slice o6 n6 c6] 29)) wr.heap.size (.slice o6 n6 c6) (a ++ b)) := Lib.hid (HO6.out.below hal)
             have HBX : Hid (Below wr.heap.size wr (w6.alloc (.cells #[.int .i64 fa, .slice o6 n6 c6] 29))) := Lib.hid (HB6.out.trans (hal.mono HB6.out.size))
             have HQX : Hid (wr.heap.size ≤ w6.heap.size) := Lib.hid HB6.out.size
             clear ho6 hg6 hn6 hal))
        all_goals
          go_wp2
          go_meet
          case rel => exact ⟨_, _, rfl, HSX.out, HCX.out, HBX.out, HQX.out⟩
      case rest =>
        obtain ⟨q, vj, rfl, hbq, hov, hbx, hqq⟩ := hcut
        obtain ⟨oj, cj0, rfl⟩ := hov.form
        obtain ⟨nj, hnj⟩ : ∃ n, n = (a ++ b).length := ⟨_, rfl⟩
        rw [← hnj] at hbq hov
        have HBQ := Lib.hid hbq
        have HOV := Lib.hid hov
        have HBXW : Hid (Below W1.heap.size W1 wc) := Lib.hid (HB.out.trans (hbx.mono HB.out.size))
        have HCK := Lib.hid (rsgcheck_any fa _ (a ++ b) wc _ hov.dc HFA.out)
        obtain ⟨cj, hcj⟩ : ∃ c, c = sgC fa (a ++ b) := ⟨_, rfl⟩
        rw [← hcj] at HCK
        have HCJ := Lib.hid hcj
        obtain ⟨p0, p1, _, _⟩ := hbq.x
        clear hbq hov hbx hqq hnj hcj x0 x1 y0 y1 z0 z1 f0 f1
        go_wp2_with fail
        refine HCK.out.mono ?_
        rintro e w5 ⟨rfl, hb5⟩
        have HB5 : Hid (Below W1.heap.size W1 w5) := Lib.hid (HBXW.out.trans (hb5.mono HBXW.out.size))
        obtain ⟨p0, p1, _, _⟩ := (HBQ.out.old hb5).x
        have HO5 := Lib.hid (HOV.out.below hb5)
        obtain ⟨⟨x0, x1⟩, ⟨y0, y1⟩, z0, z1, f0, f1⟩ := HX.out w5 HB5.out
        have HSZ : Hid (w.heap.size + 1 + 1 < wr.heap.size) := Lib.hid (HZ1.out.old HB.out).lt
        clear hb5
        by_cases g4 : cj = 0
        rotate_left
        · have gb : ((cj : Int) != 0) = true := by simp; omega
          have HE : Hid (sgJ fa a fb b = (0, [], cj)) := Lib.hid (by
            unfold sgJ; rw [if_neg (by rw [HA0.out]; decide), if_neg (by rw [HB0.out]; decide), if_neg HFM.out, if_pos (by rw [← HCJ.out]; exact g4), ← HCJ.out])
          clear g4
          go_wp2
          refine bodyPost_ret (v := .tuple #[.agg #[.int .i64 0, .slice none 0 0], .int .i64 (cj : Int)]) (by simp [results, Try.results22, go_sem, z0, z1]) rfl ?_
          exact HBAD.out cj w5 HE.out HB5.out
        have gb : ((cj : Int) != 0) = false := by simp [g4]
        have HE : Hid (sgJ fa a fb b = (fa, a ++ b, 0)) := Lib.hid (by
            unfold sgJ; rw [if_neg (by rw [HA0.out]; decide), if_neg (by rw [HB0.out]; decide), if_neg HFM.out, if_neg (by rw [← HCJ.out, g4]; decide)])
        clear g4
        go_wp2
        refine bodyPost_ret (v := .tuple #[.agg #[.int .i64 fa, .slice oj nj cj0], .int .i64 0]) (by simp [results, Try.results22, go_sem, z0, z1]) rfl ?_
        rw [HE.out]
        refine ⟨((HB1.out.trans (HB5.out.mono HB1.out.size)).setCell ?_ _).setCell ?_ _, _, rfl, ?_⟩
        · show w.heap.size ≤ w.heap.size + 1 + 1; omega
        · show w.heap.size ≤ w.heap.size + 1 + 1; omega
        · exact (((HO5.out.set HSZ.out _ _).set HSZ.out _ _).mono (by have := HSZ.out; omega)).dc

end Go.Proofs.Ytojndpelilolkaa
