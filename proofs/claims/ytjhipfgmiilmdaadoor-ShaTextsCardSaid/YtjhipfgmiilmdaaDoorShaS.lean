/- The program's state behind a block. -/
import Derived.Test.YtjhipfgmiilmdaaDoorShaR
namespace Go.Proofs.YtjhipfgmiilmdaaDoor
open Go.RowKit

/-- The program's table of constants, and its first state, lie where they were laid. -/
structure Laid (w : World) : Prop where
  size : 2 ≤ w.heap.size
  k : ∀ i, i < 64 → w.cell? ⟨1, i, none⟩ = some (.int .u32 ((shaK.getD i 0 : Nat) : Int))
  h : ∃ t fr, w.heap[0]? = some (.cells (vals .u32 shaH).toArray t fr)
theorem Laid.below {B : Nat} {w w' : World} (h : Laid w) (hb : Below B w w') (hB : 2 ≤ B) : Laid w' :=
  ⟨Nat.le_trans h.size hb.size, fun i hi => (hb.cell (p := ⟨1, i, none⟩) (by show (1 : Nat) < B; omega)).trans (h.k i hi), by rw [hb.block 0 (by omega)]; exact h.h⟩
theorem Laid.next {w w' : World} (h : Laid w) (hb : Below w.heap.size w w') : Laid w' := h.below hb h.size
theorem Laid.drewN {w : World} (h : Laid w) (n : Nat) : Laid (w.drewN n) := ⟨h.size, h.k, h.h⟩
theorem Laid.drew {w : World} (h : Laid w) : Laid w.drew := ⟨h.size, h.k, h.h⟩

theorem cell_of_row {w : World} {g : Nat} {k : IntKind} {l : List Nat} {t : TypeId} {fr : Nat × Nat} (h : w.heap[g]? = some (.cells (vals k l).toArray t fr)) (i : Nat) (hi : i < l.length) : w.cell? ⟨g, i, none⟩ = some (.int k ((l.getD i 0 : Nat) : Int)) := by
  have := vals_get k l i hi
  simpa [World.cell?, h] using this

def zeros8 : Array Value := #[.int .u32 0, .int .u32 0, .int .u32 0, .int .u32 0, .int .u32 0, .int .u32 0, .int .u32 0, .int .u32 0]
/-- The blocks of a call of behind: the state, the words, the answer. -/
structure Bd (w wr : World) (S W : List Nat) : Prop where
  below : Below w.heap.size w wr
  size : w.heap.size + 3 ≤ wr.heap.size
  st : wr.heap[w.heap.size]? = some (.cells (vals .u32 S).toArray 59 (0, 0))
  ws : wr.heap[w.heap.size + 1]? = some (.cells (vals .u32 W).toArray 69 (0, 0))
  res : wr.heap[w.heap.size + 1 + 1]? = some (.cells zeros8 59 (0, 0))
theorem Bd.drewN {w wr : World} {S W : List Nat} (h : Bd w wr S W) (n : Nat) : Bd w (wr.drewN n) S W := ⟨⟨h.below.os, h.below.tape, h.below.output, h.below.size, h.below.block⟩, h.size, h.st, h.ws, h.res⟩
theorem Bd.new (w : World) (S W : List Nat) : Bd w (((w.alloc (.cells (vals .u32 S).toArray 59)).alloc (.cells (vals .u32 W).toArray 69)).alloc (.cells zeros8 59)) S W := by
  have h1 := heap_alloc_new w (.cells (vals .u32 S).toArray 59)
  generalize hw1 : w.alloc (.cells (vals .u32 S).toArray 59) = w1 at h1 ⊢
  have s1 : w1.heap.size = w.heap.size + 1 := by rw [← hw1]; simp
  have b1 : Below w.heap.size w w1 := by rw [← hw1]; exact (Below.refl _ _).alloc (Nat.le_refl _) _
  have h2 := heap_alloc_new w1 (.cells (vals .u32 W).toArray 69)
  generalize hw2 : w1.alloc (.cells (vals .u32 W).toArray 69) = w2 at h2 ⊢
  have s2 : w2.heap.size = w.heap.size + 1 + 1 := by rw [← hw2]; simp [s1]
  have k1 : w2.heap[w.heap.size]? = some (.cells (vals .u32 S).toArray 59 (0, 0)) := by rw [← hw2, Below.heap_alloc _ _ _ (by omega)]; exact h1
  have b2 : Below w.heap.size w w2 := by rw [← hw2]; exact b1.alloc (by omega) _
  have h3 := heap_alloc_new w2 (.cells zeros8 59)
  rw [s1] at h2
  rw [s2] at h3
  refine ⟨b2.alloc (by omega) _, by simp; omega, ?_, ?_, ?_⟩
  · rw [Below.heap_alloc _ _ _ (by omega)]; exact k1
  · rw [Below.heap_alloc _ _ _ (by omega)]; exact h2
  · exact h3

theorem nat_sum (x s : Nat) : ((x : Int) + (s : Int)) % 4294967296 = (((x + s) % 4294967296 : Nat) : Int) := by omega
theorem agg8 (x0 x1 x2 x3 x4 x5 x6 x7 sa sb sc sd se sf sg sh : Nat) : (Value.agg #[.int .u32 (((x0 : Int) + (sa : Int)) % 4294967296), .int .u32 (((x1 : Int) + (sb : Int)) % 4294967296), .int .u32 (((x2 : Int) + (sc : Int)) % 4294967296), .int .u32 (((x3 : Int) + (sd : Int)) % 4294967296), .int .u32 (((x4 : Int) + (se : Int)) % 4294967296), .int .u32 (((x5 : Int) + (sf : Int)) % 4294967296), .int .u32 (((x6 : Int) + (sg : Int)) % 4294967296), .int .u32 (((x7 : Int) + (sh : Int)) % 4294967296)]) = .agg (vals .u32 [(x0 + sa) % 4294967296, (x1 + sb) % 4294967296, (x2 + sc) % 4294967296, (x3 + sd) % 4294967296, (x4 + se) % 4294967296, (x5 + sf) % 4294967296, (x6 + sg) % 4294967296, (x7 + sh) % 4294967296]).toArray := by
  simp only [nat_sum]
  rfl
theorem row_one (k : IntKind) (l : List Nat) : (vals k l).toArray.all (·.oneCell') = true := by
  rw [Array.all_eq_true_iff_forall_mem]
  intro u hu
  exact vals_oneCell _ _ u (by simpa using hu)

theorem getD_bd {l : List Nat} (h : ∀ y ∈ l, y < 4294967296) (i : Nat) : l.getD i 0 < 4294967296 := getD_lt h (by decide) i

set_option maxHeartbeats 4000000 in
set_option maxRecDepth 1000000 in
theorem behind_aux (S W A : List Nat) (w : World) (HA : Hid (A = addSt S (rnds shaK W (stOf S) 64))) (hS : ∀ y ∈ S, y < 4294967296) (hSl : S.length = 8) (hW : ∀ y ∈ W, y < 4294967296) (hWl : W.length = 64) (hk : Laid w) :
    Calls Tryd.prog 28 #[.agg (vals .u32 S).toArray, .agg (vals .u32 W).toArray] w fun e w' => e = .returned (.agg (vals .u32 A).toArray) ∧ Below w.heap.size w w' := by
  go_enter Tryd.func28, Tryd.ntmps28
  go_wp2
  have hz := Bd.new w S W
  unfold zeros8 at hz
  generalize hwz : ((w.alloc (.cells (vals .u32 S).toArray 59)).alloc (.cells (vals .u32 W).toArray 69)).alloc (.cells #[Value.int .u32 0, Value.int .u32 0, Value.int .u32 0, Value.int .u32 0, Value.int .u32 0, Value.int .u32 0, Value.int .u32 0, Value.int .u32 0] 59) = wz at hz ⊢
  have hLD : Laid wz := hk.next hz.below
  have f0 := cell_of_row hz.st 0 (by omega)
  have f1 := cell_of_row hz.st 1 (by omega)
  have f2 := cell_of_row hz.st 2 (by omega)
  have f3 := cell_of_row hz.st 3 (by omega)
  have f4 := cell_of_row hz.st 4 (by omega)
  have f5 := cell_of_row hz.st 5 (by omega)
  have f6 := cell_of_row hz.st 6 (by omega)
  have f7 := cell_of_row hz.st 7 (by omega)
  have hst := stOf_lt hS
  have HADD : Hid (∀ s : St, s = rnds shaK W ⟨S.getD 0 0, S.getD 1 0, S.getD 2 0, S.getD 3 0, S.getD 4 0, S.getD 5 0, S.getD 6 0, S.getD 7 0⟩ 64 → A = [(S.getD 0 0 + s.a) % 4294967296, (S.getD 1 0 + s.b) % 4294967296, (S.getD 2 0 + s.c) % 4294967296, (S.getD 3 0 + s.d) % 4294967296, (S.getD 4 0 + s.e) % 4294967296, (S.getD 5 0 + s.f) % 4294967296, (S.getD 6 0 + s.g) % 4294967296, (S.getD 7 0 + s.h) % 4294967296]) := Lib.hid (fun s hs => by rw [HA.out, hs]; rfl)
  have hSTE : stOf S = ⟨S.getD 0 0, S.getD 1 0, S.getD 2 0, S.getD 3 0, S.getD 4 0, S.getD 5 0, S.getD 6 0, S.getD 7 0⟩ := rfl
  have HST : Hid (StLt ⟨S.getD 0 0, S.getD 1 0, S.getD 2 0, S.getD 3 0, S.getD 4 0, S.getD 5 0, S.getD 6 0, S.getD 7 0⟩) := Lib.hid (by rw [← hSTE]; exact hst)
  have b0 := getD_bd hS 0
  have b1 := getD_bd hS 1
  have b2 := getD_bd hS 2
  have b3 := getD_bd hS 3
  have b4 := getD_bd hS 4
  have b5 := getD_bd hS 5
  have b6 := getD_bd hS 6
  have b7 := getD_bd hS 7
  have HZ := Lib.hid hz
  have HLD := Lib.hid hLD
  clear hSTE hst hz hLD hk hwz
  generalize S.getD 0 0 = x0 at f0 b0 HST HADD
  generalize S.getD 1 0 = x1 at f1 b1 HST HADD
  generalize S.getD 2 0 = x2 at f2 b2 HST HADD
  generalize S.getD 3 0 = x3 at f3 b3 HST HADD
  generalize S.getD 4 0 = x4 at f4 b4 HST HADD
  generalize S.getD 5 0 = x5 at f5 b5 HST HADD
  generalize S.getD 6 0 = x6 at f6 b6 HST HADD
  generalize S.getD 7 0 = x7 at f7 b7 HST HADD
  go_wp2_with fail
  go_quiet (fail)
  go_wp2
  have HZ1 := Lib.hid (HZ.out.drewN nq)
  have HLD1 := Lib.hid (HLD.out.drewN nq)
  have k0 : (wz.drewN nq).cell? ⟨w.heap.size, 0, none⟩ = _ := f0
  have k1 : (wz.drewN nq).cell? ⟨w.heap.size, 1, none⟩ = _ := f1
  have k2 : (wz.drewN nq).cell? ⟨w.heap.size, 2, none⟩ = _ := f2
  have k3 : (wz.drewN nq).cell? ⟨w.heap.size, 3, none⟩ = _ := f3
  have k4 : (wz.drewN nq).cell? ⟨w.heap.size, 4, none⟩ = _ := f4
  have k5 : (wz.drewN nq).cell? ⟨w.heap.size, 5, none⟩ = _ := f5
  have k6 : (wz.drewN nq).cell? ⟨w.heap.size, 6, none⟩ = _ := f6
  have k7 : (wz.drewN nq).cell? ⟨w.heap.size, 7, none⟩ = _ := f7
  generalize wz.drewN nq = w1 at HZ1 HLD1 k0 k1 k2 k3 k4 k5 k6 k7 ⊢
  clear f0 f1 f2 f3 f4 f5 f6 f7 HZ HLD
  have KF := Lib.hid (And.intro k0 (And.intro k1 (And.intro k2 (And.intro k3 (And.intro k4 (And.intro k5 (And.intro k6 k7)))))))
  clear k0 k1 k2 k3 k4 k5 k6 k7
  go_loopw [5, 6, 7, 8, 9, 10, 11, 12, 34] (fun va vb vc vd ve vf vg vh tv wr => ∃ (t : Nat) (s : St), t ≤ 64 ∧ tv = .int .i64 (t : Int) ∧ s = rnds shaK W ⟨x0, x1, x2, x3, x4, x5, x6, x7⟩ t ∧ va = .int .u32 (s.a : Int) ∧ vb = .int .u32 (s.b : Int) ∧ vc = .int .u32 (s.c : Int) ∧ vd = .int .u32 (s.d : Int) ∧ ve = .int .u32 (s.e : Int) ∧ vf = .int .u32 (s.f : Int) ∧ vg = .int .u32 (s.g : Int) ∧ vh = .int .u32 (s.h : Int) ∧ ∃ d, wr = w1.drewN d)
    (fun _ _ _ _ _ _ _ _ tv _ => 64 - (intOf tv).toNat)
  case atStart => exact ⟨0, _, Nat.zero_le _, rfl, rfl, rfl, rfl, rfl, rfl, rfl, rfl, rfl, rfl, 0, rfl⟩
  case round =>
    obtain ⟨t, s, ht, rfl, hs, rfl, rfl, rfl, rfl, rfl, rfl, rfl, rfl, d5, rfl⟩ := hrel
    have hlt5 : StLt s := hs ▸ rnds_lt _ _ HST.out t
    by_cases h64 : t < 64
    · have h64i : (t : Int) < 64 := by omega
      have t0i : (0 : Int) ≤ (t : Int) := by omega
      have HN : Hid (rnds shaK W ⟨x0, x1, x2, x3, x4, x5, x6, x7⟩ (t + 1) = rnd s (shaK.getD t 0) (W.getD t 0)) := Lib.hid (by rw [hs]; rfl)
      have kc : (w1.drewN d5).cell? ⟨1, t, none⟩ = _ := HLD1.out.k t h64
      have wc : (w1.drewN d5).cell? ⟨w.heap.size + 1, t, none⟩ = _ := cell_of_row HZ1.out.ws t (by omega)
      have kb : shaK.getD t 0 < 4294967296 := getD_lt (l := shaK) (by decide) (by decide) t
      have wb : W.getD t 0 < 4294967296 := getD_bd hW t
      obtain ⟨sa, sb, sc, sd, se, sf, sg, sh⟩ := s
      obtain ⟨la, lb, lc, ld, le, lf, lg, lh⟩ := hlt5
      dsimp only at la lb lc ld le lf lg lh ⊢
      have HNX : Hid (rnds shaK W ⟨x0, x1, x2, x3, x4, x5, x6, x7⟩ (t + 1) = ⟨((sh + big1 se + chs se sf sg + shaK.getD t 0 + W.getD t 0) % 4294967296 + (big0 sa + maj sa sb sc) % 4294967296) % 4294967296, sa, sb, sc, (sd + (sh + big1 se + chs se sf sg + shaK.getD t 0 + W.getD t 0) % 4294967296) % 4294967296, se, sf, sg⟩) := Lib.hid HN.out
      clear HN hs
      generalize shaK.getD t 0 = kt at kc kb HNX
      generalize W.getD t 0 = wt at wc wb HNX
      have t6 := fun w => pturn_lit se 6 6 rfl w le (by decide) (by decide)
      have t11 := fun w => pturn_lit se 11 11 rfl w le (by decide) (by decide)
      have t25 := fun w => pturn_lit se 25 25 rfl w le (by decide) (by decide)
      have t2 := fun w => pturn_lit sa 2 2 rfl w la (by decide) (by decide)
      have t13 := fun w => pturn_lit sa 13 13 rfl w la (by decide) (by decide)
      have t22 := fun w => pturn_lit sa 22 22 rfl w la (by decide) (by decide)
      have e1 := u32_xor_nat (rot se 6) (rot se 11) (rot_lt le) (rot_lt le)
      have e2 : bits .xor .u32 ((rot se 6 ^^^ rot se 11 : Nat) : Int) ((rot se 25 : Nat) : Int) = ((big1 se : Nat) : Int) := u32_xor_nat _ _ (Nat.xor_lt_two_pow (n := 32) (rot_lt le) (rot_lt le)) (rot_lt le)
      have e3 := u32_xor_nat (rot sa 2) (rot sa 13) (rot_lt la) (rot_lt la)
      have e4 : bits .xor .u32 ((rot sa 2 ^^^ rot sa 13 : Nat) : Int) ((rot sa 22 : Nat) : Int) = ((big0 sa : Nat) : Int) := u32_xor_nat _ _ (Nat.xor_lt_two_pow (n := 32) (rot_lt la) (rot_lt la)) (rot_lt la)
      have f1 := u32_and_nat se sf le lf
      have f2 : bits .xor .u32 (if IntKind.u32.signed = true then -1 else IntKind.u32.max) (se : Int) = ((se ^^^ 4294967295 : Nat) : Int) := w32_not se le
      have lne : se ^^^ 4294967295 < 4294967296 := Nat.xor_lt_two_pow (n := 32) le (by decide)
      have f3 := u32_and_nat (se ^^^ 4294967295) sg lne lg
      have f4 : bits .xor .u32 ((se &&& sf : Nat) : Int) (((se ^^^ 4294967295) &&& sg : Nat) : Int) = ((chs se sf sg : Nat) : Int) := u32_xor_nat _ _ (Nat.and_lt_two_pow (n := 32) _ lf) (Nat.and_lt_two_pow (n := 32) _ lg)
      have g1 := u32_and_nat sa sb la lb
      have g2 := u32_and_nat sa sc la lc
      have g3 := u32_and_nat sb sc lb lc
      have g4 := u32_xor_nat (sa &&& sb) (sa &&& sc) (Nat.and_lt_two_pow (n := 32) _ lb) (Nat.and_lt_two_pow (n := 32) _ lc)
      have g5 : bits .xor .u32 ((sa &&& sb ^^^ sa &&& sc : Nat) : Int) ((sb &&& sc : Nat) : Int) = ((maj sa sb sc : Nat) : Int) := u32_xor_nat _ _ (Nat.xor_lt_two_pow (n := 32) (Nat.and_lt_two_pow (n := 32) _ lb) (Nat.and_lt_two_pow (n := 32) _ lc)) (Nat.and_lt_two_pow (n := 32) _ lc)
      generalize big1 se = B1 at e2 HNX
      generalize big0 sa = B0 at e4 HNX
      generalize chs se sf sg = CH at f4 HNX
      generalize maj sa sb sc = MJ at g5 HNX
      generalize rot se 6 ^^^ rot se 11 = z1 at e1 e2
      generalize rot sa 2 ^^^ rot sa 13 = z2 at e3 e4
      generalize rot se 6 = r6 at t6 e1
      generalize rot se 11 = r11 at t11 e1
      generalize rot se 25 = r25 at t25 e2
      generalize rot sa 2 = r2 at t2 e3
      generalize rot sa 13 = r13 at t13 e3
      generalize rot sa 22 = r22 at t22 e4
      generalize sa &&& sb ^^^ sa &&& sc = m4 at g4 g5
      generalize (se ^^^ 4294967295) &&& sg = n3 at f3 f4
      generalize se ^^^ 4294967295 = n2 at f2 f3
      generalize se &&& sf = n1 at f1 f4
      generalize sa &&& sb = m1 at g1 g4
      generalize sa &&& sc = m2 at g2 g4
      generalize sb &&& sc = m3 at g3 g5
      have T6 := Lib.hid t6
      have T11 := Lib.hid t11
      have T25 := Lib.hid t25
      have T2 := Lib.hid t2
      have T13 := Lib.hid t13
      have T22 := Lib.hid t22
      clear t6 t11 t25 t2 t13 t22 lne
      generalize hw5 : w1.drewN d5 = w5 at kc wc ⊢
      have HW5 := Lib.hid hw5; clear hw5
      go_wp2_with fail
      go_quiet ((go_at_call 36; first | (with_reducible exact Calls.quiet_of_same (T6.out _)) | (with_reducible exact Calls.quiet_of_same (T11.out _)) | (with_reducible exact Calls.quiet_of_same (T25.out _))))
      go_wp2_with fail
      refine (T2.out _).mono ?_
      rintro e w' ⟨rfl, rfl⟩
      go_wp2_with fail
      refine (T13.out _).mono ?_
      rintro e w' ⟨rfl, rfl⟩
      go_wp2_with fail
      refine (T22.out _).mono ?_
      rintro e w' ⟨rfl, rfl⟩
      go_wp2
      go_roundw
      case rel => exact ⟨t + 1, _, by omega, by go_num, HNX.out.symm, u32_eq (by dsimp only; omega), rfl, rfl, rfl, u32_eq (by dsimp only; omega), rfl, rfl, rfl, d5 + nq, by rw [← HW5.out, World.drewN_drewN]⟩
      case measure => simp [intOf]; omega
    · obtain rfl : t = 64 := by omega
      have HAE := Lib.hid (HADD.out s hs)
      obtain ⟨sa, sb, sc, sd, se, sf, sg, sh⟩ := s
      obtain ⟨la, lb, lc, ld, le, lf, lg, lh⟩ := hlt5
      dsimp only at la lb lc ld le lf lg lh HAE ⊢
      have HZ5 := Lib.hid (HZ1.out.drewN d5)
      obtain ⟨k0, k1, k2, k3, k4, k5, k6, k7⟩ := KF.out
      have f0 : (w1.drewN d5).cell? ⟨w.heap.size, 0, none⟩ = _ := k0
      have f1 : (w1.drewN d5).cell? ⟨w.heap.size, 1, none⟩ = _ := k1
      have f2 : (w1.drewN d5).cell? ⟨w.heap.size, 2, none⟩ = _ := k2
      have f3 : (w1.drewN d5).cell? ⟨w.heap.size, 3, none⟩ = _ := k3
      have f4 : (w1.drewN d5).cell? ⟨w.heap.size, 4, none⟩ = _ := k4
      have f5 : (w1.drewN d5).cell? ⟨w.heap.size, 5, none⟩ = _ := k5
      have f6 : (w1.drewN d5).cell? ⟨w.heap.size, 6, none⟩ = _ := k6
      have f7 : (w1.drewN d5).cell? ⟨w.heap.size, 7, none⟩ = _ := k7
      generalize w1.drewN d5 = w5 at HZ5 f0 f1 f2 f3 f4 f5 f6 f7 ⊢
      clear k0 k1 k2 k3 k4 k5 k6 k7 KF hs HADD HST HZ1 HLD1
      have hAs : (Tryd.prog.info? 59).map (·.size) = some (vals .u32 A).toArray.size := by rw [HAE.out]; kernel_rfl
      have hA1 : (vals .u32 A).toArray.all (·.oneCell') = true := row_one _ _
      have hAz : zeros8.size = (vals .u32 A).toArray.size := by rw [HAE.out]; rfl
      have hAG := agg8 x0 x1 x2 x3 x4 x5 x6 x7 sa sb sc sd se sf sg sh
      rw [← HAE.out] at hAG
      have HAG := Lib.hid hAG
      clear hAG
      go_wp2_with ((with_reducible show wpList _ _ _ (Oper.mk none _ _ _ _ _ :: _) _ _); refine wpList_store_row rfl 59 (.tmp 4) (.tmp 131) rfl (w.heap.size + 1 + 1) (vals .u32 A).toArray rfl HAG.out _ _ HZ5.out.res hAs hAz hA1 ?_)
      refine bodyPost_ret (v := .agg (vals .u32 A).toArray) (results_cell_row (p := 4) rfl _ _ (w.heap.size + 1 + 1) _ _ _ _ rfl (setRow_heap _ _ _ _ _ _ HZ5.out.res) Tryd.underlying59 rfl hAs) rfl ?_
      exact ⟨rfl, HZ5.out.below.trans ⟨rfl, rfl, rfl, by simp [World.setRow], fun k hk => setRow_other _ _ k _ (by omega)⟩⟩

theorem behind_any (S W : List Nat) (w : World) (hS : ∀ y ∈ S, y < 4294967296) (hSl : S.length = 8) (hW : ∀ y ∈ W, y < 4294967296) (hWl : W.length = 64) (hk : Laid w) :
    Calls Tryd.prog 28 #[.agg (vals .u32 S).toArray, .agg (vals .u32 W).toArray] w fun e w' => e = .returned (.agg (vals .u32 (addSt S (rnds shaK W (stOf S) 64))).toArray) ∧ Below w.heap.size w w' :=
  behind_aux S W _ w (Lib.hid rfl) hS hSl hW hWl hk

end Go.Proofs.YtjhipfgmiilmdaaDoor
