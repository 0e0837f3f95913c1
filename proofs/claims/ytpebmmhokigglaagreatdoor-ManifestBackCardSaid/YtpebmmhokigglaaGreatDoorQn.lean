/- The document's own segments: Document, Check, Same, Put; alive. · The document's own segments: Check, Same, Put; alive. · alive of law 14; the document's Put. -/
import Derived.Test.YtpebmmhokigglaaGreatDoorQm
import Derived.Test.YtpebmmhokigglaaGreatDoorRecB
import Derived.Deep.RegionHeld3
import Derived.Deep.RegionHeldLaw
namespace Go.Proofs.YtpebmmhokigglaaGreatDoor
open Go.RowKit

/-- A cell of the document's, its values. -/
def drow (c : IC) : List Value := [.int .i64 c.1, .string (S8 c.2)]
theorem drow_flat (l : List IC) : (l.map drow).flatten = dvals l := by
  induction l with
  | nil => rfl
  | cons x r ih => simp only [List.map_cons, List.flatten_cons, ih]; rfl
theorem ownsD_rec {w : World} {base : Nat} {v : Value} {l : List IC} : OwnsD w base v l ↔ RecOwn w base 77 2 v (l.map drow) := by
  unfold OwnsD RecOwn
  rw [List.length_map, drow_flat]
  exact ⟨fun h => ⟨fun r hr => by obtain ⟨x, _, rfl⟩ := List.mem_map.1 hr; rfl, h⟩, fun h => h.2⟩
/-- A row of the document's cells that reads. -/
def Dc (w : World) (B : Nat → Prop) (v : Value) (cs : List IC) : Prop := RecAt w B 2 v (cs.map drow)
theorem OwnsD.dc {w : World} {base : Nat} {v : Value} {cs : List IC} (h : OwnsD w base v cs) : Dc w (fun j => base ≤ j) v cs := (ownsD_rec.1 h).at'.mono fun _ _ h => h.2
theorem Dc.keep {w w' : World} {B : Nat → Prop} {v : Value} {cs : List IC} (h : Dc w B v cs) (hk : Kept B w w') : Dc w' B v cs := RecAt.keep h hk
theorem Dc.old {w w' : World} {B : Nat → Prop} {v : Value} {cs : List IC} (h : Dc w B v cs) (hb : Below w.heap.size w w') : Dc w' B v cs := h.keep (kept_new hb B)
theorem Dc.mono {w : World} {B C : Nat → Prop} {v : Value} {cs : List IC} (h : Dc w B v cs) (hc : ∀ j, j < w.heap.size → B j → C j) : Dc w C v cs := RecAt.mono h hc
theorem Dc.val {w : World} {B : Nat → Prop} {v : Value} {cs : List IC} (h : Dc w B v cs) : ∃ ao cap, v = .slice ao cs.length cap ∧ cs.length ≤ cap ∧ cap ≤ maxLen ∧ (ao = none → cap = 0) := by
  obtain ⟨ao, cap, h1, h2, h3, h4⟩ := RecAt.val h
  rw [List.length_map] at h1 h2
  exact ⟨ao, cap, h1, h2, h3, h4⟩
theorem Dc.at {w : World} {B : Nat → Prop} {ao : Option Addr} {n cap : Nat} {cs : List IC} (h : Dc w B (.slice ao n cap) cs) {i : Nat} (hi : i < cs.length) :
    ∃ b off, ao = some ⟨b, off, none⟩ ∧ b < w.heap.size ∧ B b ∧ w.cell? ⟨b, off + i * 2, none⟩ = some (.int .i64 (cs.getD i (0, [])).1) ∧ w.cell? ⟨b, off + i * 2 + 1, none⟩ = some (.string (S8 (cs.getD i (0, [])).2)) := by
  obtain ⟨ao', cap', hv, h1, h2, h3, h4⟩ := h
  cases hv
  rcases h4 with h4 | ⟨b, off, ha, hb, hB, hc⟩
  · rw [List.map_eq_nil_iff] at h4
    subst h4
    simp at hi
  · have hr : (cs.map drow)[i]? = some (drow (cs.getD i (0, []))) := by
      rw [List.getElem?_map, List.getD_eq_getElem?_getD, List.getElem?_eq_getElem hi]; rfl
    exact ⟨b, off, ha, hb, hB, hc i _ hr 0 _ rfl, hc i _ hr 1 _ rfl⟩

/-- A box of the document's segment. -/
def SdB (w : World) (q : Nat) (x y : Value) : Prop := w.heap[q]? = some (.cells #[x, y] 34 (0, 0))
theorem SdB.lt {w : World} {q : Nat} {x y : Value} (h : SdB w q x y) : q < w.heap.size := (Array.getElem?_eq_some_iff.1 h).1
theorem SdB.low {w w' : World} {B q : Nat} {x y : Value} (h : SdB w q x y) (hb : Below B w w') (hq : q < B) : SdB w' q x y := (hb.block _ hq).trans h
theorem SdB.old {w w' : World} {q : Nat} {x y : Value} (h : SdB w q x y) (hb : Below w.heap.size w w') : SdB w' q x y := h.low hb h.lt
theorem SdB.x {w : World} {q : Nat} {x y : Value} (h : SdB w q x y) : w.cell? ⟨q, 0, none⟩ = some x ∧ w.cell? ⟨q, 1, none⟩ = some y ∧ w.frozen? ⟨q, 0, none⟩ = false ∧ w.frozen? ⟨q, 1, none⟩ = false := blk2 h
theorem sdb_new (w : World) (x y : Value) : SdB (w.alloc (.cells #[x, y] 34)) w.heap.size x y := heap_alloc_new _ _
theorem SdB.set {w : World} {q : Nat} {x y : Value} (h : SdB w q x y) (a b : Value) : SdB ((w.setCell ⟨q, 0, none⟩ a).setCell ⟨q, 1, none⟩ b) q a b := by
  unfold SdB at h ⊢
  rw [heap_setCell_same _ _ 1 _ _ _ (heap_setCell_same _ _ 0 _ _ _ h)]
  rfl
/-- A block ahead of what is owned is written. -/
theorem OwnsD.set {w : World} {base : Nat} {v : Value} {cs : List IC} (h : OwnsD w base v cs) {q : Nat} (hq : q < base) (i : Nat) (x : Value) : OwnsD (w.setCell ⟨q, i, none⟩ x) base v cs := by
  refine h.grown (grown_set w q i x) ?_
  cases hv : v.ownBlock with
  | none => exact .inl rfl
  | some j => exact .inr fun e => by have := (h.lt j hv).1; cases e; omega

set_option maxHeartbeats 2000000 in
set_option maxRecDepth 100000 in
theorem document14_any (f : Int) (v : Value) (cs : List IC) (w : World) (B : Nat → Prop) (h : CellsAt w B v cs) (hl : cs.length ≤ 1000000) :
    Calls Tryz.prog 7 #[.agg #[.int .i64 f, v]] w fun e w' => ∃ v', e = .returned (.agg #[.int .i64 f, v']) ∧ OwnsD w' w.heap.size v' cs ∧ Below w.heap.size w w' := by
  obtain ⟨ao, cap, rfl, l1, m1, _⟩ := h.val
  obtain ⟨W1, hW1⟩ : ∃ W1, W1 = (w.alloc (.cells #[.int .i64 f, .slice ao cs.length cap] 24)).alloc (.cells #[.int .i64 0, .slice none 0 0] 34) := ⟨_, rfl⟩
  have hb1 : Below w.heap.size w W1 := by rw [hW1]; exact ((Below.refl _ _).alloc (Nat.le_refl _) _).alloc (by simp) _
  have hx1 : SgB W1 w.heap.size (.int .i64 f) (.slice ao cs.length cap) := by rw [hW1]; exact (sgb_new _ _ _).old ((Below.refl _ _).alloc (Nat.le_refl _) _)
  have hz1 : SdB W1 (w.heap.size + 1) (.int .i64 0) (.slice none 0 0) := by
    have := sdb_new (w.alloc (.cells #[.int .i64 f, .slice ao cs.length cap] 24)) (.int .i64 0) (.slice none 0 0)
    rw [hW1]; simpa using this
  have HX1 := Lib.hid hx1
  have HZ1 := Lib.hid hz1
  have HB1 := Lib.hid hb1
  obtain ⟨n, hn⟩ : ∃ n, n = cs.length := ⟨_, rfl⟩
  have HDO : Hid (∀ W, Below W1.heap.size W1 W → Calls Tryz.prog 25 #[.slice ao n cap] W fun e w' => ∃ v', e = .returned v' ∧ OwnsD w' W.heap.size v' cs ∧ Below W.heap.size W w') := Lib.hid fun W hW => by
    rw [hn]; exact documents_any _ cs W B ((h.old hb1).old hW) hl
  rw [← hn] at HX1 hW1 ⊢
  have HN := Lib.hid hn
  have HX : Hid (∀ W, Below W1.heap.size W1 W → (W.cell? ⟨w.heap.size, 0, none⟩ = some (.int .i64 f) ∧ W.cell? ⟨w.heap.size, 1, none⟩ = some (.slice ao n cap)) ∧
      W.cell? ⟨w.heap.size + 1, 0, none⟩ = some (.int .i64 0) ∧ W.cell? ⟨w.heap.size + 1, 1, none⟩ = some (.slice none 0 0) ∧ W.frozen? ⟨w.heap.size + 1, 0, none⟩ = false ∧ W.frozen? ⟨w.heap.size + 1, 1, none⟩ = false) := Lib.hid fun W hb => by
    obtain ⟨p0, p1, _, _⟩ := (HX1.out.old hb).x
    exact ⟨⟨p0, p1⟩, (HZ1.out.old hb).x⟩
  have HW1 := Lib.hid hW1
  have HSZ : Hid (w.heap.size + 1 < W1.heap.size) := Lib.hid hz1.lt
  obtain ⟨⟨x0, x1⟩, z0, z1, f0, f1⟩ := HX.out W1 (Below.refl _ _)
  rw [HW1.out] at x0 x1 z0 z1 f0 f1
  clear h hb1 l1 m1 hx1 hz1 hn hW1
  go_enter Tryz.func7, Tryz.ntmps7
  go_upto_region 1 with fail
  rw [← HW1.out]
  rw [← HW1.out] at x0 x1 z0 z1 f0 f1
  have HSELF : Hid (Below W1.heap.size W1 W1) := Lib.hid (Below.refl _ _)
  go_region_held3 (fun w' => w'.cell? ⟨w.heap.size, 0, none⟩ = some (.int .i64 f) ∧ w'.cell? ⟨w.heap.size, 1, none⟩ = some (.slice ao n cap)) (go_keep) (first
    | (go_at_call 25
       refine (HDO.out _ ?hb).mono ?_
       case hb => first | exact Below.refl _ _ | exact (Below.refl _ _).drew
       rintro r wp ⟨vp, rfl, hop, hbp⟩
       have HBP : Hid (Below W1.heap.size W1 wp) := Lib.hid (by first | exact hbp | exact ⟨hbp.os, hbp.tape, hbp.output, hbp.size, hbp.block⟩)
       have HOP : Hid (OwnsD wp W1.heap.size vp cs) := Lib.hid hop
       obtain ⟨aop, capp, hv⟩ := hop.form
       rw [← HN.out] at hv
       subst hv
       obtain ⟨⟨x0, x1⟩, z0, z1, f0, f1⟩ := HX.out wp HBP.out
       clear hop hbp))
  all_goals
    go_wp2
    refine bodyPost_ret (v := .agg #[.int .i64 f, .slice aop n capp]) (by simp [results, Tryz.results7, go_sem, z0, z1]) rfl ⟨_, rfl, ?_, ?_⟩
    · exact ((HOP.out.set HSZ.out _ _).set HSZ.out _ _).mono HB1.out.size
    · refine ((HB1.out.trans (HBP.out.mono HB1.out.size)).setCell ?_ _).setCell ?_ _ <;> (show w.heap.size ≤ w.heap.size + 1; omega)

end Go.Proofs.YtpebmmhokigglaaGreatDoor

namespace Go.Proofs.YtpebmmhokigglaaGreatDoor
open Go.RowKit

set_option maxHeartbeats 2000000 in
set_option maxRecDepth 100000 in
theorem rsgcheck_any (f : Int) (v : Value) (cs : List IC) (w : World) (B : Nat → Prop) (h : Dc w B v cs) (hf : -9223372036854775808 ≤ f ∧ f ≤ 9223372036854775807) :
    Calls Tryz.prog 9 #[.agg #[.int .i64 f, v]] w fun e w' => e = .returned (.int .i64 (sgC f cs : Nat)) ∧ Below w.heap.size w w' := by
  obtain ⟨ao, cap, rfl, l1, m1, _⟩ := h.val
  obtain ⟨W1, hW1⟩ : ∃ W1, W1 = w.alloc (.cells #[.int .i64 f, .slice ao cs.length cap] 34) := ⟨_, rfl⟩
  have hb1 : Below w.heap.size w W1 := by rw [hW1]; exact (Below.refl _ _).alloc (Nat.le_refl _) _
  have hx1 : SdB W1 w.heap.size (.int .i64 f) (.slice ao cs.length cap) := by rw [hW1]; exact sdb_new _ _ _
  have HX1 := Lib.hid hx1
  have HB1 := Lib.hid hb1
  have HR := Lib.hid (h.old hb1)
  obtain ⟨n, hn⟩ : ∃ n, n = cs.length := ⟨_, rfl⟩
  rw [← hn] at HX1 HR hW1 ⊢
  have HN := Lib.hid hn
  obtain ⟨z, hz⟩ : ∃ z, z = sgC f cs := ⟨_, rfl⟩
  rw [← hz]
  have HZ := Lib.hid hz
  have HW1 := Lib.hid hW1
  clear h hb1 l1 m1 hx1 hn hz hW1
  by_cases g1 : f < 0
  · obtain rfl : z = 1 := by rw [HZ.out, sgC, if_pos (.inl g1)]
    go_enter Tryz.func9, Tryz.ntmps9
    go_wp2
    go_ret
    exact ⟨rfl, by rw [← HW1.out]; exact HB1.out⟩
  by_cases g2 : f > 1048576
  · obtain rfl : z = 1 := by rw [HZ.out, sgC, if_pos (.inr (by omega))]
    go_enter Tryz.func9, Tryz.ntmps9
    go_wp2
    go_ret
    exact ⟨rfl, by rw [← HW1.out]; exact HB1.out⟩
  by_cases g3 : (n : Int) > 64
  · obtain rfl : z = 3 := by rw [HZ.out, sgC, if_neg (by omega), if_pos (by rw [← HN.out]; omega)]
    go_enter Tryz.func9, Tryz.ntmps9
    go_wp2
    go_ret
    exact ⟨rfl, by rw [← HW1.out]; exact HB1.out⟩
  have hwr : wrap64 (f + (n : Int)) = f + (n : Int) := w64_in (by omega) (by omega)
  by_cases g4 : f + (n : Int) > 1048576
  · obtain rfl : z = 1 := by rw [HZ.out, sgC, if_neg (by omega), if_neg (by rw [← HN.out]; omega), if_pos (by rw [← HN.out]; omega)]
    go_enter Tryz.func9, Tryz.ntmps9
    go_wp2
    go_ret
    exact ⟨rfl, by rw [← HW1.out]; exact HB1.out⟩
  have HZB : Hid (z = firstBad cs) := Lib.hid (by rw [HZ.out, sgC, if_neg (by omega), if_neg (by rw [← HN.out]; omega), if_neg (by rw [← HN.out]; omega)])
  have hn64 : (n : Int) ≤ 64 := by omega
  clear g3
  obtain ⟨c0, c1, _, _⟩ := HX1.out.x
  rw [HW1.out] at c0 c1
  go_enter Tryz.func9, Tryz.ntmps9
  go_wp2
  clear c0 c1
  go_loopw [3, 4] (fun i _ wr => ∃ k : Nat, k ≤ n ∧ i = .int .i64 (k : Int) ∧ (∀ c ∈ cs.take k, chk c.1 c.2.length = 0) ∧ Below W1.heap.size W1 wr)
    (fun i _ _ => n - (intOf i).toNat)
  case atStart => exact ⟨0, Nat.zero_le _, rfl, by simp, by rw [← HW1.out]; exact Below.refl _ _⟩
  case round =>
    obtain ⟨k, hk, rfl, hno, hb⟩ := hrel
    have HB := Lib.hid hb
    have HNO := Lib.hid hno
    obtain ⟨e0, e1, _, _⟩ := (HX1.out.old hb).x
    clear hb hno
    by_cases hlt : k < n
    · have hltc : k < cs.length := by rw [← HN.out]; exact hlt
      obtain ⟨b, off, rfl, _, _, c0, c1⟩ := (HR.out.old HB.out).at hltc
      have HST := Lib.hid (firstBad_take hltc HNO.out)
      have HTK := Lib.hid (take_snocI cs k hltc)
      generalize hg : cs.getD k (0, []) = g at c0 c1
      rw [hg] at HST HTK
      obtain ⟨kk, d⟩ := g
      simp only at c0 c1
      have HCK := Lib.hid (refCheck_any kk (S8 d) wr)
      rw [S8_size] at HCK
      obtain ⟨s, hs⟩ : ∃ s, s = S8 d := ⟨_, rfl⟩
      rw [← hs] at c1 HCK
      clear hg hltc hs
      have hlti : (k : Int) < (n : Int) := by omega
      go_wp2_with fail
      refine HCK.out.mono ?_
      rintro e w3 ⟨rfl, hb3⟩
      have HB3 := Lib.hid (HB.out.trans (hb3.mono HB.out.size))
      clear hb3 c0 c1 e0 e1
      by_cases hc : chk kk d.length = 0
      · have HN1 : Hid (∀ c ∈ cs.take (k + 1), chk c.1 c.2.length = 0) := Lib.hid (by
          intro c hcm
          rw [HTK.out] at hcm
          rcases List.mem_append.1 hcm with hcm | hcm
          · exact HNO.out c hcm
          · obtain rfl := List.mem_singleton.1 hcm
            exact hc)
        rw [hc]
        clear hc HST
        go_wp2
        go_roundw
        case rel => exact ⟨k + 1, by omega, by go_num, HN1.out, HB3.out⟩
        case measure => simp [intOf]; omega
      · have HE : Hid (z = chk kk d.length) := Lib.hid (by rw [HZB.out, HST.out hc])
        obtain ⟨y, hy⟩ : ∃ y, y = chk kk d.length := ⟨_, rfl⟩
        rw [← hy] at HE hc ⊢
        have hyb : ((y : Int) != 0) = true := by simp; omega
        have hyi : ¬ (y : Int) = 0 := by omega
        clear HST hc
        go_wp2
        go_ret
        exact ⟨by rw [HE.out, hy]; rfl, HB1.out.trans (HB3.out.mono HB1.out.size)⟩
    · obtain rfl : k = n := by omega
      have HE : Hid (z = 0) := Lib.hid (by
        have := HNO.out
        rw [HN.out, List.take_length] at this
        rw [HZB.out, firstBad_good this])
      go_wp2
      go_ret
      exact ⟨by rw [HE.out]; rfl, HB1.out.trans (HB.out.mono HB1.out.size)⟩

set_option maxHeartbeats 2000000 in
set_option maxRecDepth 100000 in
theorem rsgsame_any (f1 f2 : Int) (v1 v2 : Value) (a b : List IC) (w : World) (A B : Nat → Prop) (h1 : Dc w A v1 a) (h2 : Dc w B v2 b) (ha : ∀ c ∈ a, ∀ y ∈ c.2, y < 256) (hb : ∀ c ∈ b, ∀ y ∈ c.2, y < 256) :
    Calls Tryz.prog 16 #[.agg #[.int .i64 f1, v1], .agg #[.int .i64 f2, v2]] w fun e w' => e = .returned (.bool (sgSame f1 a f2 b)) ∧ Below w.heap.size w w' := by
  obtain ⟨ao1, cap1, rfl, l1, m1, _⟩ := h1.val
  obtain ⟨ao2, cap2, rfl, _, _, _⟩ := h2.val
  obtain ⟨W1, hW1⟩ : ∃ W1, W1 = (w.alloc (.cells #[.int .i64 f1, .slice ao1 a.length cap1] 34)).alloc (.cells #[.int .i64 f2, .slice ao2 b.length cap2] 34) := ⟨_, rfl⟩
  have hb1 : Below w.heap.size w W1 := by rw [hW1]; exact ((Below.refl _ _).alloc (Nat.le_refl _) _).alloc (by simp) _
  have hx1 : SdB W1 w.heap.size (.int .i64 f1) (.slice ao1 a.length cap1) := by rw [hW1]; exact (sdb_new _ _ _).old ((Below.refl _ _).alloc (Nat.le_refl _) _)
  have hy1 : SdB W1 (w.heap.size + 1) (.int .i64 f2) (.slice ao2 b.length cap2) := by
    have := sdb_new (w.alloc (.cells #[.int .i64 f1, .slice ao1 a.length cap1] 34)) (.int .i64 f2) (.slice ao2 b.length cap2)
    rw [hW1]; simpa using this
  have hbig : (a.length : Int) ≤ 9223372036854775807 := by unfold maxLen at m1; omega
  have HX1 := Lib.hid hx1
  have HY1 := Lib.hid hy1
  have HB1 := Lib.hid hb1
  have HR1 := Lib.hid (h1.old hb1)
  have HR2 := Lib.hid (h2.old hb1)
  have HA := Lib.hid ha
  have HB8 := Lib.hid hb
  obtain ⟨n1, hn1⟩ : ∃ n, n = a.length := ⟨_, rfl⟩
  obtain ⟨n2, hn2⟩ : ∃ n, n = b.length := ⟨_, rfl⟩
  rw [← hn1] at HX1 HR1 hW1 hbig ⊢
  rw [← hn2] at HY1 HR2 hW1 ⊢
  have HN1 := Lib.hid hn1
  have HN2 := Lib.hid hn2
  obtain ⟨z, hz⟩ : ∃ z, z = sgSame f1 a f2 b := ⟨_, rfl⟩
  rw [← hz]
  have HZ := Lib.hid hz
  have HW1 := Lib.hid hW1
  clear h1 h2 hb1 l1 m1 hx1 hy1 hn1 hn2 hz hW1 ha hb
  by_cases g1 : f1 = f2
  rotate_left
  · obtain rfl : z = false := by rw [HZ.out, sgSame, decide_eq_false g1, Bool.false_and]
    have g1b : (f1 != f2) = true := by simp [g1]
    go_enter Tryz.func16, Tryz.ntmps16
    go_wp2
    go_ret
    exact ⟨rfl, by rw [← HW1.out]; exact HB1.out⟩
  have g1b : (f1 != f2) = false := by simp [g1]
  have HZ2 : Hid (z = decide (a = b)) := Lib.hid (by rw [HZ.out, sgSame, decide_eq_true g1, Bool.true_and])
  clear g1
  by_cases g2 : n1 = n2
  rotate_left
  · have g2b : ((n1 : Int) != (n2 : Int)) = true := by simp; omega
    obtain rfl : z = false := by rw [HZ2.out]; exact decide_eq_false fun e => g2 (by rw [HN1.out, HN2.out, e])
    clear g2
    go_enter Tryz.func16, Tryz.ntmps16
    go_wp2
    go_ret
    exact ⟨rfl, by rw [← HW1.out]; exact HB1.out⟩
  subst g2
  have g2b : ((n1 : Int) != (n1 : Int)) = false := by simp
  go_enter Tryz.func16, Tryz.ntmps16
  go_wp2
  go_loopw [5] (fun i wr => ∃ k : Nat, k ≤ n1 ∧ i = .int .i64 (k : Int) ∧ a.take k = b.take k ∧ Below W1.heap.size W1 wr)
    (fun i _ => n1 - (intOf i).toNat)
  case atStart => exact ⟨0, Nat.zero_le _, rfl, rfl, by rw [← HW1.out]; exact Below.refl _ _⟩
  case round =>
    obtain ⟨k, hk, rfl, hsm, hb⟩ := hrel
    have HB := Lib.hid hb
    have HS := Lib.hid hsm
    obtain ⟨x0, x1, _, _⟩ := (HX1.out.old hb).x
    obtain ⟨y0, y1, _, _⟩ := (HY1.out.old hb).x
    clear hb hsm
    by_cases hlt : k < n1
    · have hla : k < a.length := by rw [← HN1.out]; exact hlt
      have hlb : k < b.length := by rw [← HN2.out]; exact hlt
      obtain ⟨b1, off1, rfl, _, _, c0, c1⟩ := (HR1.out.old HB.out).at hla
      obtain ⟨b2, off2, rfl, _, _, e0, e1⟩ := (HR2.out.old HB.out).at hlb
      have HNX := Lib.hid (take_eq_next HS.out hla hlb)
      have hma : ∀ y ∈ (a.getD k (0, [])).2, y < 256 := HA.out _ (by rw [List.getD_eq_getElem?_getD, List.getElem?_eq_getElem hla]; exact List.getElem_mem hla)
      have hmb : ∀ y ∈ (b.getD k (0, [])).2, y < 256 := HB8.out _ (by rw [List.getD_eq_getElem?_getD, List.getElem?_eq_getElem hlb]; exact List.getElem_mem hlb)
      have HDF : Hid (a.getD k (0, []) ≠ b.getD k (0, []) → decide (a = b) = false) := Lib.hid fun h => decide_eq_false fun e => h (by rw [e])
      generalize hg1 : a.getD k (0, []) = g1 at c0 c1 hma
      generalize hg2 : b.getD k (0, []) = g2 at e0 e1 hmb
      rw [hg1, hg2] at HNX HDF
      obtain ⟨k1, d1⟩ := g1
      obtain ⟨k2, d2⟩ := g2
      simp only at c0 c1 hma e0 e1 hmb
      have hneq := fun W => neq_cells k1 k2 d1 d2 hma hmb W
      obtain ⟨sm, hsm⟩ : ∃ s, s = sameC k1 d1 k2 d2 := ⟨_, rfl⟩
      simp only [← hsm] at hneq
      have HSM := Lib.hid hsm
      obtain ⟨s1, hs1⟩ : ∃ s, s = S8 d1 := ⟨_, rfl⟩
      obtain ⟨s2, hs2⟩ : ∃ s, s = S8 d2 := ⟨_, rfl⟩
      rw [← hs1] at c1
      rw [← hs2] at e1
      simp only [← hs1, ← hs2] at hneq
      have hki : (k : Int) < (n1 : Int) := by omega
      clear hg1 hg2 hma hmb hla hlb hsm hs1 hs2
      have HDX : Hid (sm = false → z = false) := Lib.hid fun h => by
        rw [HZ2.out]
        refine HDF.out fun e => ?_
        have := (sameC_iff k1 k2 d1 d2).2 e
        rw [← HSM.out, h] at this
        cases this
      have HNN : Hid (sm = true → a.take (k + 1) = b.take (k + 1)) := Lib.hid fun h => HNX.out ((sameC_iff k1 k2 d1 d2).1 (HSM.out.symm.trans h))
      cases sm
      · have HD : Hid (z = false) := Lib.hid (HDX.out rfl)
        clear HDX HNN HSM
        go_wp2
        go_region
        go_wp2
        go_ret
        exact ⟨by rw [HD.out]; rfl, (HB1.out.trans (HB.out.mono HB1.out.size)).drew⟩
      · have HN := Lib.hid (HNN.out rfl)
        clear HDX HNN HSM
        go_wp2
        go_region
        go_wp2
        go_roundw
        case rel => exact ⟨k + 1, by omega, by go_num, HN.out, HB.out.drew⟩
        case measure => simp [intOf]; omega
    · obtain rfl : k = n1 := by omega
      have HD : Hid (z = true) := Lib.hid (by rw [HZ2.out]; exact decide_eq_true (by
        have := HS.out
        rw [HN1.out, List.take_length] at this
        rw [← HN1.out, HN2.out, List.take_length] at this
        exact this))
      go_wp2
      go_ret
      exact ⟨by rw [HD.out]; rfl, HB1.out.trans (HB.out.mono HB1.out.size)⟩

end Go.Proofs.YtpebmmhokigglaaGreatDoor

namespace Go.Proofs.YtpebmmhokigglaaGreatDoor
open Go.RowKit

set_option maxHeartbeats 4000000 in
set_option maxRecDepth 100000 in
theorem rsgput_any (f : Int) (v : Value) (cs : List IC) (w : World) (base : Nat) (h : OwnsD w base v cs) (hz : sgC f cs = 0) (h8 : ∀ c ∈ cs, ∀ y ∈ c.2, y < 256) :
    Calls Tryz.prog 28 #[.agg #[.int .i64 f, v]] w fun e w' => ∃ v', e = .returned v' ∧ Owns w' w.heap.size 5 .u8 v' (fr (sgtext f cs)) ∧ Below w.heap.size w w' := by
  obtain ⟨ao, cap, rfl⟩ := h.form
  obtain ⟨hf0, hf1, hcl, hck⟩ := sgC_zero hz
  obtain ⟨en, rfl⟩ : ∃ en : Nat, f = (en : Int) := ⟨f.toNat, by omega⟩
  have HU : Hid (U64 en) := Lib.hid (by unfold U64; omega)
  have hwr : IntKind.u64.wrap (en : Int) = (en : Int) := IntWalk.u64_in _ (by omega)
  have HTL := Lib.hid (sgtext_len hz h8)
  have HTX : Hid (sgtext (en : Int) cs = enc en ++ rbytes (cs.map toCC)) := Lib.hid (by unfold sgtext; rw [Int.toNat_natCast])
  have HRL : Hid ((rbytes (cs.map toCC)).length ≤ 6410) := Lib.hid (rbytes_len (by rw [List.length_map]; exact hcl) (sg_okC hck h8))
  obtain ⟨W1, hW1⟩ : ∃ W1, W1 = w.alloc (.cells #[.int .i64 (en : Int), .slice ao cs.length cap] 34) := ⟨_, rfl⟩
  have hb1 : Below w.heap.size w W1 := by rw [hW1]; exact (Below.refl _ _).alloc (Nat.le_refl _) _
  have hx1 : SdB W1 w.heap.size (.int .i64 (en : Int)) (.slice ao cs.length cap) := by rw [hW1]; exact sdb_new _ _ _
  have hmi : (cs.map toCC).map toIC = cs := map_toIC hck
  have HRUN : Hid (∀ W, Below W1.heap.size W1 W → Calls Tryz.prog 51 #[.slice ao cs.length cap] W fun e w' => ∃ v', e = .returned v' ∧ Owns w' W.heap.size 5 .u8 v' (rbytes (cs.map toCC)) ∧ Below W.heap.size W w') := Lib.hid fun W hb =>
    rrun_any _ (cs.map toCC) W base (by rw [hmi]; exact (h.below hb1).below hb) (sg_okC hck h8) (by rw [List.length_map]; exact hcl)
  have HX : Hid (∀ W, Below W1.heap.size W1 W → W.cell? ⟨w.heap.size, 0, none⟩ = some (.int .i64 (en : Int)) ∧ W.cell? ⟨w.heap.size, 1, none⟩ = some (.slice ao cs.length cap)) := Lib.hid fun W hb => by
    obtain ⟨a, b, _, _⟩ := (hx1.old hb).x
    exact ⟨a, b⟩
  have HB1 := Lib.hid hb1
  have HD1 : Hid (Below W1.heap.size W1 W1.drew) := Lib.hid ⟨rfl, rfl, rfl, Nat.le_refl _, fun _ _ => rfl⟩
  have HRK := Lib.hid (refBytes_any en W1.drew HU.out)
  obtain ⟨x0, x1⟩ := HX.out W1 (Below.refl _ _)
  obtain ⟨n, hn⟩ : ∃ n, n = cs.length := ⟨_, rfl⟩
  simp only [← hn] at HRUN HX hW1 x1 ⊢
  have HW1 := Lib.hid hW1
  clear h hz h8 hf0 hf1 hcl hck hb1 hx1 hmi hn hW1
  go_enter Tryz.func28, Tryz.ntmps28
  go_wp2_with fail
  rw [← HW1.out]
  go_region_held_law (fun w' => w'.cell? ⟨w.heap.size, 0, none⟩ = some (.int .i64 (en : Int)) ∧ w'.cell? ⟨w.heap.size, 1, none⟩ = some (.slice ao n cap)) (go_keep) (first
    | (refine step_app_reads (by rfl) _ _ _ (by rfl) W1.heap.size 5 (.int .u8 0) 1 Tryz.underlying29 Tryz.info5 rfl .u8 _ (enc en) (by rfl) HO3.out _ (rbytes (cs.map toCC)) (by rfl) HR4.out (by decide) (by have h1 := enc_len10 HU.out; have h2 := HRL.out; omega) HB14.out.size ?_
       intro v5 w5 ho5 hg5
       have HB15 : Hid (Below W1.heap.size W1 w5) := Lib.hid (HB14.out.grown hg5 HB14.out.size fun j hj => (HO3.out.lt j hj).1)
       obtain ⟨x0, x1⟩ := HX.out w5 HB15.out
       have HFR := Lib.hid (fun (W : World) (hb : Below w5.heap.size w5 W) => refFrame_any v5 (sgtext (en : Int) cs) W (by rw [HTX.out]; exact ho5.reads.new hb) HTL.out.2 (by have := HTL.out.1; omega))
       clear ho5 hg5)
    | (go_at_call 50
       with_reducible refine HRK.out.mono ?_
       rintro r w3 ⟨v3, rfl, ho3, hb3⟩
       have HB13 : Hid (Below W1.heap.size W1 w3) := Lib.hid (HD1.out.trans (hb3.mono HD1.out.size))
       obtain ⟨x0, x1⟩ := HX.out w3 HB13.out
       have HOA := Lib.hid ho3
       clear ho3 hb3)
    | (go_at_call 51
       refine (HRUN.out w3 HB13.out).mono ?_
       rintro r w4 ⟨v4, rfl, ho4, hb4⟩
       have HB14 : Hid (Below W1.heap.size W1 w4) := Lib.hid (HB13.out.trans (hb4.mono HB13.out.size))
       obtain ⟨x0, x1⟩ := HX.out w4 HB14.out
       have HO3 : Hid (Owns w4 W1.heap.size 5 .u8 v3 (enc en)) := Lib.hid (HOA.out.below hb4 (Nat.le_refl _))
       have HR4 := Lib.hid ho4.reads
       clear ho4 hb4)
    | (go_at_call 49
       refine (HFR.out _ ?hbf).mono ?_
       case hbf => first | exact Below.refl _ _ | exact ⟨rfl, rfl, rfl, Nat.le_refl _, fun _ _ => rfl⟩
       rintro r w9 ⟨v9, rfl, ho9, hb9⟩
       have HB9 : Hid (Below W1.heap.size W1 w9) := Lib.hid (HB15.out.trans (Below.mono ⟨hb9.os, hb9.tape, hb9.output, hb9.size, hb9.block⟩ HB15.out.size))
       have HO9 : Hid (Owns w9 w.heap.size 5 .u8 v9 (fr (sgtext (en : Int) cs))) := Lib.hid (ho9.mono (Nat.le_trans HB1.out.size HB15.out.size))
       obtain ⟨x0, x1⟩ := HX.out w9 HB9.out
       clear ho9 hb9))
  all_goals
    go_wp2
    go_ret
    exact ⟨_, rfl, HO9.out, HB1.out.trans (HB9.out.mono HB1.out.size)⟩

end Go.Proofs.YtpebmmhokigglaaGreatDoor
