/- The contracts of the document's own reader: count, Fixed. -/
import Derived.Test.YtbihammpdjkonaaRrB
namespace Go.Proofs.Ytbihammpdjkonaa
open Go.RowKit

def RManyPost (B : Nat) (rest : List Nat) (c : Nat) (most : Int) (w : World) (e : Ending) (w' : World) : Prop :=
  ∃ (n : Nat) (ao : Option Addr) (cap : Nat) (rest' : List Nat) (c1 : Nat), e = .returned (.tuple #[.int .i64 ((manyR n most : Nat) : Int), .agg #[.slice ao rest'.length cap, .int .i64 ((manyC n c1 most : Nat) : Int)]]) ∧
    NumRel rest c n rest' c1 ∧ RdU w' B (.slice ao rest'.length cap) rest' ∧ Below w.heap.size w w'

theorem rmany_fin {B : Nat} {rest rest' : List Nat} {c c1 n cap : Nat} {most : Int} {ao : Option Addr} {N C : Int} {w w1 w' : World} (hB : Below w.heap.size w w') (hb1 : Below B w1 w') (hr : RdU w1 B (.slice ao rest'.length cap) rest') (hN : N = ((manyR n most : Nat) : Int)) (hC : C = ((manyC n c1 most : Nat) : Int)) (h : NumRel rest c n rest' c1) :
    RManyPost B rest c most w (.returned (.tuple #[.int .i64 N, .agg #[.slice ao rest'.length cap, .int .i64 C]])) w' := by
  subst hN hC
  exact ⟨n, ao, cap, rest', c1, rfl, h, hr.below hb1, hB⟩

theorem NumRel.n_zero {rest : List Nat} {c n : Nat} {r : List Nat} {d : Nat} (h : NumRel rest c n r d) (hd : d ≠ 0) : n = 0 := by
  rcases h with ⟨_, h2, _, _⟩ | ⟨_, _, _, h4⟩ | ⟨_, h2, _, _, _⟩
  · exact h2
  · exact absurd h4 hd
  · exact h2

set_option maxHeartbeats 1000000 in
set_option maxRecDepth 100000 in
theorem rcount_any (B : Nat) (ao : Option Addr) (cap : Nat) (rest : List Nat) (c : Nat) (most : Int) (hm1 : -9223372036854775808 ≤ most) (hm2 : most ≤ 9223372036854775807) (w : World) (hBs : B ≤ w.heap.size) (hru : RdU w B (.slice ao rest.length cap) rest) (hb : ∀ y ∈ rest, y < 256) :
    Calls Try.prog 65 #[.agg #[.slice ao rest.length cap, .int .i64 (c : Int)], .int .i64 most] w (RManyPost B rest c most w) := by
  go_enter Try.func65, Try.ntmps65
  go_wp2_with fail
  refine (rnumber_any B ao cap rest c _ (by simp; omega) (hru.below (((Below.refl _ _).alloc (by omega) _).alloc (by simp; omega) _)) hb).mono ?_
  rintro e w1 ⟨n, ao1, cap1, rest1, c1, rfl, hn, hr1, hb1⟩
  have hbw : Below w.heap.size w w1 := (((Below.refl _ _).alloc (Nat.le_refl _) _).alloc (by simp) _).trans (hb1.mono (by simp; omega))
  obtain ⟨B1, B2⟩ := new2 hb1
  obtain ⟨g1, g2, f1, f2⟩ := blk2 B1
  obtain ⟨g3, g4, f3, f4⟩ := blk2 B2
  have hz : w.heap.size + 1 < w1.heap.size := by have := hb1.size; simp at this; omega
  have hz0 : w.heap.size < w1.heap.size := by omega
  have hnz := fun h => hn.n_zero h
  have HN := Lib.hid hn
  have HR1 := Lib.hid hr1
  have HB2 := Lib.hid B2
  clear hb1 B1 B2 hn hr1 hru hb
  by_cases hc1 : c1 = 0
  · subst hc1
    clear hnz
    by_cases hbad : most < 0 ∨ most < (n : Int)
    · have HB := Lib.hid hbad
      have h3c : (3 : Nat) = manyC n 0 most := by rw [(many_bad HB.out).2, if_pos rfl]
      have H3 := Lib.hid h3c
      clear h3c
      by_cases hm : most < 0
      · clear hbad
        go_wp2_with fail
        refine (rfail_any ao1 rest1.length cap1 0 3 _).mono ?_
        rintro e w2 ⟨rfl, hb2⟩
        have hbw2 : Below w.heap.size w w2 := ((hbw.setCell (by simp) _).setCell (by simp) _).trans (hb2.mono (by simp; omega))
        have hb12 : Below B w1 w2 := (((Below.refl _ _).setCell (by simp; omega) _).setCell (by simp; omega) _).trans (hb2.mono (by simp; omega))
        obtain ⟨k3, k4, e3, e4⟩ := blk2 (keep2 HB2.out hb2)
        rw [if_pos rfl]
        clear hb2 hbw g1 g2 g3 g4 f1 f2 f3 f4
        go_wp2
        exact bodyPost_ret (v := .tuple #[.int .i64 0, .agg #[.slice ao1 rest1.length cap1, .int .i64 3]]) (by simp [results, Try.results65, go_sem, k3, k4]) rfl (rmany_fin (w1 := w1) (by (repeat (first | exact Below.refl _ _ | assumption | (refine Below.setCell ?_ (by first | (simp; done) | (simp; omega)) _) | (refine Below.alloc ?_ (by first | (simp; done) | (simp; omega)) _) | (refine Below.drew ?_)))) (by (repeat (first | exact Below.refl _ _ | assumption | (refine Below.setCell ?_ (by first | (simp; done) | (simp; omega)) _) | (refine Below.alloc ?_ (by first | (simp; done) | (simp; omega)) _) | (refine Below.drew ?_)))) HR1.out (by rw [(many_bad (c := 0) HB.out).1]; rfl) (by rw [← H3.out]; rfl) HN.out)
      · have h2 : most < (n : Int) := by omega
        have h1 : 0 ≤ most := by omega
        clear hbad hm
        go_wp2_with fail
        refine (rfail_any ao1 rest1.length cap1 0 3 _).mono ?_
        rintro e w2 ⟨rfl, hb2⟩
        have hbw2 : Below w.heap.size w w2 := ((hbw.setCell (by simp) _).setCell (by simp) _).trans (hb2.mono (by simp; omega))
        have hb12 : Below B w1 w2 := (((Below.refl _ _).setCell (by simp; omega) _).setCell (by simp; omega) _).trans (hb2.mono (by simp; omega))
        obtain ⟨k3, k4, e3, e4⟩ := blk2 (keep2 HB2.out hb2)
        rw [if_pos rfl]
        clear hb2 hbw g1 g2 g3 g4 f1 f2 f3 f4
        go_wp2
        exact bodyPost_ret (v := .tuple #[.int .i64 0, .agg #[.slice ao1 rest1.length cap1, .int .i64 3]]) (by simp [results, Try.results65, go_sem, k3, k4]) rfl (rmany_fin (w1 := w1) (by (repeat (first | exact Below.refl _ _ | assumption | (refine Below.setCell ?_ (by first | (simp; done) | (simp; omega)) _) | (refine Below.alloc ?_ (by first | (simp; done) | (simp; omega)) _) | (refine Below.drew ?_)))) (by (repeat (first | exact Below.refl _ _ | assumption | (refine Below.setCell ?_ (by first | (simp; done) | (simp; omega)) _) | (refine Below.alloc ?_ (by first | (simp; done) | (simp; omega)) _) | (refine Below.drew ?_)))) HR1.out (by rw [(many_bad (c := 0) HB.out).1]; rfl) (by rw [← H3.out]; rfl) HN.out)
    · have HB := Lib.hid hbad
      have h1 : 0 ≤ most := by omega
      have h2 : (n : Int) ≤ most := by omega
      clear hbad
      go_wp2
      go_region
      all_goals go_wp2
      all_goals exact bodyPost_ret (v := .tuple #[.int .i64 (n : Int), .agg #[.slice ao1 rest1.length cap1, .int .i64 0]]) (by simp [results, Try.results65, go_sem, g3, g4]) rfl (rmany_fin (w1 := w1) (by (repeat (first | exact Below.refl _ _ | assumption | (refine Below.setCell ?_ (by first | (simp; done) | (simp; omega)) _) | (refine Below.alloc ?_ (by first | (simp; done) | (simp; omega)) _) | (refine Below.drew ?_)))) (by (repeat (first | exact Below.refl _ _ | assumption | (refine Below.setCell ?_ (by first | (simp; done) | (simp; omega)) _) | (refine Below.alloc ?_ (by first | (simp; done) | (simp; omega)) _) | (refine Below.drew ?_)))) HR1.out (by rw [(many_good (c := 0) HB.out).1]) (by rw [(many_good HB.out).2]; rfl) HN.out)
  · have t1 : ((c1 : Int) != 0) = true := by rw [bne_iff_ne]; omega
    have hn0 := hnz hc1
    have hfin : (0 : Int) = ((manyR n most : Nat) : Int) ∧ (c1 : Int) = ((manyC n c1 most : Nat) : Int) := by
      subst hn0
      unfold manyR manyC
      refine ⟨by split <;> rfl, ?_⟩
      split
      · first | rfl | rw [if_neg hc1]
      · rfl
    have HFIN := Lib.hid hfin
    clear hnz hn0 hfin
    go_wp2
    go_region
    all_goals go_wp2
    all_goals exact bodyPost_ret (v := .tuple #[.int .i64 0, .agg #[.slice ao1 rest1.length cap1, .int .i64 (c1 : Int)]]) (by simp [results, Try.results65, go_sem, g3, g4]) rfl (rmany_fin (w1 := w1) (by (repeat (first | exact Below.refl _ _ | assumption | (refine Below.setCell ?_ (by first | (simp; done) | (simp; omega)) _) | (refine Below.alloc ?_ (by first | (simp; done) | (simp; omega)) _) | (refine Below.drew ?_)))) (by (repeat (first | exact Below.refl _ _ | assumption | (refine Below.setCell ?_ (by first | (simp; done) | (simp; omega)) _) | (refine Below.alloc ?_ (by first | (simp; done) | (simp; omega)) _) | (refine Below.drew ?_)))) HR1.out HFIN.out.1 HFIN.out.2 HN.out)

/-- What Fixed of the document's reader hands back. -/
def RFixPost (B : Nat) (rest : List Nat) (c : Nat) (many : Int) (w : World) (e : Ending) (w' : World) : Prop :=
  ∃ (ov : Value) (out : List Nat) (ao : Option Addr) (cap : Nat) (rest' : List Nat) (c' : Nat), e = .returned (.tuple #[ov, .agg #[.slice ao rest'.length cap, .int .i64 (c' : Int)]]) ∧
    FixRel rest c many out rest' c' ∧ RdU w' B ov out ∧ RdU w' B (.slice ao rest'.length cap) rest' ∧ Below w.heap.size w w'

theorem rfix_fin {B : Nat} {rest rest' out : List Nat} {c c' cap len : Nat} {many : Int} {ao : Option Addr} {ov : Value} {C : Int} {w w' : World} (hB : Below w.heap.size w w') (hBs : B ≤ w.heap.size) (ho : RdU w B ov out) (hr : RdU w B (.slice ao len cap) rest') (hl : len = rest'.length) (hC : C = (c' : Int)) (h : FixRel rest c many out rest' c') :
    RFixPost B rest c many w (.returned (.tuple #[ov, .agg #[.slice ao len cap, .int .i64 C]])) w' := by
  subst hC hl
  exact ⟨ov, out, ao, cap, rest', c', rfl, h, ho.below (hB.mono hBs), hr.below (hB.mono hBs), hB⟩

set_option maxHeartbeats 1000000 in
set_option maxRecDepth 100000 in
theorem rfixed_bad (B : Nat) (ao : Option Addr) (cap : Nat) (rest : List Nat) (c : Nat) (many : Int) (w : World) (hBs : B ≤ w.heap.size) (hru : RdU w B (.slice ao rest.length cap) rest)
    (hbad : c ≠ 0 ∨ many < 0 ∨ (rest.length : Int) < many) :
    Calls Try.prog 56 #[.agg #[.slice ao rest.length cap, .int .i64 (c : Int)], .int .i64 many] w (RFixPost B rest c many w) := by
  have HRU := Lib.hid hru
  clear hru
  by_cases hc : c = 0
  · subst hc
    have hrel : FixRel rest 0 many [] rest 2 := .inr (.inl ⟨rfl, by omega, rfl, rfl, rfl⟩)
    have HREL := Lib.hid hrel
    clear hrel
    by_cases hm : many < 0
    · clear hbad
      go_enter Try.func56, Try.ntmps56
      go_wp2_with fail
      refine (rfail_any ao rest.length cap 0 2 _).mono ?_
      rintro e w2 ⟨rfl, hb2⟩
      have hbw2 : Below w.heap.size w w2 := (((Below.refl _ _).alloc (Nat.le_refl _) _).alloc (by simp) _).trans (hb2.mono (by simp; omega))
      obtain ⟨B1, B2⟩ := new2 hb2
      obtain ⟨k3, k4, e3, e4⟩ := blk2 B2
      clear hb2 B1 B2
      go_wp2
      exact bodyPost_ret (v := .tuple #[.slice none 0 0, .agg #[.slice ao rest.length cap, .int .i64 2]]) (by simp [results, Try.results56, go_sem, k3, k4]) rfl (rfix_fin (by (repeat (first | exact Below.refl _ _ | assumption | (refine Below.setCell ?_ (by first | (simp; done) | (simp; omega)) _) | (refine Below.alloc ?_ (by first | (simp; done) | (simp; omega)) _) | (refine Below.drew ?_)))) hBs (RdU.nil _ _ _) HRU.out rfl rfl HREL.out)
    · have h1 : 0 ≤ many := by omega
      have h2 : (rest.length : Int) < many := by omega
      clear hbad hm
      go_enter Try.func56, Try.ntmps56
      go_wp2_with fail
      refine (rfail_any ao rest.length cap 0 2 _).mono ?_
      rintro e w2 ⟨rfl, hb2⟩
      have hbw2 : Below w.heap.size w w2 := (((Below.refl _ _).alloc (Nat.le_refl _) _).alloc (by simp) _).trans (hb2.mono (by simp; omega))
      obtain ⟨B1, B2⟩ := new2 hb2
      obtain ⟨k3, k4, e3, e4⟩ := blk2 B2
      clear hb2 B1 B2
      go_wp2
      exact bodyPost_ret (v := .tuple #[.slice none 0 0, .agg #[.slice ao rest.length cap, .int .i64 2]]) (by simp [results, Try.results56, go_sem, k3, k4]) rfl (rfix_fin (by (repeat (first | exact Below.refl _ _ | assumption | (refine Below.setCell ?_ (by first | (simp; done) | (simp; omega)) _) | (refine Below.alloc ?_ (by first | (simp; done) | (simp; omega)) _) | (refine Below.drew ?_)))) hBs (RdU.nil _ _ _) HRU.out rfl rfl HREL.out)
  · have t1 : ((c : Int) != 0) = true := by rw [bne_iff_ne]; omega
    clear hbad
    go_enter Try.func56, Try.ntmps56
    go_wp2
    go_region
    all_goals go_wp2
    all_goals exact bodyPost_ret (v := .tuple #[.slice none 0 0, .agg #[.slice ao rest.length cap, .int .i64 (c : Int)]]) (by simp [results, Try.results56, go_sem]) rfl (rfix_fin (by (repeat (first | exact Below.refl _ _ | assumption | (refine Below.setCell ?_ (by first | (simp; done) | (simp; omega)) _) | (refine Below.alloc ?_ (by first | (simp; done) | (simp; omega)) _) | (refine Below.drew ?_)))) hBs (RdU.nil _ _ _) HRU.out rfl rfl (.inl ⟨hc, rfl, rfl, rfl⟩))


theorem take_reads {w : World} {b off cap n : Nat} {l : List Nat} (h : Reads w .u8 (.slice (some ⟨b, off, none⟩) l.length cap) l) (hle : n ≤ l.length) :
    Reads w .u8 (.slice (some ⟨b, off, none⟩) n cap) (l.take n) := by
  obtain ⟨ao, cap', hv, h1, h2, h3, h4⟩ := h
  simp only [Value.slice.injEq, true_and] at hv
  obtain ⟨rfl, rfl⟩ := hv
  have hl : (l.take n).length = n := by rw [List.length_take]; omega
  refine ⟨_, cap, by rw [hl], by omega, by omega, by simp, ?_⟩
  rcases h4 with rfl | ⟨b', off', ha, hb, hc⟩
  · left; simp
  · simp only [Option.some.injEq, Addr.mk.injEq, and_true] at ha
    obtain ⟨rfl, rfl⟩ := ha
    refine .inr ⟨b, off, rfl, hb, fun i hi => ?_⟩
    rw [hl] at hi
    rw [hc i (by omega)]
    simp [List.getD, hi]

set_option maxHeartbeats 1000000 in
set_option maxRecDepth 100000 in
theorem rfixed_zero (B : Nat) (ao : Option Addr) (w : World) (hBs : B ≤ w.heap.size) :
    Calls Try.prog 56 #[.agg #[.slice ao 0 0, .int .i64 0], .int .i64 0] w (RFixPost B [] 0 0 w) := by
  have hrel : FixRel [] 0 0 [] [] 0 := .inr (.inr ⟨rfl, by omega, by simp, by simp, by simp, rfl⟩)
  have HREL := Lib.hid hrel
  clear hrel
  go_enter Try.func56, Try.ntmps56
  go_wp2
  go_region
  all_goals go_wp2
  all_goals exact bodyPost_ret (v := .tuple #[.slice ao 0 0, .agg #[.slice ao 0 0, .int .i64 0]]) (by simp [results, Try.results56, go_sem]) rfl (rfix_fin (by (repeat (first | exact Below.refl _ _ | assumption | (refine Below.setCell ?_ (by first | (simp; done) | (simp; omega)) _) | (refine Below.alloc ?_ (by first | (simp; done) | (simp; omega)) _) | (refine Below.drew ?_)))) hBs (RdU.nil _ _ _) (RdU.nil _ _ _) rfl rfl HREL.out)

set_option maxHeartbeats 1000000 in
set_option maxRecDepth 100000 in
theorem rfixed_ok (B : Nat) (ao : Option Addr) (cap : Nat) (rest : List Nat) (many : Nat) (w : World) (hBs : B ≤ w.heap.size) (hru : RdU w B (.slice ao rest.length cap) rest) (hm : many ≤ rest.length) :
    Calls Try.prog 56 #[.agg #[.slice ao rest.length cap, .int .i64 0], .int .i64 (many : Int)] w (RFixPost B rest 0 (many : Int) w) := by
  have hrel : FixRel rest 0 (many : Int) (rest.take many) (rest.drop many) 0 := .inr (.inr ⟨rfl, by omega, by omega, by simp, by simp, rfl⟩)
  have HREL := Lib.hid hrel
  clear hrel
  have hr := hru.reads
  have hcap : rest.length ≤ cap := by
    obtain ⟨ao', cap', hvv, h1, _, _⟩ := hr.val
    simp only [Value.slice.injEq, true_and] at hvv
    omega
  by_cases hcap0 : cap = 0
  · subst hcap0
    obtain rfl : rest = [] := List.length_eq_zero_iff.1 (by omega)
    obtain rfl : many = 0 := by simpa using hm
    exact rfixed_zero B ao w hBs
  rcases hru.form with h | ⟨b, off, rfl, hbB⟩
  · exact absurd h hcap0
  · by_cases hmc : many < cap
    · have ho : RdU w B (.slice (some ⟨b, off, none⟩) many cap) (rest.take many) := ⟨take_reads hr hm, _, _, _, rfl, .inr ⟨_, _, rfl, hbB⟩⟩
      have hd : RdU w B (.slice (some ⟨b, off + many, none⟩) (rest.length - many) (cap - many)) (rest.drop many) := ⟨drop_reads hr hmc hm, _, _, _, rfl, .inr ⟨_, _, rfl, hbB⟩⟩
      have HO := Lib.hid ho
      have HD := Lib.hid hd
      have q1 : (many : Int) ≤ (cap : Int) := by omega
      have q2 : ¬ cap = 0 := by omega
      clear ho hd hr hru
      go_enter Try.func56, Try.ntmps56
      go_wp2
      go_region
      all_goals go_wp2
      all_goals exact bodyPost_ret (v := .tuple #[.slice (some ⟨b, off, none⟩) many cap, .agg #[.slice (some ⟨b, off + many, none⟩) (rest.length - many) (cap - many), .int .i64 0]]) (by simp [results, Try.results56, go_sem]) rfl (rfix_fin (by (repeat (first | exact Below.refl _ _ | assumption | (refine Below.setCell ?_ (by first | (simp; done) | (simp; omega)) _) | (refine Below.alloc ?_ (by first | (simp; done) | (simp; omega)) _) | (refine Below.drew ?_)))) hBs HO.out HD.out (by simp) rfl HREL.out)
    · obtain rfl : cap = many := by omega
      have hrl : rest.length = cap := by omega
      have ho : RdU w B (.slice (some ⟨b, off, none⟩) cap cap) (rest.take cap) := ⟨take_reads hr hm, _, _, _, rfl, .inr ⟨_, _, rfl, hbB⟩⟩
      have hd : RdU w B (.slice (some ⟨b, off, none⟩) 0 0) (rest.drop cap) := by rw [List.drop_of_length_le (by omega)]; exact RdU.nil _ _ _
      have hl0 : 0 = (rest.drop cap).length := by simp; omega
      have HO := Lib.hid ho
      have HD := Lib.hid hd
      have HL0 := Lib.hid hl0
      clear ho hd hr hru hl0
      by_cases q2 : cap = 0
      · exact absurd q2 hcap0
      · go_enter Try.func56, Try.ntmps56
        go_wp2
        go_region
        all_goals go_wp2
        all_goals exact bodyPost_ret (v := .tuple #[.slice (some ⟨b, off, none⟩) cap cap, .agg #[.slice (some ⟨b, off, none⟩) 0 0, .int .i64 0]]) (by simp [results, Try.results56, go_sem]) rfl (rfix_fin (by (repeat (first | exact Below.refl _ _ | assumption | (refine Below.setCell ?_ (by first | (simp; done) | (simp; omega)) _) | (refine Below.alloc ?_ (by first | (simp; done) | (simp; omega)) _) | (refine Below.drew ?_)))) hBs HO.out HD.out HL0.out rfl HREL.out)


theorem rfixed_any (B : Nat) (ao : Option Addr) (cap : Nat) (rest : List Nat) (c : Nat) (many : Int) (w : World) (hBs : B ≤ w.heap.size) (hru : RdU w B (.slice ao rest.length cap) rest) :
    Calls Try.prog 56 #[.agg #[.slice ao rest.length cap, .int .i64 (c : Int)], .int .i64 many] w (RFixPost B rest c many w) := by
  by_cases h : c ≠ 0 ∨ many < 0 ∨ (rest.length : Int) < many
  · exact rfixed_bad B ao cap rest c many w hBs hru h
  · obtain rfl : c = 0 := by omega
    obtain ⟨k, rfl⟩ : ∃ k : Nat, many = (k : Int) := ⟨many.toNat, by omega⟩
    exact rfixed_ok B ao cap rest k w hBs hru (by omega)

end Go.Proofs.Ytbihammpdjkonaa
