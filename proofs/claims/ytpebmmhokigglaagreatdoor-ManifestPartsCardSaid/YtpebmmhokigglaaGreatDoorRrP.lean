/- The contracts of the document's own reader: fail, End, Number. · The contracts of the document's own reader: Within, count, Fixed. · The contracts of the document's own reader: count, Fixed. · The contracts of the document's own reader: TextOf, ListOf. -/
import Derived.Test.YtpebmmhokigglaaGreatDoorRdP
import Derived.Deep.RegionHeld3
import Derived.Deep.DrawnRows
import Derived.RegionTactic
namespace Go.Proofs.YtpebmmhokigglaaGreatDoor
open Go.RowKit

theorem bcell {W w1 : World} (hb : Below W.heap.size W w1) : (∀ b o, b < W.heap.size → w1.cell? ⟨b, o, none⟩ = W.cell? ⟨b, o, none⟩) ∧ (∀ b o, b < W.heap.size → w1.frozen? ⟨b, o, none⟩ = W.frozen? ⟨b, o, none⟩) :=
  ⟨fun b o h => hb.cell (p := ⟨b, o, none⟩) h, fun b o h => hb.frozen (p := ⟨b, o, none⟩) h⟩

/-- A block of two cells. -/
theorem blk2 {w : World} {p : Nat} {a b : Value} {t : TypeId} (h : w.heap[p]? = some (.cells #[a, b] t (0, 0))) :
    w.cell? ⟨p, 0, none⟩ = some a ∧ w.cell? ⟨p, 1, none⟩ = some b ∧ w.frozen? ⟨p, 0, none⟩ = false ∧ w.frozen? ⟨p, 1, none⟩ = false :=
  ⟨by rw [cell_of_row w p 0 _ _ _ h]; rfl, by rw [cell_of_row w p 1 _ _ _ h]; rfl, frozen_of_row w p 0 _ _ h, frozen_of_row w p 1 _ _ h⟩
/-- Two new blocks, behind whatever has been made since. -/
theorem new2 {w w1 : World} {o1 o2 : Obj} (hb : Below ((w.alloc o1).alloc o2).heap.size ((w.alloc o1).alloc o2) w1) : w1.heap[w.heap.size]? = some o1 ∧ w1.heap[w.heap.size + 1]? = some o2 := by
  constructor
  · rw [hb.block _ (by simp; omega), Below.heap_alloc _ _ _ (by simp), heap_alloc_new]
  · rw [hb.block _ (by simp)]
    have := heap_alloc_new (w.alloc o1) o2
    simpa using this

set_option maxHeartbeats 400000 in
set_option maxRecDepth 100000 in
theorem rfail_any (ao : Option Addr) (n cap : Nat) (c bad : Nat) (w : World) :
    Calls Tryz.prog 95 #[.agg #[.slice ao n cap, .int .i64 (c : Int)], .int .i64 (bad : Int)] w fun e w' => e = .returned (.agg #[.slice ao n cap, .int .i64 ((if c = 0 then bad else c : Nat) : Int)]) ∧ Below w.heap.size w w' := by
  by_cases hc : c = 0
  · subst hc
    rw [if_pos rfl]
    go_enter Tryz.func95, Tryz.ntmps95
    go_wp2
    exact bodyPost_ret (v := .agg #[.slice ao n cap, .int .i64 (bad : Int)]) (by simp [results, Tryz.results95, go_sem]) rfl ⟨rfl, by (repeat (first | exact Below.refl _ _ | (refine Below.setCell ?_ (by simp) _) | (refine Below.alloc ?_ (by simp) _) | (refine Below.drew ?_)))⟩
  · have t1 : ((c : Int) == 0) = false := by rw [beq_eq_false_iff_ne]; omega
    rw [if_neg hc]
    go_enter Tryz.func95, Tryz.ntmps95
    go_wp2
    exact bodyPost_ret (v := .agg #[.slice ao n cap, .int .i64 (c : Int)]) (by simp [results, Tryz.results95, go_sem]) rfl ⟨rfl, by (repeat (first | exact Below.refl _ _ | (refine Below.setCell ?_ (by simp) _) | (refine Below.alloc ?_ (by simp) _) | (refine Below.drew ?_)))⟩

set_option maxHeartbeats 400000 in
set_option maxRecDepth 100000 in
theorem rend_any (ao : Option Addr) (n cap : Nat) (c : Nat) (w : World) :
    Calls Tryz.prog 56 #[.agg #[.slice ao n cap, .int .i64 (c : Int)]] w fun e w' => e = .returned (.int .i64 ((endC n c : Nat) : Int)) ∧ Below w.heap.size w w' := by
  by_cases hc : c = 0
  · subst hc
    by_cases hn : n = 0
    · subst hn
      rw [show endC 0 0 = 0 from rfl]
      go_enter Tryz.func56, Tryz.ntmps56
      go_wp2
      go_ret
      exact ⟨rfl, by (repeat (first | exact Below.refl _ _ | (refine Below.setCell ?_ (by simp) _) | (refine Below.alloc ?_ (by simp) _) | (refine Below.drew ?_)))⟩
    · rw [show endC n 0 = 2 from by unfold endC; rw [if_neg (by simp), if_neg hn]]
      have hn1 : (0 : Int) < (n : Int) := by omega
      clear hn
      go_enter Tryz.func56, Tryz.ntmps56
      go_wp2
      go_ret
      exact ⟨rfl, by (repeat (first | exact Below.refl _ _ | (refine Below.setCell ?_ (by simp) _) | (refine Below.alloc ?_ (by simp) _) | (refine Below.drew ?_)))⟩
  · have t1 : ((c : Int) == 0) = false := by rw [beq_eq_false_iff_ne]; omega
    rw [show endC n c = c from if_pos hc]
    go_enter Tryz.func56, Tryz.ntmps56
    go_wp2
    go_ret
    exact ⟨rfl, by (repeat (first | exact Below.refl _ _ | (refine Below.setCell ?_ (by simp) _) | (refine Below.alloc ?_ (by simp) _) | (refine Below.drew ?_)))⟩

/-- A slice that reads, its cells in a block below B. -/
def RdU (w : World) (B : Nat) (v : Value) (l : List Nat) : Prop := Reads w .u8 v l ∧ ∃ ao n cap, v = .slice ao n cap ∧ (cap = 0 ∨ ∃ b off, ao = some ⟨b, off, none⟩ ∧ b < B)
theorem RdU.reads {w : World} {B : Nat} {v : Value} {l : List Nat} (h : RdU w B v l) : Reads w .u8 v l := h.1
theorem RdU.form {w : World} {B : Nat} {ao : Option Addr} {n cap : Nat} {l : List Nat} (h : RdU w B (.slice ao n cap) l) : cap = 0 ∨ ∃ b off, ao = some ⟨b, off, none⟩ ∧ b < B := by
  obtain ⟨ao', n', cap', hv, h2⟩ := h.2
  simp only [Value.slice.injEq] at hv
  obtain ⟨rfl, rfl, rfl⟩ := hv
  exact h2
theorem RdU.below {w w' : World} {B : Nat} {v : Value} {l : List Nat} (h : RdU w B v l) (hb : Below B w w') : RdU w' B v l := by
  refine ⟨?_, h.2⟩
  obtain ⟨⟨ao, cap, rfl, h1, h2, h3, h4⟩, h5⟩ := h
  refine ⟨ao, cap, rfl, h1, h2, h3, ?_⟩
  rcases h4 with h4 | ⟨b, off, rfl, hlt, hc⟩
  · exact .inl h4
  · by_cases hl : l = []
    · exact .inl hl
    · obtain ⟨ao', n', cap', hv, h6⟩ := h5
      simp only [Value.slice.injEq] at hv
      obtain ⟨rfl, rfl, rfl⟩ := hv
      rcases h6 with h6 | ⟨b', off', ha, hB⟩
      · have := List.length_pos_iff.2 hl; omega
      · simp only [Option.some.injEq, Addr.mk.injEq, and_true] at ha
        obtain ⟨rfl, rfl⟩ := ha
        exact .inr ⟨b, off, rfl, Nat.lt_of_lt_of_le hlt hb.size, fun i hi => (hb.cell (p := ⟨b, off + i, none⟩) hB).trans (hc i hi)⟩
theorem RdU.blk {w : World} {B b off n cap : Nat} {l : List Nat} (h : RdU w B (.slice (some ⟨b, off, none⟩) n cap) l) (hc : 0 < cap) : b < B := by
  rcases h.form with h | ⟨b', off', ha, hB⟩
  · omega
  · simp only [Option.some.injEq, Addr.mk.injEq, and_true] at ha
    obtain ⟨rfl, rfl⟩ := ha
    exact hB
theorem RdU.nil (w : World) (B : Nat) (ao : Option Addr) : RdU w B (.slice ao 0 0) [] := ⟨⟨ao, 0, rfl, by simp, by simp [maxLen], fun _ => rfl, .inl rfl⟩, _, _, _, rfl, .inl rfl⟩

/-- What is left behind n of them. -/
theorem drop_reads {w : World} {b off cap n : Nat} {l : List Nat} (h : Reads w .u8 (.slice (some ⟨b, off, none⟩) l.length cap) l) (hp : n < cap) (hle : n ≤ l.length) :
    Reads w .u8 (.slice (some ⟨b, off + n, none⟩) (l.length - n) (cap - n)) (l.drop n) := by
  obtain ⟨ao, cap', hv, h1, h2, h3, h4⟩ := h
  simp only [Value.slice.injEq, true_and] at hv
  obtain ⟨rfl, rfl⟩ := hv
  have hl : (l.drop n).length = l.length - n := by simp
  refine ⟨_, cap - n, by rw [hl], by omega, by omega, by simp, ?_⟩
  rcases h4 with rfl | ⟨b', off', ha, hb, hc⟩
  · left; simp
  · simp only [Option.some.injEq, Addr.mk.injEq, and_true] at ha
    obtain ⟨rfl, rfl⟩ := ha
    refine .inr ⟨b, off + n, rfl, hb, fun i hi => ?_⟩
    rw [hl] at hi
    have := hc (n + i) (by omega)
    rw [Nat.add_assoc, this]
    simp [List.getD]

/-- What the document's reader's Number hands back. -/
def RNumPost (B : Nat) (rest : List Nat) (c : Nat) (w : World) (e : Ending) (w' : World) : Prop :=
  ∃ (n : Nat) (ao : Option Addr) (cap : Nat) (rest' : List Nat) (c' : Nat), e = .returned (.tuple #[.int .u64 (n : Int), .agg #[.slice ao rest'.length cap, .int .i64 (c' : Int)]]) ∧
    NumRel rest c n rest' c' ∧ RdU w' B (.slice ao rest'.length cap) rest' ∧ Below w.heap.size w w'

theorem rnum_fin {B : Nat} {rest rest' : List Nat} {c c' n len cap : Nat} {ao : Option Addr} {N C : Int} {w w' : World} (hB : Below w.heap.size w w') (hBs : B ≤ w.heap.size) (hr : RdU w B (.slice ao len cap) rest') (hl : len = rest'.length) (hN : N = (n : Int)) (hC : C = (c' : Int)) (h : NumRel rest c n rest' c') :
    RNumPost B rest c w (.returned (.tuple #[.int .u64 N, .agg #[.slice ao len cap, .int .i64 C]])) w' := by
  subst hl hN hC
  exact ⟨n, ao, cap, rest', c', rfl, h, hr.below (hB.mono hBs), hB⟩

set_option maxHeartbeats 1000000 in
set_option maxRecDepth 100000 in
theorem rnumber_any (B : Nat) (ao : Option Addr) (cap : Nat) (rest : List Nat) (c : Nat) (w : World) (hBs : B ≤ w.heap.size) (hru : RdU w B (.slice ao rest.length cap) rest) (hb : ∀ y ∈ rest, y < 256) :
    Calls Tryz.prog 94 #[.agg #[.slice ao rest.length cap, .int .i64 (c : Int)]] w (RNumPost B rest c w) := by
  have hr := hru.reads
  have HRU := Lib.hid hru
  clear hru
  by_cases hc : c = 0
  · subst hc
    go_enter Tryz.func94, Tryz.ntmps94
    go_wp2_with fail
    refine (refTake_any _ rest _ (hr.below (((Below.refl _ _).alloc (Nat.le_refl _) _).alloc (by simp) _) (Nat.le_refl _)) hb).mono ?_
    rintro e w1 ⟨n, k, ok, rfl, ht, hb1⟩
    have hbw : Below w.heap.size w w1 := (((Below.refl _ _).alloc (Nat.le_refl _) _).alloc (by simp) _).trans (hb1.mono (by simp; omega))
    obtain ⟨B1, B2⟩ := new2 hb1
    obtain ⟨g1, g2, f1, f2⟩ := blk2 B1
    obtain ⟨g3, g4, f3, f4⟩ := blk2 B2
    have hz : w.heap.size + 1 < w1.heap.size := by have := hb1.size; simp at this; omega
    have hz0 : w.heap.size < w1.heap.size := by omega
    clear hb1 B1 B2
    cases ok
    · have hrel : NumRel rest 0 0 rest 2 := by
        rcases ht with ⟨h, _⟩ | ⟨_, _, _, h4⟩
        · simp at h
        · exact .inr (.inr ⟨rfl, rfl, rfl, rfl, h4⟩)
      have HREL := Lib.hid hrel
      clear hrel ht hr
      go_wp2_with fail
      refine (rfail_any ao rest.length cap 0 2 _).mono ?_
      rintro e w2 ⟨rfl, hb2⟩
      have hbw2 := hbw.trans (hb2.mono hbw.size)
      obtain ⟨hcl2, hfz2⟩ := bcell hb2
      have hz2 : w.heap.size + 1 < w2.heap.size := by have := hb2.size; omega
      have hz02 : w.heap.size < w2.heap.size := by omega
      clear hb2 hbw
      go_wp2
      exact bodyPost_ret (v := .tuple #[.int .u64 0, .agg #[.slice ao rest.length cap, .int .i64 2]]) (by simp [results, Tryz.results94, go_sem, hcl2, g3, g4, hz]) rfl (rnum_fin (B := B) (by (repeat (first | exact Below.refl _ _ | assumption | (refine Below.setCell ?_ (by simp) _) | (refine Below.alloc ?_ (by first | (simp; done) | (simp; omega)) _) | (refine Below.drew ?_)))) hBs HRU.out rfl rfl rfl HREL.out)
    · rcases ht with ⟨_, hu, hp, rfl⟩ | ⟨h, _⟩
      · have hpl := hp.length_le
        have hp1 := enc_pos n
        have hrel : NumRel rest 0 n (rest.drop (enc n).length) 0 := .inr (.inl ⟨rfl, hu, by conv => lhs; rw [← List.take_append_drop (enc n).length rest, ← List.prefix_iff_eq_take.1 hp], rfl⟩)
        have HREL := Lib.hid hrel
        obtain ⟨b, off, rfl, _, _⟩ := hr.at (i := 0) (by omega)
        obtain ⟨ao', cap', hvv, hcap, _, _⟩ := hr.val
        simp only [Value.slice.injEq, true_and] at hvv
        obtain ⟨rfl, rfl⟩ := hvv
        clear hrel hp
        generalize (enc n).length = k at *
        by_cases hkc : k < cap
        · have hdr : RdU w B (.slice (some ⟨b, off + k, none⟩) (rest.length - k) (cap - k)) (rest.drop k) := ⟨drop_reads hr hkc hpl, _, _, _, rfl, .inr ⟨_, _, rfl, HRU.out.blk (by omega)⟩⟩
          have HDR := Lib.hid hdr
          clear hdr hr
          go_wp2
          go_region
          all_goals go_wp2
          all_goals exact bodyPost_ret (v := .tuple #[.int .u64 (n : Int), .agg #[.slice (some ⟨b, off + k, none⟩) (rest.length - k) (cap - k), .int .i64 0]]) (by simp [results, Tryz.results94, go_sem, g3, g4]) rfl (rnum_fin (B := B) (by (repeat (first | exact Below.refl _ _ | assumption | (refine Below.setCell ?_ (by simp) _) | (refine Below.alloc ?_ (by first | (simp; done) | (simp; omega)) _) | (refine Below.drew ?_)))) hBs HDR.out (by simp) rfl rfl HREL.out)
        · obtain rfl : cap = k := by omega
          have hrl : rest.length = cap := by omega
          have hdr : RdU w B (.slice (some ⟨b, off, none⟩) 0 0) (rest.drop cap) := by
            rw [List.drop_of_length_le (by omega)]
            exact RdU.nil _ _ _
          have hl0 : 0 = (rest.drop cap).length := by simp; omega
          have HDR := Lib.hid hdr
          have HL0 := Lib.hid hl0
          clear hr hdr hl0
          go_wp2
          go_region
          all_goals go_wp2
          all_goals exact bodyPost_ret (v := .tuple #[.int .u64 (n : Int), .agg #[.slice (some ⟨b, off, none⟩) 0 0, .int .i64 0]]) (by simp [results, Tryz.results94, go_sem, g3, g4]) rfl (rnum_fin (B := B) (by (repeat (first | exact Below.refl _ _ | assumption | (refine Below.setCell ?_ (by simp) _) | (refine Below.alloc ?_ (by first | (simp; done) | (simp; omega)) _) | (refine Below.drew ?_)))) hBs HDR.out HL0.out rfl rfl HREL.out)
      · simp at h
  · have t1 : ((c : Int) != 0) = true := by rw [bne_iff_ne]; omega
    go_enter Tryz.func94, Tryz.ntmps94
    go_wp2
    go_region
    all_goals go_wp2
    all_goals exact bodyPost_ret (v := .tuple #[.int .u64 0, .agg #[.slice ao rest.length cap, .int .i64 (c : Int)]]) (by simp [results, Tryz.results94, go_sem]) rfl (rnum_fin (B := B) (by (repeat (first | exact Below.refl _ _ | assumption | (refine Below.setCell ?_ (by simp) _) | (refine Below.alloc ?_ (by first | (simp; done) | (simp; omega)) _) | (refine Below.drew ?_)))) hBs HRU.out rfl rfl rfl (.inl ⟨hc, rfl, rfl, rfl⟩))

end Go.Proofs.YtpebmmhokigglaaGreatDoor

namespace Go.Proofs.YtpebmmhokigglaaGreatDoor
open Go.RowKit

/-- What Within of the document's reader hands back. -/
def RWithinPost (B : Nat) (rest : List Nat) (c most : Nat) (w : World) (e : Ending) (w' : World) : Prop :=
  ∃ (n : Nat) (ao : Option Addr) (cap : Nat) (rest' : List Nat) (c1 : Nat), e = .returned (.tuple #[.int .i64 ((withinR n most : Nat) : Int), .agg #[.slice ao rest'.length cap, .int .i64 ((withinC n c1 most : Nat) : Int)]]) ∧
    NumRel rest c n rest' c1 ∧ RdU w' B (.slice ao rest'.length cap) rest' ∧ Below w.heap.size w w'

theorem rwithin_fin {B : Nat} {rest rest' : List Nat} {c c1 n most cap : Nat} {ao : Option Addr} {N C : Int} {w w1 w' : World} (hB : Below w.heap.size w w') (hb1 : Below B w1 w') (hr : RdU w1 B (.slice ao rest'.length cap) rest') (hN : N = ((withinR n most : Nat) : Int)) (hC : C = ((withinC n c1 most : Nat) : Int)) (h : NumRel rest c n rest' c1) :
    RWithinPost B rest c most w (.returned (.tuple #[.int .i64 N, .agg #[.slice ao rest'.length cap, .int .i64 C]])) w' := by
  subst hN hC
  exact ⟨n, ao, cap, rest', c1, rfl, h, hr.below hb1, hB⟩

/-- The second of two new blocks, behind a struct's store into the first and a call. -/
theorem keep2 {w1 w2 : World} {p : Nat} {x y : Value} {o : Obj} (h : w1.heap[p + 1]? = some o) (hb : Below ((w1.setCell ⟨p, 0, none⟩ x).setCell ⟨p, 1, none⟩ y).heap.size ((w1.setCell ⟨p, 0, none⟩ x).setCell ⟨p, 1, none⟩ y) w2) : w2.heap[p + 1]? = some o := by
  have hlt := (Array.getElem?_eq_some_iff.1 h).1
  rw [hb.block (p + 1) (by simpa using hlt), heap_setCell_other _ _ _ _ (by simp), heap_setCell_other _ _ _ _ (by simp)]
  exact h

set_option maxHeartbeats 1000000 in
set_option maxRecDepth 100000 in
theorem rwithin_any (B : Nat) (ao : Option Addr) (cap : Nat) (rest : List Nat) (c most : Nat) (w : World) (hBs : B ≤ w.heap.size) (hru : RdU w B (.slice ao rest.length cap) rest) (hb : ∀ y ∈ rest, y < 256) :
    Calls Tryz.prog 54 #[.agg #[.slice ao rest.length cap, .int .i64 (c : Int)], .int .u64 (most : Int)] w (RWithinPost B rest c most w) := by
  go_enter Tryz.func54, Tryz.ntmps54
  go_wp2_with fail
  refine (rnumber_any B ao cap rest c _ (by simp; omega) (hru.below (((Below.refl _ _).alloc (by omega) _).alloc (by simp; omega) _)) hb).mono ?_
  rintro e w1 ⟨n, ao1, cap1, rest1, c1, rfl, hn, hr1, hb1⟩
  have hbw : Below w.heap.size w w1 := (((Below.refl _ _).alloc (Nat.le_refl _) _).alloc (by simp) _).trans (hb1.mono (by simp; omega))
  obtain ⟨B1, B2⟩ := new2 hb1
  obtain ⟨g1, g2, f1, f2⟩ := blk2 B1
  obtain ⟨g3, g4, f3, f4⟩ := blk2 B2
  have hz : w.heap.size + 1 < w1.heap.size := by have := hb1.size; simp at this; omega
  have hz0 : w.heap.size < w1.heap.size := by omega
  have HN := Lib.hid hn
  have HR1 := Lib.hid hr1
  have HB2 := Lib.hid B2
  clear hb1 B1 B2 hn hr1 hru hb
  obtain ⟨N, hN⟩ : ∃ N : Int, N = (n : Int) := ⟨_, rfl⟩
  obtain ⟨M, hM⟩ : ∃ M : Int, M = (most : Int) := ⟨_, rfl⟩
  have hN0 : 0 ≤ N := by omega
  rw [← hN, ← hM]
  have HNN := Lib.hid hN
  by_cases hbad : M < N ∨ 4611686018427387904 < N
  · have HB : Hid (most < n ∨ 4611686018427387904 < n) := by show _ ∨ _; omega
    clear hN hM
    by_cases hm : M < N
    · clear hbad
      go_wp2_with fail
      refine (rfail_any ao1 rest1.length cap1 c1 1 _).mono ?_
      rintro e w2 ⟨rfl, hb2⟩
      have hbw2 : Below w.heap.size w w2 := ((hbw.setCell (by simp) _).setCell (by simp) _).trans (hb2.mono (by simp; omega))
      have hb12 : Below B w1 w2 := (((Below.refl _ _).setCell (by simp; omega) _).setCell (by simp; omega) _).trans (hb2.mono (by simp; omega))
      obtain ⟨k3, k4, e3, e4⟩ := blk2 (keep2 HB2.out hb2)
      clear hb2 hbw g1 g2 g3 g4 f1 f2 f3 f4
      generalize hcx : (if c1 = 0 then 1 else c1) = cx at *
      have HCX := Lib.hid hcx
      clear hcx
      go_wp2
      exact bodyPost_ret (v := .tuple #[.int .i64 0, .agg #[.slice ao1 rest1.length cap1, .int .i64 (cx : Int)]]) (by simp [results, Tryz.results54, go_sem, k3, k4]) rfl (rwithin_fin (w1 := w1) (by (repeat (first | exact Below.refl _ _ | assumption | (refine Below.setCell ?_ (by first | (simp; done) | (simp; omega)) _) | (refine Below.alloc ?_ (by first | (simp; done) | (simp; omega)) _) | (refine Below.drew ?_)))) (by (repeat (first | exact Below.refl _ _ | assumption | (refine Below.setCell ?_ (by first | (simp; done) | (simp; omega)) _) | (refine Below.alloc ?_ (by first | (simp; done) | (simp; omega)) _) | (refine Below.drew ?_)))) HR1.out (by rw [(within_bad (c := c1) HB.out).1]; rfl) (by rw [(within_bad HB.out).2, HCX.out]) HN.out)
    · have h2 : 4611686018427387904 < N := by omega
      have h1 : N ≤ M := by omega
      clear hbad hm
      go_wp2_with fail
      refine (rfail_any ao1 rest1.length cap1 c1 1 _).mono ?_
      rintro e w2 ⟨rfl, hb2⟩
      have hbw2 : Below w.heap.size w w2 := ((hbw.setCell (by simp) _).setCell (by simp) _).trans (hb2.mono (by simp; omega))
      have hb12 : Below B w1 w2 := (((Below.refl _ _).setCell (by simp; omega) _).setCell (by simp; omega) _).trans (hb2.mono (by simp; omega))
      obtain ⟨k3, k4, e3, e4⟩ := blk2 (keep2 HB2.out hb2)
      clear hb2 hbw g1 g2 g3 g4 f1 f2 f3 f4
      generalize hcx : (if c1 = 0 then 1 else c1) = cx at *
      have HCX := Lib.hid hcx
      clear hcx
      go_wp2
      exact bodyPost_ret (v := .tuple #[.int .i64 0, .agg #[.slice ao1 rest1.length cap1, .int .i64 (cx : Int)]]) (by simp [results, Tryz.results54, go_sem, k3, k4]) rfl (rwithin_fin (w1 := w1) (by (repeat (first | exact Below.refl _ _ | assumption | (refine Below.setCell ?_ (by first | (simp; done) | (simp; omega)) _) | (refine Below.alloc ?_ (by first | (simp; done) | (simp; omega)) _) | (refine Below.drew ?_)))) (by (repeat (first | exact Below.refl _ _ | assumption | (refine Below.setCell ?_ (by first | (simp; done) | (simp; omega)) _) | (refine Below.alloc ?_ (by first | (simp; done) | (simp; omega)) _) | (refine Below.drew ?_)))) HR1.out (by rw [(within_bad (c := c1) HB.out).1]; rfl) (by rw [(within_bad HB.out).2, HCX.out]) HN.out)
  · have HB : Hid (¬ (most < n ∨ 4611686018427387904 < n)) := by show ¬ _; omega
    have h1 : N ≤ M := by omega
    have h2 : N ≤ 4611686018427387904 := by omega
    clear hbad hN hM
    go_wp2
    go_region
    all_goals go_wp2
    all_goals exact bodyPost_ret (v := .tuple #[.int .i64 N, .agg #[.slice ao1 rest1.length cap1, .int .i64 (c1 : Int)]]) (by simp [results, Tryz.results54, go_sem, g3, g4]) rfl (rwithin_fin (w1 := w1) (by (repeat (first | exact Below.refl _ _ | assumption | (refine Below.setCell ?_ (by first | (simp; done) | (simp; omega)) _) | (refine Below.alloc ?_ (by first | (simp; done) | (simp; omega)) _) | (refine Below.drew ?_)))) (by (repeat (first | exact Below.refl _ _ | assumption | (refine Below.setCell ?_ (by first | (simp; done) | (simp; omega)) _) | (refine Below.alloc ?_ (by first | (simp; done) | (simp; omega)) _) | (refine Below.drew ?_)))) HR1.out (by rw [HNN.out, (within_good (c := c1) HB.out).1]) (by rw [(within_good HB.out).2]) HN.out)

end Go.Proofs.YtpebmmhokigglaaGreatDoor

namespace Go.Proofs.YtpebmmhokigglaaGreatDoor
open Go.RowKit

/-- What Fixed of the document's reader hands back. -/
def RFixPost (B : Nat) (rest : List Nat) (c : Nat) (many : Int) (w : World) (e : Ending) (w' : World) : Prop :=
  ∃ (ov : Value) (out : List Nat) (ao : Option Addr) (cap : Nat) (rest' : List Nat) (c' : Nat), e = .returned (.tuple #[ov, .agg #[.slice ao rest'.length cap, .int .i64 (c' : Int)]]) ∧
    FixRel rest c many out rest' c' ∧ RdU w' B ov out ∧ RdU w' B (.slice ao rest'.length cap) rest' ∧ Below w.heap.size w w'

theorem rfix_fin {B : Nat} {rest rest' out : List Nat} {c c' cap len : Nat} {many : Int} {ao : Option Addr} {ov : Value} {C : Int} {w w' : World} (hB : Below w.heap.size w w') (hBs : B ≤ w.heap.size) (ho : RdU w B ov out) (hr : RdU w B (.slice ao len cap) rest') (hl : len = rest'.length) (hC : C = (c' : Int)) (h : FixRel rest c many out rest' c') :
    RFixPost B rest c many w (.returned (.tuple #[ov, .agg #[.slice ao len cap, .int .i64 C]])) w' := by
  subst hC hl
  exact ⟨ov, out, ao, cap, rest', c', rfl, h, ho.below (hB.mono hBs), hr.below (hB.mono hBs), hB⟩

set_option maxHeartbeats 1000000 in
set_option maxRecDepth 100000 in
theorem rfixed_bad (B : Nat) (ao : Option Addr) (cap : Nat) (rest : List Nat) (c : Nat) (many : Int) (w : World) (hBs : B ≤ w.heap.size) (hru : RdU w B (.slice ao rest.length cap) rest)
    (hbad : c ≠ 0 ∨ many < 0 ∨ (rest.length : Int) < many) :
    Calls Tryz.prog 97 #[.agg #[.slice ao rest.length cap, .int .i64 (c : Int)], .int .i64 many] w (RFixPost B rest c many w) := by
  have HRU := Lib.hid hru
  clear hru
  by_cases hc : c = 0
  · subst hc
    have hrel : FixRel rest 0 many [] rest 2 := .inr (.inl ⟨rfl, by omega, rfl, rfl, rfl⟩)
    have HREL := Lib.hid hrel
    clear hrel
    by_cases hm : many < 0
    · clear hbad
      go_enter Tryz.func97, Tryz.ntmps97
      go_wp2_with fail
      refine (rfail_any ao rest.length cap 0 2 _).mono ?_
      rintro e w2 ⟨rfl, hb2⟩
      have hbw2 : Below w.heap.size w w2 := (((Below.refl _ _).alloc (Nat.le_refl _) _).alloc (by simp) _).trans (hb2.mono (by simp; omega))
      obtain ⟨B1, B2⟩ := new2 hb2
      obtain ⟨k3, k4, e3, e4⟩ := blk2 B2
      clear hb2 B1 B2
      go_wp2
      exact bodyPost_ret (v := .tuple #[.slice none 0 0, .agg #[.slice ao rest.length cap, .int .i64 2]]) (by simp [results, Tryz.results97, go_sem, k3, k4]) rfl (rfix_fin (by (repeat (first | exact Below.refl _ _ | assumption | (refine Below.setCell ?_ (by first | (simp; done) | (simp; omega)) _) | (refine Below.alloc ?_ (by first | (simp; done) | (simp; omega)) _) | (refine Below.drew ?_)))) hBs (RdU.nil _ _ _) HRU.out rfl rfl HREL.out)
    · have h1 : 0 ≤ many := by omega
      have h2 : (rest.length : Int) < many := by omega
      clear hbad hm
      go_enter Tryz.func97, Tryz.ntmps97
      go_wp2_with fail
      refine (rfail_any ao rest.length cap 0 2 _).mono ?_
      rintro e w2 ⟨rfl, hb2⟩
      have hbw2 : Below w.heap.size w w2 := (((Below.refl _ _).alloc (Nat.le_refl _) _).alloc (by simp) _).trans (hb2.mono (by simp; omega))
      obtain ⟨B1, B2⟩ := new2 hb2
      obtain ⟨k3, k4, e3, e4⟩ := blk2 B2
      clear hb2 B1 B2
      go_wp2
      exact bodyPost_ret (v := .tuple #[.slice none 0 0, .agg #[.slice ao rest.length cap, .int .i64 2]]) (by simp [results, Tryz.results97, go_sem, k3, k4]) rfl (rfix_fin (by (repeat (first | exact Below.refl _ _ | assumption | (refine Below.setCell ?_ (by first | (simp; done) | (simp; omega)) _) | (refine Below.alloc ?_ (by first | (simp; done) | (simp; omega)) _) | (refine Below.drew ?_)))) hBs (RdU.nil _ _ _) HRU.out rfl rfl HREL.out)
  · have t1 : ((c : Int) != 0) = true := by rw [bne_iff_ne]; omega
    clear hbad
    go_enter Tryz.func97, Tryz.ntmps97
    go_wp2
    go_region
    all_goals go_wp2
    all_goals exact bodyPost_ret (v := .tuple #[.slice none 0 0, .agg #[.slice ao rest.length cap, .int .i64 (c : Int)]]) (by simp [results, Tryz.results97, go_sem]) rfl (rfix_fin (by (repeat (first | exact Below.refl _ _ | assumption | (refine Below.setCell ?_ (by first | (simp; done) | (simp; omega)) _) | (refine Below.alloc ?_ (by first | (simp; done) | (simp; omega)) _) | (refine Below.drew ?_)))) hBs (RdU.nil _ _ _) HRU.out rfl rfl (.inl ⟨hc, rfl, rfl, rfl⟩))


theorem take_reads {w : World} {b off cap n : Nat} {l : List Nat} (h : Reads w .u8 (.slice (some ⟨b, off, none⟩) l.length cap) l) (hle : n ≤ l.length) :
    Reads w .u8 (.slice (some ⟨b, off, none⟩) n cap) (l.take n) := by
  obtain ⟨ao, cap', hv, h1, h2, h3, h4⟩ := h
  simp only [Value.slice.injEq, true_and] at hv
  obtain ⟨rfl, rfl⟩ := hv
  have hl : (l.take n).length = n := by rw [List.length_take]; omega
  refine ⟨_, cap, by rw [hl], by omega, by omega, by simp, ?_⟩
  rcases h4 with rfl | ⟨b', off', ha, hb, hc⟩
  · left; simp
  · simp only [Option.some.injEq, Addr.mk.injEq, and_true] at ha
    obtain ⟨rfl, rfl⟩ := ha
    refine .inr ⟨b, off, rfl, hb, fun i hi => ?_⟩
    rw [hl] at hi
    rw [hc i (by omega)]
    simp [List.getD, hi]

set_option maxHeartbeats 1000000 in
set_option maxRecDepth 100000 in
theorem rfixed_zero (B : Nat) (ao : Option Addr) (w : World) (hBs : B ≤ w.heap.size) :
    Calls Tryz.prog 97 #[.agg #[.slice ao 0 0, .int .i64 0], .int .i64 0] w (RFixPost B [] 0 0 w) := by
  have hrel : FixRel [] 0 0 [] [] 0 := .inr (.inr ⟨rfl, by omega, by simp, by simp, by simp, rfl⟩)
  have HREL := Lib.hid hrel
  clear hrel
  go_enter Tryz.func97, Tryz.ntmps97
  go_wp2
  go_region
  all_goals go_wp2
  all_goals exact bodyPost_ret (v := .tuple #[.slice ao 0 0, .agg #[.slice ao 0 0, .int .i64 0]]) (by simp [results, Tryz.results97, go_sem]) rfl (rfix_fin (by (repeat (first | exact Below.refl _ _ | assumption | (refine Below.setCell ?_ (by first | (simp; done) | (simp; omega)) _) | (refine Below.alloc ?_ (by first | (simp; done) | (simp; omega)) _) | (refine Below.drew ?_)))) hBs (RdU.nil _ _ _) (RdU.nil _ _ _) rfl rfl HREL.out)

set_option maxHeartbeats 1000000 in
set_option maxRecDepth 100000 in
theorem rfixed_ok (B : Nat) (ao : Option Addr) (cap : Nat) (rest : List Nat) (many : Nat) (w : World) (hBs : B ≤ w.heap.size) (hru : RdU w B (.slice ao rest.length cap) rest) (hm : many ≤ rest.length) :
    Calls Tryz.prog 97 #[.agg #[.slice ao rest.length cap, .int .i64 0], .int .i64 (many : Int)] w (RFixPost B rest 0 (many : Int) w) := by
  have hrel : FixRel rest 0 (many : Int) (rest.take many) (rest.drop many) 0 := .inr (.inr ⟨rfl, by omega, by omega, by simp, by simp, rfl⟩)
  have HREL := Lib.hid hrel
  clear hrel
  have hr := hru.reads
  have hcap : rest.length ≤ cap := by
    obtain ⟨ao', cap', hvv, h1, _, _⟩ := hr.val
    simp only [Value.slice.injEq, true_and] at hvv
    omega
  by_cases hcap0 : cap = 0
  · subst hcap0
    obtain rfl : rest = [] := List.length_eq_zero_iff.1 (by omega)
    obtain rfl : many = 0 := by simpa using hm
    exact rfixed_zero B ao w hBs
  rcases hru.form with h | ⟨b, off, rfl, hbB⟩
  · exact absurd h hcap0
  · by_cases hmc : many < cap
    · have ho : RdU w B (.slice (some ⟨b, off, none⟩) many cap) (rest.take many) := ⟨take_reads hr hm, _, _, _, rfl, .inr ⟨_, _, rfl, hbB⟩⟩
      have hd : RdU w B (.slice (some ⟨b, off + many, none⟩) (rest.length - many) (cap - many)) (rest.drop many) := ⟨drop_reads hr hmc hm, _, _, _, rfl, .inr ⟨_, _, rfl, hbB⟩⟩
      have HO := Lib.hid ho
      have HD := Lib.hid hd
      have q1 : (many : Int) ≤ (cap : Int) := by omega
      have q2 : ¬ cap = 0 := by omega
      clear ho hd hr hru
      go_enter Tryz.func97, Tryz.ntmps97
      go_wp2
      go_region
      all_goals go_wp2
      all_goals exact bodyPost_ret (v := .tuple #[.slice (some ⟨b, off, none⟩) many cap, .agg #[.slice (some ⟨b, off + many, none⟩) (rest.length - many) (cap - many), .int .i64 0]]) (by simp [results, Tryz.results97, go_sem]) rfl (rfix_fin (by (repeat (first | exact Below.refl _ _ | assumption | (refine Below.setCell ?_ (by first | (simp; done) | (simp; omega)) _) | (refine Below.alloc ?_ (by first | (simp; done) | (simp; omega)) _) | (refine Below.drew ?_)))) hBs HO.out HD.out (by simp) rfl HREL.out)
    · obtain rfl : cap = many := by omega
      have hrl : rest.length = cap := by omega
      have ho : RdU w B (.slice (some ⟨b, off, none⟩) cap cap) (rest.take cap) := ⟨take_reads hr hm, _, _, _, rfl, .inr ⟨_, _, rfl, hbB⟩⟩
      have hd : RdU w B (.slice (some ⟨b, off, none⟩) 0 0) (rest.drop cap) := by rw [List.drop_of_length_le (by omega)]; exact RdU.nil _ _ _
      have hl0 : 0 = (rest.drop cap).length := by simp; omega
      have HO := Lib.hid ho
      have HD := Lib.hid hd
      have HL0 := Lib.hid hl0
      clear ho hd hr hru hl0
      by_cases q2 : cap = 0
      · exact absurd q2 hcap0
      · go_enter Tryz.func97, Tryz.ntmps97
        go_wp2
        go_region
        all_goals go_wp2
        all_goals exact bodyPost_ret (v := .tuple #[.slice (some ⟨b, off, none⟩) cap cap, .agg #[.slice (some ⟨b, off, none⟩) 0 0, .int .i64 0]]) (by simp [results, Tryz.results97, go_sem]) rfl (rfix_fin (by (repeat (first | exact Below.refl _ _ | assumption | (refine Below.setCell ?_ (by first | (simp; done) | (simp; omega)) _) | (refine Below.alloc ?_ (by first | (simp; done) | (simp; omega)) _) | (refine Below.drew ?_)))) hBs HO.out HD.out HL0.out rfl HREL.out)


theorem rfixed_any (B : Nat) (ao : Option Addr) (cap : Nat) (rest : List Nat) (c : Nat) (many : Int) (w : World) (hBs : B ≤ w.heap.size) (hru : RdU w B (.slice ao rest.length cap) rest) :
    Calls Tryz.prog 97 #[.agg #[.slice ao rest.length cap, .int .i64 (c : Int)], .int .i64 many] w (RFixPost B rest c many w) := by
  by_cases h : c ≠ 0 ∨ many < 0 ∨ (rest.length : Int) < many
  · exact rfixed_bad B ao cap rest c many w hBs hru h
  · obtain rfl : c = 0 := by omega
    obtain ⟨k, rfl⟩ : ∃ k : Nat, many = (k : Int) := ⟨many.toNat, by omega⟩
    exact rfixed_ok B ao cap rest k w hBs hru (by omega)

end Go.Proofs.YtpebmmhokigglaaGreatDoor

namespace Go.Proofs.YtpebmmhokigglaaGreatDoor
open Go.RowKit

/-- A block of two cells, both written. -/
theorem set2 {w : World} {p : Nat} {x0 y0 x y : Value} {t : TypeId} (h : w.heap[p]? = some (.cells #[x0, y0] t (0, 0))) : ((w.setCell ⟨p, 0, none⟩ x).setCell ⟨p, 1, none⟩ y).heap[p]? = some (.cells #[x, y] t (0, 0)) := by
  have h1 := heap_setCell_same w p 0 _ _ x h
  have h2 := heap_setCell_same _ p 1 _ _ y h1
  simpa using h2

end Go.Proofs.YtpebmmhokigglaaGreatDoor
