/- The contracts of the document's own reader: fail, End, Number. · The contracts of the document's own reader: Within, count, Fixed. · The contracts of the document's own reader: count, Fixed. · The contracts of the document's own reader: TextOf, ListOf. -/
import Derived.Test.YtjbodokligpcaaaGreatRdP
import Derived.Deep.RegionHeld3
import Derived.Deep.DrawnRows
import Derived.RegionTactic
namespace Go.Proofs.YtjbodokligpcaaaGreat
open Go.RowKit

theorem bcell {W w1 : World} (hb : Below W.heap.size W w1) : (∀ b o, b < W.heap.size → w1.cell? ⟨b, o, none⟩ = W.cell? ⟨b, o, none⟩) ∧ (∀ b o, b < W.heap.size → w1.frozen? ⟨b, o, none⟩ = W.frozen? ⟨b, o, none⟩) :=
  ⟨fun b o h => hb.cell (p := ⟨b, o, none⟩) h, fun b o h => hb.frozen (p := ⟨b, o, none⟩) h⟩

/-- A block of two cells. -/
theorem blk2 {w : World} {p : Nat} {a b : Value} {t : TypeId} (h : w.heap[p]? = some (.cells #[a, b] t (0, 0))) :
    w.cell? ⟨p, 0, none⟩ = some a ∧ w.cell? ⟨p, 1, none⟩ = some b ∧ w.frozen? ⟨p, 0, none⟩ = false ∧ w.frozen? ⟨p, 1, none⟩ = false :=
  ⟨by rw [cell_of_row w p 0 _ _ _ h]; rfl, by rw [cell_of_row w p 1 _ _ _ h]; rfl, frozen_of_row w p 0 _ _ h, frozen_of_row w p 1 _ _ h⟩
/-- Two new blocks, behind whatever has been made since. -/
theorem new2 {w w1 : World} {o1 o2 : Obj} (hb : Below ((w.alloc o1).alloc o2).heap.size ((w.alloc o1).alloc o2) w1) : w1.heap[w.heap.size]? = some o1 ∧ w1.heap[w.heap.size + 1]? = some o2 := by
  constructor
  · rw [hb.block _ (by simp; omega), Below.heap_alloc _ _ _ (by simp), heap_alloc_new]
  · rw [hb.block _ (by simp)]
    have := heap_alloc_new (w.alloc o1) o2
    simpa using this

set_option maxHeartbeats 400000 in
set_option maxRecDepth 100000 in
theorem rfail_any (ao : Option Addr) (n cap : Nat) (c bad : Nat) (w : World) :
    Calls Tryz.prog 56 #[.agg #[.slice ao n cap, .int .i64 (c : Int)], .int .i64 (bad : Int)] w fun e w' => e = .returned (.agg #[.slice ao n cap, .int .i64 ((if c = 0 then bad else c : Nat) : Int)]) ∧ Below w.heap.size w w' := by
  by_cases hc : c = 0
  · subst hc
    rw [if_pos rfl]
    go_enter Tryz.func56, Tryz.ntmps56
    go_wp2
    exact bodyPost_ret (v := .agg #[.slice ao n cap, .int .i64 (bad : Int)]) (by simp [results, Tryz.results56, go_sem]) rfl ⟨rfl, by (repeat (first | exact Below.refl _ _ | (refine Below.setCell ?_ (by simp) _) | (refine Below.alloc ?_ (by simp) _) | (refine Below.drew ?_)))⟩
  · have t1 : ((c : Int) == 0) = false := by rw [beq_eq_false_iff_ne]; omega
    rw [if_neg hc]
    go_enter Tryz.func56, Tryz.ntmps56
    go_wp2
    exact bodyPost_ret (v := .agg #[.slice ao n cap, .int .i64 (c : Int)]) (by simp [results, Tryz.results56, go_sem]) rfl ⟨rfl, by (repeat (first | exact Below.refl _ _ | (refine Below.setCell ?_ (by simp) _) | (refine Below.alloc ?_ (by simp) _) | (refine Below.drew ?_)))⟩

set_option maxHeartbeats 400000 in
set_option maxRecDepth 100000 in
theorem rend_any (ao : Option Addr) (n cap : Nat) (c : Nat) (w : World) :
    Calls Tryz.prog 27 #[.agg #[.slice ao n cap, .int .i64 (c : Int)]] w fun e w' => e = .returned (.int .i64 ((endC n c : Nat) : Int)) ∧ Below w.heap.size w w' := by
  by_cases hc : c = 0
  · subst hc
    by_cases hn : n = 0
    · subst hn
      rw [show endC 0 0 = 0 from rfl]
      go_enter Tryz.func27, Tryz.ntmps27
      go_wp2
      go_ret
      exact ⟨rfl, by (repeat (first | exact Below.refl _ _ | (refine Below.setCell ?_ (by simp) _) | (refine Below.alloc ?_ (by simp) _) | (refine Below.drew ?_)))⟩
    · rw [show endC n 0 = 2 from by unfold endC; rw [if_neg (by simp), if_neg hn]]
      have hn1 : (0 : Int) < (n : Int) := by omega
      clear hn
      go_enter Tryz.func27, Tryz.ntmps27
      go_wp2
      go_ret
      exact ⟨rfl, by (repeat (first | exact Below.refl _ _ | (refine Below.setCell ?_ (by simp) _) | (refine Below.alloc ?_ (by simp) _) | (refine Below.drew ?_)))⟩
  · have t1 : ((c : Int) == 0) = false := by rw [beq_eq_false_iff_ne]; omega
    rw [show endC n c = c from if_pos hc]
    go_enter Tryz.func27, Tryz.ntmps27
    go_wp2
    go_ret
    exact ⟨rfl, by (repeat (first | exact Below.refl _ _ | (refine Below.setCell ?_ (by simp) _) | (refine Below.alloc ?_ (by simp) _) | (refine Below.drew ?_)))⟩

/-- A slice that reads, its cells in a block below B. -/
def RdU (w : World) (B : Nat) (v : Value) (l : List Nat) : Prop := Reads w .u8 v l ∧ ∃ ao n cap, v = .slice ao n cap ∧ (cap = 0 ∨ ∃ b off, ao = some ⟨b, off, none⟩ ∧ b < B)
theorem RdU.reads {w : World} {B : Nat} {v : Value} {l : List Nat} (h : RdU w B v l) : Reads w .u8 v l := h.1
theorem RdU.form {w : World} {B : Nat} {ao : Option Addr} {n cap : Nat} {l : List Nat} (h : RdU w B (.slice ao n cap) l) : cap = 0 ∨ ∃ b off, ao = some ⟨b, off, none⟩ ∧ b < B := by
  obtain ⟨ao', n', cap', hv, h2⟩ := h.2
  simp only [Value.slice.injEq] at hv
  obtain ⟨rfl, rfl, rfl⟩ := hv
  exact h2
theorem RdU.below {w w' : World} {B : Nat} {v : Value} {l : List Nat} (h : RdU w B v l) (hb : Below B w w') : RdU w' B v l := by
  refine ⟨?_, h.2⟩
  obtain ⟨⟨ao, cap, rfl, h1, h2, h3, h4⟩, h5⟩ := h
  refine ⟨ao, cap, rfl, h1, h2, h3, ?_⟩
  rcases h4 with h4 | ⟨b, off, rfl, hlt, hc⟩
  · exact .inl h4
  · by_cases hl : l = []
    · exact .inl hl
    · obtain ⟨ao', n', cap', hv, h6⟩ := h5
      simp only [Value.slice.injEq] at hv
      obtain ⟨rfl, rfl, rfl⟩ := hv
      rcases h6 with h6 | ⟨b', off', ha, hB⟩
      · have := List.length_pos_iff.2 hl; omega
      · simp only [Option.some.injEq, Addr.mk.injEq, and_true] at ha
        obtain ⟨rfl, rfl⟩ := ha
        exact .inr ⟨b, off, rfl, Nat.lt_of_lt_of_le hlt hb.size, fun i hi => (hb.cell (p := ⟨b, off + i, none⟩) hB).trans (hc i hi)⟩
theorem RdU.blk {w : World} {B b off n cap : Nat} {l : List Nat} (h : RdU w B (.slice (some ⟨b, off, none⟩) n cap) l) (hc : 0 < cap) : b < B := by
  rcases h.form with h | ⟨b', off', ha, hB⟩
  · omega
  · simp only [Option.some.injEq, Addr.mk.injEq, and_true] at ha
    obtain ⟨rfl, rfl⟩ := ha
    exact hB
theorem RdU.nil (w : World) (B : Nat) (ao : Option Addr) : RdU w B (.slice ao 0 0) [] := ⟨⟨ao, 0, rfl, by simp, by simp [maxLen], fun _ => rfl, .inl rfl⟩, _, _, _, rfl, .inl rfl⟩

/-- What is left behind n of them. -/
theorem drop_reads {w : World} {b off cap n : Nat} {l : List Nat} (h : Reads w .u8 (.slice (some ⟨b, off, none⟩) l.length cap) l) (hp : n < cap) (hle : n ≤ l.length) :
    Reads w .u8 (.slice (some ⟨b, off + n, none⟩) (l.length - n) (cap - n)) (l.drop n) := by
  obtain ⟨ao, cap', hv, h1, h2, h3, h4⟩ := h
  simp only [Value.slice.injEq, true_and] at hv
  obtain ⟨rfl, rfl⟩ := hv
  have hl : (l.drop n).length = l.length - n := by simp
  refine ⟨_, cap - n, by rw [hl], by omega, by omega, by simp, ?_⟩
  rcases h4 with rfl | ⟨b', off', ha, hb, hc⟩
  · left; simp
  · simp only [Option.some.injEq, Addr.mk.injEq, and_true] at ha
    obtain ⟨rfl, rfl⟩ := ha
    refine .inr ⟨b, off + n, rfl, hb, fun i hi => ?_⟩
    rw [hl] at hi
    have := hc (n + i) (by omega)
    rw [Nat.add_assoc, this]
    simp [List.getD]

/-- What the document's reader's Number hands back. -/
def RNumPost (B : Nat) (rest : List Nat) (c : Nat) (w : World) (e : Ending) (w' : World) : Prop :=
  ∃ (n : Nat) (ao : Option Addr) (cap : Nat) (rest' : List Nat) (c' : Nat), e = .returned (.tuple #[.int .u64 (n : Int), .agg #[.slice ao rest'.length cap, .int .i64 (c' : Int)]]) ∧
    NumRel rest c n rest' c' ∧ RdU w' B (.slice ao rest'.length cap) rest' ∧ Below w.heap.size w w'

theorem rnum_fin {B : Nat} {rest rest' : List Nat} {c c' n len cap : Nat} {ao : Option Addr} {N C : Int} {w w' : World} (hB : Below w.heap.size w w') (hBs : B ≤ w.heap.size) (hr : RdU w B (.slice ao len cap) rest') (hl : len = rest'.length) (hN : N = (n : Int)) (hC : C = (c' : Int)) (h : NumRel rest c n rest' c') :
    RNumPost B rest c w (.returned (.tuple #[.int .u64 N, .agg #[.slice ao len cap, .int .i64 C]])) w' := by
  subst hl hN hC
  exact ⟨n, ao, cap, rest', c', rfl, h, hr.below (hB.mono hBs), hB⟩

set_option maxHeartbeats 1000000 in
set_option maxRecDepth 100000 in
theorem rnumber_any (B : Nat) (ao : Option Addr) (cap : Nat) (rest : List Nat) (c : Nat) (w : World) (hBs : B ≤ w.heap.size) (hru : RdU w B (.slice ao rest.length cap) rest) (hb : ∀ y ∈ rest, y < 256) :
    Calls Tryz.prog 25 #[.agg #[.slice ao rest.length cap, .int .i64 (c : Int)]] w (RNumPost B rest c w) := by
  have hr := hru.reads
  have HRU := Lib.hid hru
  clear hru
  by_cases hc : c = 0
  · subst hc
    go_enter Tryz.func25, Tryz.ntmps25
    go_wp2_with fail
    refine (refTake_any _ rest _ (hr.below (((Below.refl _ _).alloc (Nat.le_refl _) _).alloc (by simp) _) (Nat.le_refl _)) hb).mono ?_
    rintro e w1 ⟨n, k, ok, rfl, ht, hb1⟩
    have hbw : Below w.heap.size w w1 := (((Below.refl _ _).alloc (Nat.le_refl _) _).alloc (by simp) _).trans (hb1.mono (by simp; omega))
    obtain ⟨B1, B2⟩ := new2 hb1
    obtain ⟨g1, g2, f1, f2⟩ := blk2 B1
    obtain ⟨g3, g4, f3, f4⟩ := blk2 B2
    have hz : w.heap.size + 1 < w1.heap.size := by have := hb1.size; simp at this; omega
    have hz0 : w.heap.size < w1.heap.size := by omega
    clear hb1 B1 B2
    cases ok
    · have hrel : NumRel rest 0 0 rest 2 := by
        rcases ht with ⟨h, _⟩ | ⟨_, _, _, h4⟩
        · simp at h
        · exact .inr (.inr ⟨rfl, rfl, rfl, rfl, h4⟩)
      have HREL := Lib.hid hrel
      clear hrel ht hr
      go_wp2_with fail
      refine (rfail_any ao rest.length cap 0 2 _).mono ?_
      rintro e w2 ⟨rfl, hb2⟩
      have hbw2 := hbw.trans (hb2.mono hbw.size)
      obtain ⟨hcl2, hfz2⟩ := bcell hb2
      have hz2 : w.heap.size + 1 < w2.heap.size := by have := hb2.size; omega
      have hz02 : w.heap.size < w2.heap.size := by omega
      clear hb2 hbw
      go_wp2
      exact bodyPost_ret (v := .tuple #[.int .u64 0, .agg #[.slice ao rest.length cap, .int .i64 2]]) (by simp [results, Tryz.results25, go_sem, hcl2, g3, g4, hz]) rfl (rnum_fin (B := B) (by (repeat (first | exact Below.refl _ _ | assumption | (refine Below.setCell ?_ (by simp) _) | (refine Below.alloc ?_ (by first | (simp; done) | (simp; omega)) _) | (refine Below.drew ?_)))) hBs HRU.out rfl rfl rfl HREL.out)
    · rcases ht with ⟨_, hu, hp, rfl⟩ | ⟨h, _⟩
      · have hpl := hp.length_le
        have hp1 := enc_pos n
        have hrel : NumRel rest 0 n (rest.drop (enc n).length) 0 := .inr (.inl ⟨rfl, hu, by conv => lhs; rw [← List.take_append_drop (enc n).length rest, ← List.prefix_iff_eq_take.1 hp], rfl⟩)
        have HREL := Lib.hid hrel
        obtain ⟨b, off, rfl, _, _⟩ := hr.at (i := 0) (by omega)
        obtain ⟨ao', cap', hvv, hcap, _, _⟩ := hr.val
        simp only [Value.slice.injEq, true_and] at hvv
        obtain ⟨rfl, rfl⟩ := hvv
        clear hrel hp
        generalize (enc n).length = k at *
        by_cases hkc : k < cap
        · have hdr : RdU w B (.slice (some ⟨b, off + k, none⟩) (rest.length - k) (cap - k)) (rest.drop k) := ⟨drop_reads hr hkc hpl, _, _, _, rfl, .inr ⟨_, _, rfl, HRU.out.blk (by omega)⟩⟩
          have HDR := Lib.hid hdr
          clear hdr hr
          go_wp2
          go_region
          all_goals go_wp2
          all_goals exact bodyPost_ret (v := .tuple #[.int .u64 (n : Int), .agg #[.slice (some ⟨b, off + k, none⟩) (rest.length - k) (cap - k), .int .i64 0]]) (by simp [results, Tryz.results25, go_sem, g3, g4]) rfl (rnum_fin (B := B) (by (repeat (first | exact Below.refl _ _ | assumption | (refine Below.setCell ?_ (by simp) _) | (refine Below.alloc ?_ (by first | (simp; done) | (simp; omega)) _) | (refine Below.drew ?_)))) hBs HDR.out (by simp) rfl rfl HREL.out)
        · obtain rfl : cap = k := by omega
          have hrl : rest.length = cap := by omega
          have hdr : RdU w B (.slice (some ⟨b, off, none⟩) 0 0) (rest.drop cap) := by
            rw [List.drop_of_length_le (by omega)]
            exact RdU.nil _ _ _
          have hl0 : 0 = (rest.drop cap).length := by simp; omega
          have HDR := Lib.hid hdr
          have HL0 := Lib.hid hl0
          clear hr hdr hl0
          go_wp2
          go_region
          all_goals go_wp2
          all_goals exact bodyPost_ret (v := .tuple #[.int .u64 (n : Int), .agg #[.slice (some ⟨b, off, none⟩) 0 0, .int .i64 0]]) (by simp [results, Tryz.results25, go_sem, g3, g4]) rfl (rnum_fin (B := B) (by (repeat (first | exact Below.refl _ _ | assumption | (refine Below.setCell ?_ (by simp) _) | (refine Below.alloc ?_ (by first | (simp; done) | (simp; omega)) _) | (refine Below.drew ?_)))) hBs HDR.out HL0.out rfl rfl HREL.out)
      · simp at h
  · have t1 : ((c : Int) != 0) = true := by rw [bne_iff_ne]; omega
    go_enter Tryz.func25, Tryz.ntmps25
    go_wp2
    go_region
    all_goals go_wp2
    all_goals exact bodyPost_ret (v := .tuple #[.int .u64 0, .agg #[.slice ao rest.length cap, .int .i64 (c : Int)]]) (by simp [results, Tryz.results25, go_sem]) rfl (rnum_fin (B := B) (by (repeat (first | exact Below.refl _ _ | assumption | (refine Below.setCell ?_ (by simp) _) | (refine Below.alloc ?_ (by first | (simp; done) | (simp; omega)) _) | (refine Below.drew ?_)))) hBs HRU.out rfl rfl rfl (.inl ⟨hc, rfl, rfl, rfl⟩))

end Go.Proofs.YtjbodokligpcaaaGreat

namespace Go.Proofs.YtjbodokligpcaaaGreat
open Go.RowKit

/-- What Within of the document's reader hands back. -/
def RWithinPost (B : Nat) (rest : List Nat) (c most : Nat) (w : World) (e : Ending) (w' : World) : Prop :=
  ∃ (n : Nat) (ao : Option Addr) (cap : Nat) (rest' : List Nat) (c1 : Nat), e = .returned (.tuple #[.int .i64 ((withinR n most : Nat) : Int), .agg #[.slice ao rest'.length cap, .int .i64 ((withinC n c1 most : Nat) : Int)]]) ∧
    NumRel rest c n rest' c1 ∧ RdU w' B (.slice ao rest'.length cap) rest' ∧ Below w.heap.size w w'

theorem rwithin_fin {B : Nat} {rest rest' : List Nat} {c c1 n most cap : Nat} {ao : Option Addr} {N C : Int} {w w1 w' : World} (hB : Below w.heap.size w w') (hb1 : Below B w1 w') (hr : RdU w1 B (.slice ao rest'.length cap) rest') (hN : N = ((withinR n most : Nat) : Int)) (hC : C = ((withinC n c1 most : Nat) : Int)) (h : NumRel rest c n rest' c1) :
    RWithinPost B rest c most w (.returned (.tuple #[.int .i64 N, .agg #[.slice ao rest'.length cap, .int .i64 C]])) w' := by
  subst hN hC
  exact ⟨n, ao, cap, rest', c1, rfl, h, hr.below hb1, hB⟩

/-- The second of two new blocks, behind a struct's store into the first and a call. -/
theorem keep2 {w1 w2 : World} {p : Nat} {x y : Value} {o : Obj} (h : w1.heap[p + 1]? = some o) (hb : Below ((w1.setCell ⟨p, 0, none⟩ x).setCell ⟨p, 1, none⟩ y).heap.size ((w1.setCell ⟨p, 0, none⟩ x).setCell ⟨p, 1, none⟩ y) w2) : w2.heap[p + 1]? = some o := by
  have hlt := (Array.getElem?_eq_some_iff.1 h).1
  rw [hb.block (p + 1) (by simpa using hlt), heap_setCell_other _ _ _ _ (by simp), heap_setCell_other _ _ _ _ (by simp)]
  exact h

set_option maxHeartbeats 1000000 in
set_option maxRecDepth 100000 in
theorem rwithin_any (B : Nat) (ao : Option Addr) (cap : Nat) (rest : List Nat) (c most : Nat) (w : World) (hBs : B ≤ w.heap.size) (hru : RdU w B (.slice ao rest.length cap) rest) (hb : ∀ y ∈ rest, y < 256) :
    Calls Tryz.prog 24 #[.agg #[.slice ao rest.length cap, .int .i64 (c : Int)], .int .u64 (most : Int)] w (RWithinPost B rest c most w) := by
  go_enter Tryz.func24, Tryz.ntmps24
  go_wp2_with fail
  refine (rnumber_any B ao cap rest c _ (by simp; omega) (hru.below (((Below.refl _ _).alloc (by omega) _).alloc (by simp; omega) _)) hb).mono ?_
  rintro e w1 ⟨n, ao1, cap1, rest1, c1, rfl, hn, hr1, hb1⟩
  have hbw : Below w.heap.size w w1 := (((Below.refl _ _).alloc (Nat.le_refl _) _).alloc (by simp) _).trans (hb1.mono (by simp; omega))
  obtain ⟨B1, B2⟩ := new2 hb1
  obtain ⟨g1, g2, f1, f2⟩ := blk2 B1
  obtain ⟨g3, g4, f3, f4⟩ := blk2 B2
  have hz : w.heap.size + 1 < w1.heap.size := by have := hb1.size; simp at this; omega
  have hz0 : w.heap.size < w1.heap.size := by omega
  have HN := Lib.hid hn
  have HR1 := Lib.hid hr1
  have HB2 := Lib.hid B2
  clear hb1 B1 B2 hn hr1 hru hb
  obtain ⟨N, hN⟩ : ∃ N : Int, N = (n : Int) := ⟨_, rfl⟩
  obtain ⟨M, hM⟩ : ∃ M : Int, M = (most : Int) := ⟨_, rfl⟩
  have hN0 : 0 ≤ N := by omega
  rw [← hN, ← hM]
  have HNN := Lib.hid hN
  by_cases hbad : M < N ∨ 4611686018427387904 < N
  · have HB : Hid (most < n ∨ 4611686018427387904 < n) := by show _ ∨ _; omega
    clear hN hM
    by_cases hm : M < N
    · clear hbad
      go_wp2_with fail
      refine (rfail_any ao1 rest1.length cap1 c1 1 _).mono ?_
      rintro e w2 ⟨rfl, hb2⟩
      have hbw2 : Below w.heap.size w w2 := ((hbw.setCell (by simp) _).setCell (by simp) _).trans (hb2.mono (by simp; omega))
      have hb12 : Below B w1 w2 := (((Below.refl _ _).setCell (by simp; omega) _).setCell (by simp; omega) _).trans (hb2.mono (by simp; omega))
      obtain ⟨k3, k4, e3, e4⟩ := blk2 (keep2 HB2.out hb2)
      clear hb2 hbw g1 g2 g3 g4 f1 f2 f3 f4
      generalize hcx : (if c1 = 0 then 1 else c1) = cx at *
      have HCX := Lib.hid hcx
      clear hcx
      go_wp2
      exact bodyPost_ret (v := .tuple #[.int .i64 0, .agg #[.slice ao1 rest1.length cap1, .int .i64 (cx : Int)]]) (by simp [results, Tryz.results24, go_sem, k3, k4]) rfl (rwithin_fin (w1 := w1) (by (repeat (first | exact Below.refl _ _ | assumption | (refine Below.setCell ?_ (by first | (simp; done) | (simp; omega)) _) | (refine Below.alloc ?_ (by first | (simp; done) | (simp; omega)) _) | (refine Below.drew ?_)))) (by (repeat (first | exact Below.refl _ _ | assumption | (refine Below.setCell ?_ (by first | (simp; done) | (simp; omega)) _) | (refine Below.alloc ?_ (by first | (simp; done) | (simp; omega)) _) | (refine Below.drew ?_)))) HR1.out (by rw [(within_bad (c := c1) HB.out).1]; rfl) (by rw [(within_bad HB.out).2, HCX.out]) HN.out)
    · have h2 : 4611686018427387904 < N := by omega
      have h1 : N ≤ M := by omega
      clear hbad hm
      go_wp2_with fail
      refine (rfail_any ao1 rest1.length cap1 c1 1 _).mono ?_
      rintro e w2 ⟨rfl, hb2⟩
      have hbw2 : Below w.heap.size w w2 := ((hbw.setCell (by simp) _).setCell (by simp) _).trans (hb2.mono (by simp; omega))
      have hb12 : Below B w1 w2 := (((Below.refl _ _).setCell (by simp; omega) _).setCell (by simp; omega) _).trans (hb2.mono (by simp; omega))
      obtain ⟨k3, k4, e3, e4⟩ := blk2 (keep2 HB2.out hb2)
      clear hb2 hbw g1 g2 g3 g4 f1 f2 f3 f4
      generalize hcx : (if c1 = 0 then 1 else c1) = cx at *
      have HCX := Lib.hid hcx
      clear hcx
      go_wp2
      exact bodyPost_ret (v := .tuple #[.int .i64 0, .agg #[.slice ao1 rest1.length cap1, .int .i64 (cx : Int)]]) (by simp [results, Tryz.results24, go_sem, k3, k4]) rfl (rwithin_fin (w1 := w1) (by (repeat (first | exact Below.refl _ _ | assumption | (refine Below.setCell ?_ (by first | (simp; done) | (simp; omega)) _) | (refine Below.alloc ?_ (by first | (simp; done) | (simp; omega)) _) | (refine Below.drew ?_)))) (by (repeat (first | exact Below.refl _ _ | assumption | (refine Below.setCell ?_ (by first | (simp; done) | (simp; omega)) _) | (refine Below.alloc ?_ (by first | (simp; done) | (simp; omega)) _) | (refine Below.drew ?_)))) HR1.out (by rw [(within_bad (c := c1) HB.out).1]; rfl) (by rw [(within_bad HB.out).2, HCX.out]) HN.out)
  · have HB : Hid (¬ (most < n ∨ 4611686018427387904 < n)) := by show ¬ _; omega
    have h1 : N ≤ M := by omega
    have h2 : N ≤ 4611686018427387904 := by omega
    clear hbad hN hM
    go_wp2
    go_region
    all_goals go_wp2
    all_goals exact bodyPost_ret (v := .tuple #[.int .i64 N, .agg #[.slice ao1 rest1.length cap1, .int .i64 (c1 : Int)]]) (by simp [results, Tryz.results24, go_sem, g3, g4]) rfl (rwithin_fin (w1 := w1) (by (repeat (first | exact Below.refl _ _ | assumption | (refine Below.setCell ?_ (by first | (simp; done) | (simp; omega)) _) | (refine Below.alloc ?_ (by first | (simp; done) | (simp; omega)) _) | (refine Below.drew ?_)))) (by (repeat (first | exact Below.refl _ _ | assumption | (refine Below.setCell ?_ (by first | (simp; done) | (simp; omega)) _) | (refine Below.alloc ?_ (by first | (simp; done) | (simp; omega)) _) | (refine Below.drew ?_)))) HR1.out (by rw [HNN.out, (within_good (c := c1) HB.out).1]) (by rw [(within_good HB.out).2]) HN.out)

end Go.Proofs.YtjbodokligpcaaaGreat

namespace Go.Proofs.YtjbodokligpcaaaGreat
open Go.RowKit

def RManyPost (B : Nat) (rest : List Nat) (c : Nat) (most : Int) (w : World) (e : Ending) (w' : World) : Prop :=
  ∃ (n : Nat) (ao : Option Addr) (cap : Nat) (rest' : List Nat) (c1 : Nat), e = .returned (.tuple #[.int .i64 ((manyR n most : Nat) : Int), .agg #[.slice ao rest'.length cap, .int .i64 ((manyC n c1 most : Nat) : Int)]]) ∧
    NumRel rest c n rest' c1 ∧ RdU w' B (.slice ao rest'.length cap) rest' ∧ Below w.heap.size w w'

theorem rmany_fin {B : Nat} {rest rest' : List Nat} {c c1 n cap : Nat} {most : Int} {ao : Option Addr} {N C : Int} {w w1 w' : World} (hB : Below w.heap.size w w') (hb1 : Below B w1 w') (hr : RdU w1 B (.slice ao rest'.length cap) rest') (hN : N = ((manyR n most : Nat) : Int)) (hC : C = ((manyC n c1 most : Nat) : Int)) (h : NumRel rest c n rest' c1) :
    RManyPost B rest c most w (.returned (.tuple #[.int .i64 N, .agg #[.slice ao rest'.length cap, .int .i64 C]])) w' := by
  subst hN hC
  exact ⟨n, ao, cap, rest', c1, rfl, h, hr.below hb1, hB⟩

theorem NumRel.n_zero {rest : List Nat} {c n : Nat} {r : List Nat} {d : Nat} (h : NumRel rest c n r d) (hd : d ≠ 0) : n = 0 := by
  rcases h with ⟨_, h2, _, _⟩ | ⟨_, _, _, h4⟩ | ⟨_, h2, _, _, _⟩
  · exact h2
  · exact absurd h4 hd
  · exact h2

set_option maxHeartbeats 1000000 in
set_option maxRecDepth 100000 in
theorem rcount_any (B : Nat) (ao : Option Addr) (cap : Nat) (rest : List Nat) (c : Nat) (most : Int) (hm1 : -9223372036854775808 ≤ most) (hm2 : most ≤ 9223372036854775807) (w : World) (hBs : B ≤ w.heap.size) (hru : RdU w B (.slice ao rest.length cap) rest) (hb : ∀ y ∈ rest, y < 256) :
    Calls Tryz.prog 57 #[.agg #[.slice ao rest.length cap, .int .i64 (c : Int)], .int .i64 most] w (RManyPost B rest c most w) := by
  go_enter Tryz.func57, Tryz.ntmps57
  go_wp2_with fail
  refine (rnumber_any B ao cap rest c _ (by simp; omega) (hru.below (((Below.refl _ _).alloc (by omega) _).alloc (by simp; omega) _)) hb).mono ?_
  rintro e w1 ⟨n, ao1, cap1, rest1, c1, rfl, hn, hr1, hb1⟩
  have hbw : Below w.heap.size w w1 := (((Below.refl _ _).alloc (Nat.le_refl _) _).alloc (by simp) _).trans (hb1.mono (by simp; omega))
  obtain ⟨B1, B2⟩ := new2 hb1
  obtain ⟨g1, g2, f1, f2⟩ := blk2 B1
  obtain ⟨g3, g4, f3, f4⟩ := blk2 B2
  have hz : w.heap.size + 1 < w1.heap.size := by have := hb1.size; simp at this; omega
  have hz0 : w.heap.size < w1.heap.size := by omega
  have hnz := fun h => hn.n_zero h
  have HN := Lib.hid hn
  have HR1 := Lib.hid hr1
  have HB2 := Lib.hid B2
  clear hb1 B1 B2 hn hr1 hru hb
  by_cases hc1 : c1 = 0
  · subst hc1
    clear hnz
    by_cases hbad : most < 0 ∨ most < (n : Int)
    · have HB := Lib.hid hbad
      have h3c : (3 : Nat) = manyC n 0 most := by rw [(many_bad HB.out).2, if_pos rfl]
      have H3 := Lib.hid h3c
      clear h3c
      by_cases hm : most < 0
      · clear hbad
        go_wp2_with fail
        refine (rfail_any ao1 rest1.length cap1 0 3 _).mono ?_
        rintro e w2 ⟨rfl, hb2⟩
        have hbw2 : Below w.heap.size w w2 := ((hbw.setCell (by simp) _).setCell (by simp) _).trans (hb2.mono (by simp; omega))
        have hb12 : Below B w1 w2 := (((Below.refl _ _).setCell (by simp; omega) _).setCell (by simp; omega) _).trans (hb2.mono (by simp; omega))
        obtain ⟨k3, k4, e3, e4⟩ := blk2 (keep2 HB2.out hb2)
        rw [if_pos rfl]
        clear hb2 hbw g1 g2 g3 g4 f1 f2 f3 f4
        go_wp2
        exact bodyPost_ret (v := .tuple #[.int .i64 0, .agg #[.slice ao1 rest1.length cap1, .int .i64 3]]) (by simp [results, Tryz.results57, go_sem, k3, k4]) rfl (rmany_fin (w1 := w1) (by (repeat (first | exact Below.refl _ _ | assumption | (refine Below.setCell ?_ (by first | (simp; done) | (simp; omega)) _) | (refine Below.alloc ?_ (by first | (simp; done) | (simp; omega)) _) | (refine Below.drew ?_)))) (by (repeat (first | exact Below.refl _ _ | assumption | (refine Below.setCell ?_ (by first | (simp; done) | (simp; omega)) _) | (refine Below.alloc ?_ (by first | (simp; done) | (simp; omega)) _) | (refine Below.drew ?_)))) HR1.out (by rw [(many_bad (c := 0) HB.out).1]; rfl) (by rw [← H3.out]; rfl) HN.out)
      · have h2 : most < (n : Int) := by omega
        have h1 : 0 ≤ most := by omega
        clear hbad hm
        go_wp2_with fail
        refine (rfail_any ao1 rest1.length cap1 0 3 _).mono ?_
        rintro e w2 ⟨rfl, hb2⟩
        have hbw2 : Below w.heap.size w w2 := ((hbw.setCell (by simp) _).setCell (by simp) _).trans (hb2.mono (by simp; omega))
        have hb12 : Below B w1 w2 := (((Below.refl _ _).setCell (by simp; omega) _).setCell (by simp; omega) _).trans (hb2.mono (by simp; omega))
        obtain ⟨k3, k4, e3, e4⟩ := blk2 (keep2 HB2.out hb2)
        rw [if_pos rfl]
        clear hb2 hbw g1 g2 g3 g4 f1 f2 f3 f4
        go_wp2
        exact bodyPost_ret (v := .tuple #[.int .i64 0, .agg #[.slice ao1 rest1.length cap1, .int .i64 3]]) (by simp [results, Tryz.results57, go_sem, k3, k4]) rfl (rmany_fin (w1 := w1) (by (repeat (first | exact Below.refl _ _ | assumption | (refine Below.setCell ?_ (by first | (simp; done) | (simp; omega)) _) | (refine Below.alloc ?_ (by first | (simp; done) | (simp; omega)) _) | (refine Below.drew ?_)))) (by (repeat (first | exact Below.refl _ _ | assumption | (refine Below.setCell ?_ (by first | (simp; done) | (simp; omega)) _) | (refine Below.alloc ?_ (by first | (simp; done) | (simp; omega)) _) | (refine Below.drew ?_)))) HR1.out (by rw [(many_bad (c := 0) HB.out).1]; rfl) (by rw [← H3.out]; rfl) HN.out)
    · have HB := Lib.hid hbad
      have h1 : 0 ≤ most := by omega
      have h2 : (n : Int) ≤ most := by omega
      clear hbad
      go_wp2
      go_region
      all_goals go_wp2
      all_goals exact bodyPost_ret (v := .tuple #[.int .i64 (n : Int), .agg #[.slice ao1 rest1.length cap1, .int .i64 0]]) (by simp [results, Tryz.results57, go_sem, g3, g4]) rfl (rmany_fin (w1 := w1) (by (repeat (first | exact Below.refl _ _ | assumption | (refine Below.setCell ?_ (by first | (simp; done) | (simp; omega)) _) | (refine Below.alloc ?_ (by first | (simp; done) | (simp; omega)) _) | (refine Below.drew ?_)))) (by (repeat (first | exact Below.refl _ _ | assumption | (refine Below.setCell ?_ (by first | (simp; done) | (simp; omega)) _) | (refine Below.alloc ?_ (by first | (simp; done) | (simp; omega)) _) | (refine Below.drew ?_)))) HR1.out (by rw [(many_good (c := 0) HB.out).1]) (by rw [(many_good HB.out).2]; rfl) HN.out)
  · have t1 : ((c1 : Int) != 0) = true := by rw [bne_iff_ne]; omega
    have hn0 := hnz hc1
    have hfin : (0 : Int) = ((manyR n most : Nat) : Int) ∧ (c1 : Int) = ((manyC n c1 most : Nat) : Int) := by
      subst hn0
      unfold manyR manyC
      refine ⟨by split <;> rfl, ?_⟩
      split
      · first | rfl | rw [if_neg hc1]
      · rfl
    have HFIN := Lib.hid hfin
    clear hnz hn0 hfin
    go_wp2
    go_region
    all_goals go_wp2
    all_goals exact bodyPost_ret (v := .tuple #[.int .i64 0, .agg #[.slice ao1 rest1.length cap1, .int .i64 (c1 : Int)]]) (by simp [results, Tryz.results57, go_sem, g3, g4]) rfl (rmany_fin (w1 := w1) (by (repeat (first | exact Below.refl _ _ | assumption | (refine Below.setCell ?_ (by first | (simp; done) | (simp; omega)) _) | (refine Below.alloc ?_ (by first | (simp; done) | (simp; omega)) _) | (refine Below.drew ?_)))) (by (repeat (first | exact Below.refl _ _ | assumption | (refine Below.setCell ?_ (by first | (simp; done) | (simp; omega)) _) | (refine Below.alloc ?_ (by first | (simp; done) | (simp; omega)) _) | (refine Below.drew ?_)))) HR1.out HFIN.out.1 HFIN.out.2 HN.out)

/-- What Fixed of the document's reader hands back. -/
def RFixPost (B : Nat) (rest : List Nat) (c : Nat) (many : Int) (w : World) (e : Ending) (w' : World) : Prop :=
  ∃ (ov : Value) (out : List Nat) (ao : Option Addr) (cap : Nat) (rest' : List Nat) (c' : Nat), e = .returned (.tuple #[ov, .agg #[.slice ao rest'.length cap, .int .i64 (c' : Int)]]) ∧
    FixRel rest c many out rest' c' ∧ RdU w' B ov out ∧ RdU w' B (.slice ao rest'.length cap) rest' ∧ Below w.heap.size w w'

theorem rfix_fin {B : Nat} {rest rest' out : List Nat} {c c' cap len : Nat} {many : Int} {ao : Option Addr} {ov : Value} {C : Int} {w w' : World} (hB : Below w.heap.size w w') (hBs : B ≤ w.heap.size) (ho : RdU w B ov out) (hr : RdU w B (.slice ao len cap) rest') (hl : len = rest'.length) (hC : C = (c' : Int)) (h : FixRel rest c many out rest' c') :
    RFixPost B rest c many w (.returned (.tuple #[ov, .agg #[.slice ao len cap, .int .i64 C]])) w' := by
  subst hC hl
  exact ⟨ov, out, ao, cap, rest', c', rfl, h, ho.below (hB.mono hBs), hr.below (hB.mono hBs), hB⟩

theorem take_reads {w : World} {b off cap n : Nat} {l : List Nat} (h : Reads w .u8 (.slice (some ⟨b, off, none⟩) l.length cap) l) (hle : n ≤ l.length) :
    Reads w .u8 (.slice (some ⟨b, off, none⟩) n cap) (l.take n) := by
  obtain ⟨ao, cap', hv, h1, h2, h3, h4⟩ := h
  simp only [Value.slice.injEq, true_and] at hv
  obtain ⟨rfl, rfl⟩ := hv
  have hl : (l.take n).length = n := by rw [List.length_take]; omega
  refine ⟨_, cap, by rw [hl], by omega, by omega, by simp, ?_⟩
  rcases h4 with rfl | ⟨b', off', ha, hb, hc⟩
  · left; simp
  · simp only [Option.some.injEq, Addr.mk.injEq, and_true] at ha
    obtain ⟨rfl, rfl⟩ := ha
    refine .inr ⟨b, off, rfl, hb, fun i hi => ?_⟩
    rw [hl] at hi
    rw [hc i (by omega)]
    simp [List.getD, hi]

end Go.Proofs.YtjbodokligpcaaaGreat

namespace Go.Proofs.YtjbodokligpcaaaGreat
open Go.RowKit

def RTextPost (B : Nat) (rest : List Nat) (c : Nat) (most : Int) (w : World) (e : Ending) (w' : World) : Prop :=
  ∃ (ov : Value) (out : List Nat) (ao : Option Addr) (cap : Nat) (rest' : List Nat) (c' n : Nat) (rest1 : List Nat) (c1 : Nat), e = .returned (.tuple #[ov, .agg #[.slice ao rest'.length cap, .int .i64 (c' : Int)]]) ∧
    NumRel rest c n rest1 c1 ∧ FixRel rest1 (manyC n c1 most) (manyR n most : Nat) out rest' c' ∧ RdU w' B ov out ∧ RdU w' B (.slice ao rest'.length cap) rest' ∧ Below w.heap.size w w'

def RListPost (B : Nat) (rest : List Nat) (c : Nat) (most : Int) (w : World) (e : Ending) (w' : World) : Prop :=
  ∃ (ov : Value) (out : List Nat) (ao : Option Addr) (cap : Nat) (rest' : List Nat) (c' n : Nat) (rest1 : List Nat) (c1 : Nat), e = .returned (.tuple #[ov, .agg #[.slice ao rest'.length cap, .int .i64 (c' : Int)]]) ∧
    NumRel rest c n rest1 c1 ∧ RunRel rest1 (manyC n c1 most) (manyR n most) out rest' c' ∧ Owns w' w.heap.size 50 .u64 ov out ∧ RdU w' B (.slice ao rest'.length cap) rest' ∧ Below w.heap.size w w'

/-- A block that was made before a call is as it was behind it. -/
theorem blk_below {w w1 : World} {p : Nat} {o : Obj} (h : w.heap[p]? = some o) (hb : Below w.heap.size w w1) : w1.heap[p]? = some o := (hb.block p (Array.getElem?_eq_some_iff.1 h).1).trans h

/-- A block of two cells, both written. -/
theorem set2 {w : World} {p : Nat} {x0 y0 x y : Value} {t : TypeId} (h : w.heap[p]? = some (.cells #[x0, y0] t (0, 0))) : ((w.setCell ⟨p, 0, none⟩ x).setCell ⟨p, 1, none⟩ y).heap[p]? = some (.cells #[x, y] t (0, 0)) := by
  have h1 := heap_setCell_same w p 0 _ _ x h
  have h2 := heap_setCell_same _ p 1 _ _ y h1
  simpa using h2

theorem acc_len {r acc s : List Nat} (h : r = encs acc ++ s) : acc.length ≤ r.length := by
  have h1 : acc.length ≤ (encs acc).length := by
    clear h
    induction acc with
    | nil => simp
    | cons x a ih =>
      have e : encs (x :: a) = enc x ++ encs a := by simp [encs]
      have := enc_pos x
      rw [e, List.length_append, List.length_cons]; omega
  rw [h, List.length_append]; omega

set_option maxHeartbeats 2000000 in
set_option maxRecDepth 100000 in
theorem rlist_any (B : Nat) (ao : Option Addr) (cap : Nat) (rest : List Nat) (c : Nat) (most : Int) (hm1 : -9223372036854775808 ≤ most) (hm2 : most ≤ 9223372036854775807) (w : World) (hBs : B ≤ w.heap.size) (hru : RdU w B (.slice ao rest.length cap) rest) (hb : ∀ y ∈ rest, y < 256) (hlen : rest.length ≤ 10000000000000) :
    Calls Tryz.prog 26 #[.agg #[.slice ao rest.length cap, .int .i64 (c : Int)], .int .i64 most] w (RListPost B rest c most w) := by
  go_enter Tryz.func26, Tryz.ntmps26
  go_wp2_with fail
  refine (rcount_any B ao cap rest c most hm1 hm2 _ (by simp; omega) (hru.below (((Below.refl _ _).alloc (by omega) _).alloc (by simp; omega) _)) hb).mono ?_
  rintro e w1 ⟨n, ao1, cap1, rest1, c1, rfl, hn, hr1, hb1⟩
  have hbw : Below w.heap.size w w1 := (((Below.refl _ _).alloc (Nat.le_refl _) _).alloc (by simp) _).trans (hb1.mono (by simp; omega))
  obtain ⟨B1, B2⟩ := new2 hb1
  obtain ⟨g1, g2, f1, f2⟩ := blk2 B1
  have hz : w.heap.size + 1 < w1.heap.size := by have := hb1.size; simp at this; omega
  have hz0 : w.heap.size < w1.heap.size := by omega
  have hzr := fun h => manyR_zero (most := most) hn h
  have hmm := manyR_most (n := n) (most := most)
  have hl1 := hn.len
  have hb1' : ∀ y ∈ rest1, y < 256 := by
    rcases hn with ⟨_, _, rfl, _⟩ | ⟨_, _, h3, _⟩ | ⟨_, _, rfl, _⟩
    · exact hb
    · intro y hy; exact hb y (by rw [h3]; exact List.mem_append_right _ hy)
    · exact hb
  have HBY := Lib.hid hb1'
  have HN := Lib.hid hn
  have HB1 := Lib.hid B1
  have HB2 := Lib.hid B2
  generalize hmr : manyR n most = m at *
  generalize hmc : manyC n c1 most = c2 at *
  have HMR := Lib.hid hmr
  have HMC := Lib.hid hmc
  have HZ := Lib.hid hzr
  have hm63 : (m : Int) ≤ 9223372036854775807 := by
    rcases Nat.eq_zero_or_pos m with h0 | h0
    · omega
    · have := hmm h0; omega
  clear hmr hmc hzr hmm hb1 B1 B2 hn hru hb hb1'
  have hs0 := set2 (x := .slice ao1 rest1.length cap1) (y := .int .i64 (c2 : Int)) HB1.out
  have hs1 : (((w1.setCell ⟨w.heap.size, 0, none⟩ (.slice ao1 rest1.length cap1)).setCell ⟨w.heap.size, 1, none⟩ (.int .i64 (c2 : Int))).alloc (.cells #[] 50)).heap[w.heap.size]? = some (.cells #[.slice ao1 rest1.length cap1, .int .i64 (c2 : Int)] 59 (0, 0)) :=
    (Below.heap_alloc _ _ _ (by simp; omega)).trans hs0
  have hs2 : (((w1.setCell ⟨w.heap.size, 0, none⟩ (.slice ao1 rest1.length cap1)).setCell ⟨w.heap.size, 1, none⟩ (.int .i64 (c2 : Int))).alloc (.cells #[] 50)).heap[w.heap.size + 1]? = some (.cells #[.slice none 0 0, .int .i64 0] 59 (0, 0)) := by
    rw [Below.heap_alloc _ _ _ (by simp; omega), heap_setCell_other _ _ _ _ (by simp), heap_setCell_other _ _ _ _ (by simp)]
    exact HB2.out
  have ho0 := owns_empty ((w1.setCell ⟨w.heap.size, 0, none⟩ (.slice ao1 rest1.length cap1)).setCell ⟨w.heap.size, 1, none⟩ (.int .i64 (c2 : Int))) (w.heap.size + 2) 50 .u64 (by simp; omega)
  have hr0 : RdU (((w1.setCell ⟨w.heap.size, 0, none⟩ (.slice ao1 rest1.length cap1)).setCell ⟨w.heap.size, 1, none⟩ (.int .i64 (c2 : Int))).alloc (.cells #[] 50)) B (.slice ao1 rest1.length cap1) rest1 := hr1.below (by (repeat (first | exact Below.refl _ _ | assumption | (refine Below.setCell ?_ (by first | (simp; done) | (simp; omega)) _) | (refine Below.alloc ?_ (by first | (simp; done) | (simp; omega)) _) | (refine Below.drew ?_))))
  have hw0 : Below w.heap.size w (((w1.setCell ⟨w.heap.size, 0, none⟩ (.slice ao1 rest1.length cap1)).setCell ⟨w.heap.size, 1, none⟩ (.int .i64 (c2 : Int))).alloc (.cells #[] 50)) := by (repeat (first | exact Below.refl _ _ | assumption | (refine Below.setCell ?_ (by first | (simp; done) | (simp; omega)) _) | (refine Below.alloc ?_ (by first | (simp; done) | (simp; omega)) _) | (refine Below.drew ?_)))
  have HS1 := Lib.hid hs1
  have HS2 := Lib.hid hs2
  have HO0 := Lib.hid ho0
  have HR0 := Lib.hid hr0
  have HW0 := Lib.hid hw0
  clear hs0 hs1 hs2 ho0 hr0 hw0 hr1
  go_wp2
  clear g1 g2 f1 f2 hbw
  go_loopw [7, 8, 9, 10] (fun v i _ _ wr => ∃ (k : Nat) (acc : List Nat) (ak : Option Addr) (ck : Nat) (rk : List Nat), k ≤ m ∧ i = .int .i64 (k : Int) ∧ acc.length = k ∧ (∀ x ∈ acc, U64 x) ∧ rest1 = encs acc ++ rk ∧
      Owns wr (w.heap.size + 2) 50 .u64 v acc ∧ wr.heap[w.heap.size]? = some (.cells #[.slice ak rk.length ck, .int .i64 (c2 : Int)] 59 (0, 0)) ∧
      wr.heap[w.heap.size + 1]? = some (.cells #[.slice none 0 0, .int .i64 0] 59 (0, 0)) ∧ RdU wr B (.slice ak rk.length ck) rk ∧ Below w.heap.size w wr)
    (fun _ i _ _ _ => m - (intOf i).toNat)
  case atStart => exact ⟨0, [], ao1, cap1, rest1, Nat.zero_le _, rfl, rfl, by simp, rfl, by simpa using HO0.out, HS1.out, HS2.out, HR0.out, HW0.out⟩
  case round =>
    clear HB1 HB2 HS1 HS2 HO0 HR0 HW0 hz hz0
    obtain ⟨k, acc, ak, ck, rk, hk, rfl, hacc, hu, hrest, ho, hB1, hB2, hrk, hbk⟩ := hrel
    obtain ⟨g1, g2, f1, f2⟩ := blk2 hB1
    obtain ⟨g3, g4, f3, f4⟩ := blk2 hB2
    have hal := acc_len hrest
    have hzk : w.heap.size + 1 < wr.heap.size := (Array.getElem?_eq_some_iff.1 hB2).1
    have HACC := Lib.hid hacc
    have HU := Lib.hid hu
    have HREST := Lib.hid hrest
    have HB1 := Lib.hid hB1
    have HB2 := Lib.hid hB2
    have HO := Lib.hid ho
    have HRK := Lib.hid hrk
    have HBK := Lib.hid hbk
    have hby : ∀ y ∈ rk, y < 256 := fun y hy => HBY.out y (by rw [HREST.out]; exact List.mem_append_right _ hy)
    clear hacc hu hrest hB1 hB2 ho hrk hbk
    by_cases hlt : k < m
    · have hc2 : c2 = 0 := by
        rcases Nat.eq_zero_or_pos c2 with h0 | h0
        · exact h0
        · have := HZ.out (by omega); omega
      subst hc2
      go_wp2_with fail
      refine (rnumber_any B ak ck rk 0 _ (by omega) HRK.out hby).mono ?_
      rintro e w2 ⟨x, a2, p2, r2, c3, rfl, hx, hr2, hb2⟩
      have hB1' := blk_below HB1.out hb2
      have hB2' := blk_below HB2.out hb2
      obtain ⟨k1, k2, e1, e2⟩ := blk2 hB1'
      have hz2 : w.heap.size + 1 < w2.heap.size := Nat.lt_of_lt_of_le hzk hb2.size
      have hz20 : w.heap.size < w2.heap.size := by omega
      clear g1 g2 g3 g4 f1 f2 f3 f4 hby
      by_cases hc3 : c3 = 0
      · subst hc3
        go_wp2_with (at_builtin; go_must (refine wpList_app _ rfl _ _ 53 rfl (w.heap.size + 2) 50 (.int .u64 0) 8 Tryz.underlying53 Tryz.info25 rfl .u64 _ acc rfl ?own _ [x] rfl ?r (by decide) ?c1 ?c3 ?_))
        case own => exact ((ownsRow_setCell_below (ownsRow_setCell_below (HO.out.below hb2 (Nat.le_refl _)) (by simp) _) (by simp) _).alloc _).alloc _
        case r =>
          have h := reads_new (((w2.setCell ⟨w.heap.size, 0, none⟩ (.slice a2 r2.length p2)).setCell ⟨w.heap.size, 1, none⟩ (.int .i64 0)).alloc (.cells #[.slice a2 r2.length p2, .int .i64 0] 59)) .u64 50 x
          simp only [World.size_alloc, World.size_setCell] at h
          exact h
        case c1 => (try simp); omega
        case c3 => simp; omega
        intro v4 w4 ho4 hg4
        have hbase : ∀ j, u7.ownBlock = some j → w.heap.size + 2 ≤ j := fun j hj => (HO.out.lt j hj).1
        have hb24 : Below B w2 w4 := (((((Below.refl _ _).setCell (by simp; omega) _).setCell (by simp; omega) _).alloc (by simp; omega) _).alloc (by simp; omega) _).grown hg4 (by simp; omega) (fun j hj => by have := hbase j hj; omega)
        have hbw4 : Below w.heap.size w w4 := (((((HBK.out.trans (hb2.mono (by omega))).setCell (by simp) _).setCell (by simp) _).alloc (by simp; omega) _).alloc (by simp; omega) _).grown hg4 (by simp; omega) (fun j hj => by have := hbase j hj; omega)
        have hN1 : w4.heap[w.heap.size]? = some (.cells #[.slice a2 r2.length p2, .int .i64 0] 59 (0, 0)) := by
          rw [hg4.block _ (by simp; omega) (fun e => by have := hbase _ e.symm; omega), Below.heap_alloc _ _ _ (by simp; omega), Below.heap_alloc _ _ _ (by simp; omega)]
          exact set2 hB1'
        have hN2 : w4.heap[w.heap.size + 1]? = some (.cells #[.slice none 0 0, .int .i64 0] 59 (0, 0)) := by
          rw [hg4.block _ (by simp; omega) (fun e => by have := hbase _ e.symm; omega), Below.heap_alloc _ _ _ (by simp; omega), Below.heap_alloc _ _ _ (by simp; omega), heap_setCell_other _ _ _ _ (by simp), heap_setCell_other _ _ _ _ (by simp)]
          exact hB2'
        have hxu := hx.u64
        have hstep : rk = enc x ++ r2 := by
          rcases hx with ⟨h1, _⟩ | ⟨_, _, h3, _⟩ | ⟨_, _, _, h4, _⟩
          · exact absurd rfl h1
          · exact h3
          · simp at h4
        have HSTEP := Lib.hid hstep
        have HN1 := Lib.hid hN1
        have HN2 := Lib.hid hN2
        have HR2 := Lib.hid (hr2.below hb24)
        have HO4 := Lib.hid ho4
        have HBW := Lib.hid hbw4
        clear hstep hN1 hN2 hb24 hbw4 ho4 hg4 hbase hx hr2 hb2 hB1' hB2' k1 k2 e1 e2
        go_wp2
        go_roundw
        case rel =>
          have hu' : ∀ y ∈ acc ++ [x], U64 y := by
            intro y hy
            rcases List.mem_append.1 hy with hy | hy
            · exact HU.out y hy
            · simp at hy; subst hy; exact hxu
          have hrest' : rest1 = encs (acc ++ [x]) ++ r2 := by rw [HREST.out, HSTEP.out, encs_snoc, List.append_assoc]
          refine ⟨_, _, _, _, _, _, _, _, _, _, _, _, _, _, _, _, _, _, _, _, _, _, _, _, ⟨k + 1, acc ++ [x], a2, p2, r2, by omega, by go_num, by rw [List.length_append, HACC.out]; rfl, hu', hrest', HO4.out, HN1.out, HN2.out, HR2.out, HBW.out⟩, rfl⟩
        case measure => simp [intOf]; omega
      · have t3 : ((c3 : Int) != 0) = true := by rw [bne_iff_ne]; omega
        obtain ⟨k3, k4, e3, e4⟩ := blk2 hB2'
        have hrun : RunRel rest1 0 m [] r2 c3 := by
          rcases hx with ⟨h1, _⟩ | ⟨_, _, _, h4⟩ | ⟨_, _, h3, h4, h5⟩
          · exact absurd rfl h1
          · exact absurd h4 hc3
          · exact .inr (.inr ⟨rfl, acc, by rw [HACC.out]; exact hlt, HU.out, by rw [h3]; exact HREST.out, by rw [h3]; exact h5, rfl, h4⟩)
        have HRUN := Lib.hid hrun
        have hbw2 : Below w.heap.size w w2 := HBK.out.trans (hb2.mono (by omega))
        have HR2 := Lib.hid hr2
        clear hrun hx hr2 hb2 hB1' hB2'
        go_wp2
        go_region
        all_goals go_wp2
        all_goals exact bodyPost_ret (v := .tuple #[.slice none 0 0, .agg #[.slice a2 r2.length p2, .int .i64 (c3 : Int)]]) (by simp [results, Tryz.results26, go_sem, k3, k4, hz2]) rfl ⟨.slice none 0 0, [], a2, p2, r2, c3, n, rest1, c1, rfl, HN.out, by rw [HMC.out, HMR.out]; exact HRUN.out, owns_nil _ _ _ _, HR2.out.below (by (repeat (first | exact Below.refl _ _ | assumption | (refine Below.setCell ?_ (by first | (simp; done) | (simp; omega)) _) | (refine Below.alloc ?_ (by first | (simp; done) | (simp; omega)) _) | (refine Below.drew ?_)))), by (repeat (first | exact Below.refl _ _ | assumption | (refine Below.setCell ?_ (by first | (simp; done) | (simp; omega)) _) | (refine Below.alloc ?_ (by first | (simp; done) | (simp; omega)) _) | (refine Below.drew ?_)))⟩
    · obtain rfl : k = m := by omega
      have hrun : RunRel rest1 c2 k acc rk c2 := by
        by_cases hc2 : c2 = 0
        · exact .inr (.inl ⟨hc2, acc, HACC.out, HU.out, HREST.out, rfl, hc2⟩)
        · have hk0 := HZ.out hc2
          obtain rfl : acc = [] := List.length_eq_zero_iff.1 (by rw [HACC.out]; exact hk0)
          exact .inl ⟨hc2, rfl, by simpa [encs] using HREST.out.symm, rfl⟩
      have HRUN := Lib.hid hrun
      have hbw := HBK.out
      have ho := HO.out
      clear hrun
      go_wp2
      go_region
      all_goals go_wp2
      all_goals refine bodyPost_ret (v := .tuple #[u7, .agg #[.slice ak rk.length ck, .int .i64 (c2 : Int)]]) (by simp [results, Tryz.results26, go_sem, g3, g4]) rfl ⟨u7, acc, ak, ck, rk, c2, n, rest1, c1, rfl, HN.out, by rw [HMC.out, HMR.out]; exact HRUN.out, ?_, HRK.out.below (by (repeat (first | exact Below.refl _ _ | assumption | (refine Below.setCell ?_ (by first | (simp; done) | (simp; omega)) _) | (refine Below.alloc ?_ (by first | (simp; done) | (simp; omega)) _) | (refine Below.drew ?_)))), by (repeat (first | exact Below.refl _ _ | assumption | (refine Below.setCell ?_ (by first | (simp; done) | (simp; omega)) _) | (refine Below.alloc ?_ (by first | (simp; done) | (simp; omega)) _) | (refine Below.drew ?_)))⟩
      all_goals exact Owns.mono (base := w.heap.size + 2) (ownsRow_setCell_below (ownsRow_setCell_below ho (by simp) _) (by simp) _) (by omega)

end Go.Proofs.YtjbodokligpcaaaGreat
