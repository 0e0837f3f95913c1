/- Acts as they are recorded: the document's own one frame. · Acts as they are recorded: the document's own Take. · A whole unit as it is recorded: TakeUnit, by the document. -/
import Derived.Test.YtiaijpknnomlnaaGreatRcM
import Derived.Test.YtiaijpknnomlnaaGreatFrR
import Derived.Test.YtiaijpknnomlnaaGreatRuP
import Derived.Deep.CutBlock
namespace Go.Proofs.YtiaijpknnomlnaaGreat
open Go.RowKit

set_option maxHeartbeats 1000000 in
set_option maxRecDepth 100000 in
theorem rone_any (v : Value) (b : List Nat) (w : World) (A : Nat → Prop) (hA : At w A .u8 v b) (hb : ∀ y ∈ b, y < 256) :
    Calls Tryz.prog 31 #[v] w fun r w' => ∃ (v' : Value) (t : List Nat) (c : Nat), r = .returned (.tuple #[v', .int .i64 (c : Int)]) ∧ (∃ t1, FO b t1 c) ∧ (c = 0 → FO b t 0) ∧ At w' A .u8 v' t ∧ Below w.heap.size w w' ∧ BlkU A w v' := by
  obtain ⟨ao, cap, rfl, h1, h2, h3⟩ := hA.reads.val
  have HT := Lib.hid (refFrTakeU_any _ b w A hA hb)
  obtain ⟨nb, hnb⟩ : ∃ n, n = b.length := ⟨_, rfl⟩
  have HN := Lib.hid hnb
  rw [← hnb] at HT ⊢
  clear hA h1 h2 h3 hnb
  go_enter Tryz.func31, Tryz.ntmps31
  go_wp2_with fail
  refine HT.out.mono ?_
  rintro r w1 ⟨v1, t, s, c, rfl, hft, hat, hb1, hbk⟩
  have HBK := Lib.hid hbk
  have HF := Lib.hid hft
  have HAT := Lib.hid hat
  have HB := Lib.hid hb1
  obtain ⟨ao1, cap1, rfl, _, _, _⟩ := hat.reads.val
  generalize t.length = nt at *
  clear hft hat hb1 hbk
  by_cases hz : c = 0
  rotate_left
  · have hzi : ((c : Int) == 0) = false := by simp [hz]
    have HZ := Lib.hid hz
    clear hz
    go_wp2
    go_ret2
    exact ⟨_, t, c, rfl, ⟨[], t, s, c, HF.out, by rw [if_pos HZ.out]; exact ⟨rfl, rfl⟩⟩, fun h => absurd h HZ.out, HAT.out, HB.out, HBK.out⟩
  subst hz
  by_cases hs : s < nb
  · have hsi : (s : Int) < (nb : Int) := by omega
    have HS := Lib.hid hs
    clear hs
    go_wp2
    go_ret2
    exact ⟨_, t, 2, rfl, ⟨[], t, s, 0, HF.out, by rw [if_neg (by decide), if_pos (by rw [← HN.out]; exact HS.out)]; exact ⟨rfl, rfl⟩⟩, (fun h => by cases h), HAT.out, HB.out, HBK.out⟩
  · have hsi : ¬ (s : Int) < (nb : Int) := by omega
    have HS := Lib.hid hs
    clear hs
    go_wp2
    go_ret2
    exact ⟨_, t, 0, rfl, ⟨t, t, s, 0, HF.out, by rw [if_neg (by decide), if_neg (by rw [← HN.out]; exact HS.out)]; exact ⟨rfl, rfl⟩⟩, fun _ => ⟨t, s, 0, HF.out, by rw [if_neg (by decide), if_neg (by rw [← HN.out]; exact HS.out)]; exact ⟨rfl, rfl⟩⟩, HAT.out, HB.out, HBK.out⟩
/-- A kind that isn't one: what follows it isn't looked at. -/
theorem tact_zero {rest r1 r2 : List Nat} {n1 c1 n2 c2 : Nat} (h1 : NumRel rest 0 n1 r1 c1) (hk : withinR n1 5 = 0) (h2 : NumRel r1 (if withinC n1 c1 5 = 0 then 1 else withinC n1 c1 5) n2 r2 c2) :
    TAct rest 0 (withinR n2 1099511627776) 0 [] r2 (withinC n2 c2 1099511627776) := by
  have he : (if withinC n1 c1 5 = 0 then 1 else withinC n1 c1 5) ≠ 0 := by split <;> omega
  rcases h2 with ⟨_, rfl, rfl, rfl⟩ | ⟨h, _⟩ | ⟨h, _⟩
  · have hg := within_good (n := 0) (c := if withinC n1 c1 5 = 0 then 1 else withinC n1 c1 5) (most := 1099511627776) (by decide)
    have hg2 := within_good (n := 0) (c := if withinC n1 c1 5 = 0 then 1 else withinC n1 c1 5) (most := 1048576) (by decide)
    refine ⟨n1, r2, c1, 0, r2, _, r2, _, h1, hk.symm, by rw [if_pos (by decide)]; exact .inl ⟨he, rfl, rfl, rfl⟩, rfl, ?_, by rw [if_neg (by decide)]; exact ⟨rfl, rfl, rfl⟩⟩
    rw [if_neg (by decide), hg.2]
    exact ⟨0, _, .inl ⟨he, rfl, rfl, rfl⟩, hg2.1.symm, hg2.2.symm⟩
  · exact absurd h he
  · exact absurd h he
end Go.Proofs.YtiaijpknnomlnaaGreat

namespace Go.Proofs.YtiaijpknnomlnaaGreat
open Go.RowKit

/-- The boxes of the document's own Take: the result's, the reader's, the act's. -/
structure T9 (w : World) (p : Nat) (W : World) (k e a : Int) (s : ByteArray) (ao : Option Addr) (cap : Nat) (rest : List Nat) (c : Nat) : Prop where
  res : W.heap[w.heap.size]? = some (.cells #[.int .i64 0, .int .i64 0, .int .i64 0, .string ⟨#[]⟩] 31 (0, 0))
  rd : W.heap[p]? = some (.cells #[.slice ao rest.length cap, .int .i64 (c : Int)] 75 (0, 0))
  act : W.heap[p + 1]? = some (.cells #[.int .i64 k, .int .i64 e, .int .i64 a, .string s] 31 (0, 0))
  lt : w.heap.size < p
  ru : RdU W w.heap.size (.slice ao rest.length cap) rest
  b : Below w.heap.size w W
section
variable {w W W' : World} {p : Nat} {k e a : Int} {s : ByteArray} {ao : Option Addr} {cap : Nat} {rest : List Nat} {c : Nat}
theorem T9.lt2 (h : T9 w p W k e a s ao cap rest c) : p + 1 < W.heap.size := (Array.getElem?_eq_some_iff.1 h.act).1
theorem T9.old (h : T9 w p W k e a s ao cap rest c) (hb : Below W.heap.size W W') : T9 w p W' k e a s ao cap rest c :=
  ⟨(hb.block _ (Array.getElem?_eq_some_iff.1 h.res).1).trans h.res, (hb.block _ (Array.getElem?_eq_some_iff.1 h.rd).1).trans h.rd, (hb.block _ (Array.getElem?_eq_some_iff.1 h.act).1).trans h.act, h.lt, h.ru.below (hb.mono h.b.size), h.b.trans (hb.mono h.b.size)⟩
theorem t9_put (h : Below w.heap.size w W) {q : Nat} (hq : w.heap.size ≤ q) (i : Nat) (x : Value) : Below w.heap.size w (W.setCell ⟨q, i, none⟩ x) := h.setCell hq _
theorem set_other (W : World) {q j : Nat} (h : j ≠ q) (i : Nat) (x : Value) : (W.setCell ⟨q, i, none⟩ x).heap[j]? = W.heap[j]? := heap_setCell_other W ⟨q, i, none⟩ j x h
theorem T9.setk (h : T9 w p W k e a s ao cap rest c) (x : Int) : T9 w p (W.setCell ⟨p + 1, 0, none⟩ (.int .i64 x)) x e a s ao cap rest c := by
  have := h.lt
  exact ⟨(set_other W (by omega) _ _).trans h.res, (set_other W (by omega) _ _).trans h.rd, heap_setCell_same _ _ 0 _ _ _ h.act, h.lt, h.ru.below ((Below.refl _ _).setCell (by simp only; omega) _), t9_put h.b (by omega) _ _⟩
theorem T9.sete (h : T9 w p W k e a s ao cap rest c) (x : Int) : T9 w p (W.setCell ⟨p + 1, 1, none⟩ (.int .i64 x)) k x a s ao cap rest c := by
  have := h.lt
  exact ⟨(set_other W (by omega) _ _).trans h.res, (set_other W (by omega) _ _).trans h.rd, heap_setCell_same _ _ 1 _ _ _ h.act, h.lt, h.ru.below ((Below.refl _ _).setCell (by simp only; omega) _), t9_put h.b (by omega) _ _⟩
theorem T9.seta (h : T9 w p W k e a s ao cap rest c) (x : Int) : T9 w p (W.setCell ⟨p + 1, 2, none⟩ (.int .i64 x)) k e x s ao cap rest c := by
  have := h.lt
  exact ⟨(set_other W (by omega) _ _).trans h.res, (set_other W (by omega) _ _).trans h.rd, heap_setCell_same _ _ 2 _ _ _ h.act, h.lt, h.ru.below ((Below.refl _ _).setCell (by simp only; omega) _), t9_put h.b (by omega) _ _⟩
theorem T9.sets (h : T9 w p W k e a s ao cap rest c) (x : ByteArray) : T9 w p (W.setCell ⟨p + 1, 3, none⟩ (.string x)) k e a x ao cap rest c := by
  have := h.lt
  exact ⟨(set_other W (by omega) _ _).trans h.res, (set_other W (by omega) _ _).trans h.rd, heap_setCell_same _ _ 3 _ _ _ h.act, h.lt, h.ru.below ((Below.refl _ _).setCell (by simp only; omega) _), t9_put h.b (by omega) _ _⟩
theorem T9.setc (h : T9 w p W k e a s ao cap rest c) (x : Nat) : T9 w p (W.setCell ⟨p, 1, none⟩ (.int .i64 (x : Int))) k e a s ao cap rest x := by
  have := h.lt
  exact ⟨(set_other W (by omega) _ _).trans h.res, heap_setCell_same _ _ 1 _ _ _ h.rd, (set_other W (by omega) _ _).trans h.act, h.lt, h.ru.below ((Below.refl _ _).setCell (by simp only; omega) _), t9_put h.b (by omega) _ _⟩
/-- Another reader. -/
theorem T9.rdr {W0 : World} {ao' : Option Addr} {cap' c' : Nat} {rest' : List Nat} (h : T9 w p W k e a s ao cap rest c) (hr : RdU W0 w.heap.size (.slice ao' rest'.length cap') rest') (hb : Below w.heap.size W0 W) :
    T9 w p ((W.setCell ⟨p, 0, none⟩ (.slice ao' rest'.length cap')).setCell ⟨p, 1, none⟩ (.int .i64 (c' : Int))) k e a s ao' cap' rest' c' := by
  have := h.lt
  refine ⟨(set_other _ (by omega) _ _).trans ((set_other W (by omega) _ _).trans h.res), heap_setCell_same _ _ 1 _ _ _ (heap_setCell_same _ _ 0 _ _ _ h.rd), (set_other _ (by omega) _ _).trans ((set_other W (by omega) _ _).trans h.act), h.lt, ?_, t9_put (t9_put h.b (by omega) _ _) (by omega) _ _⟩
  exact hr.below ((hb.setCell (by simp only; omega) _).setCell (by simp only; omega) _)
theorem T9.x (h : T9 w p W k e a s ao cap rest c) : (W.cell? ⟨p, 0, none⟩ = some (.slice ao rest.length cap) ∧ W.cell? ⟨p, 1, none⟩ = some (.int .i64 (c : Int))) ∧
    (W.cell? ⟨p + 1, 0, none⟩ = some (.int .i64 k) ∧ W.cell? ⟨p + 1, 1, none⟩ = some (.int .i64 e) ∧ W.cell? ⟨p + 1, 2, none⟩ = some (.int .i64 a) ∧ W.cell? ⟨p + 1, 3, none⟩ = some (.string s)) ∧
    (∀ i, W.frozen? ⟨p, i, none⟩ = false) ∧ (∀ i, W.frozen? ⟨p + 1, i, none⟩ = false) := by
  obtain ⟨x0, x1, x2, x3, xf⟩ := four_cells9 h.act
  exact ⟨⟨by rw [cell_of_row _ _ 0 _ _ _ h.rd]; rfl, by rw [cell_of_row _ _ 1 _ _ _ h.rd]; rfl⟩, ⟨x0, x1, x2, x3⟩, fun i => frozen_of_row _ _ i _ _ h.rd, xf⟩
end
/-- What the document's own Take answers. -/
def RTake9 (b : List Nat) (w : World) (r : Ending) (w' : World) : Prop :=
  ∃ (k e a : Nat) (d : List Nat) (c : Nat), r = .returned (.tuple #[.agg #[.int .i64 (k : Int), .int .i64 (e : Int), .int .i64 (a : Int), .string (S8 d)], .int .i64 (c : Int)]) ∧ RTake b k e a d c ∧ Below w.heap.size w w'
theorem kind_good {rest r1 : List Nat} {n1 c1 : Nat} (h : NumRel rest 0 n1 r1 c1) (hk : withinR n1 5 ≠ 0) : withinC n1 c1 5 = 0 := by
  rcases h with ⟨h, _⟩ | ⟨_, _, _, h⟩ | ⟨_, h, _⟩
  · exact absurd rfl h
  · subst h
    unfold withinR at hk
    unfold withinC
    split
    · rename_i h1; rw [if_pos h1] at hk; exact absurd rfl hk
    · rfl
  · subst h
    exact absurd (by decide) hk

set_option maxHeartbeats 8000000 in
set_option maxRecDepth 100000 in
theorem rtake9_any (v : Value) (b : List Nat) (w : World) (hr : Reads w .u8 v b) (hb : ∀ y ∈ b, y < 256) : Calls Tryz.prog 8 #[v] w (RTake9 b w) := by
  obtain ⟨ao, cap, rfl, _, _, _⟩ := hr.val
  obtain ⟨W1, hW1⟩ : ∃ W1, W1 = w.alloc (.cells #[.int .i64 0, .int .i64 0, .int .i64 0, .string ⟨#[]⟩] 31) := ⟨_, rfl⟩
  have hb1 : Below w.heap.size w W1 := by rw [hW1]; exact (Below.refl _ _).alloc (Nat.le_refl _) _
  have hx1 : W1.heap[w.heap.size]? = some (.cells #[.int .i64 0, .int .i64 0, .int .i64 0, .string ⟨#[]⟩] 31 (0, 0)) := by rw [hW1]; exact heap_alloc_new _ _
  have HONE := Lib.hid (rone_any _ b W1 _ (hr.at'.old hb1) hb)
  have HB1 := Lib.hid hb1
  have HX1 := Lib.hid hx1
  have HBB := Lib.hid hb
  have HW1 := Lib.hid hW1
  generalize b.length = nb at *
  clear hr hb hb1 hx1 hW1
  go_enter Tryz.func8, Tryz.ntmps8
  go_wp2_with fail
  rw [← HW1.out]
  refine HONE.out.mono ?_
  rintro r w2 ⟨v2, t, c0, rfl, ⟨t1, hfo⟩, hfz, hat, hb2, hbk⟩
  obtain ⟨ao2, n2, cap2, rfl, hbk⟩ := hbk
  obtain ⟨ao2', cap2', hv, _, _, _⟩ := hat.reads.val
  obtain ⟨rfl, rfl, rfl⟩ : ao2 = ao2' ∧ n2 = t.length ∧ cap2 = cap2' := by simpa using hv
  have HFO := Lib.hid hfo
  have HFZ := Lib.hid hfz
  have HB2 : Hid (Below w.heap.size w w2) := Lib.hid (HB1.out.trans (hb2.mono HB1.out.size))
  have HX2 := Lib.hid ((hb2.block _ (Array.getElem?_eq_some_iff.1 HX1.out).1).trans HX1.out)
  have HRU : Hid (RdU w2 w.heap.size (.slice ao2 t.length cap2) t) := Lib.hid ⟨hat.reads, ao2, t.length, cap2, rfl, hbk.imp id fun ⟨b, off, h1, h2, _⟩ => ⟨b, off, h1, h2⟩⟩
  obtain ⟨x0, x1, x2, x3, xf⟩ := four_cells9 HX2.out
  clear hfo hfz hat hb2 hbk hv
  by_cases hz : c0 = 0
  rotate_left
  · have tz : ((c0 : Int) != 0) = true := by simp; omega
    have tz2 : ((c0 : Int) == 0) = false := by rw [beq_eq_false_iff_ne]; omega
    have HZ := Lib.hid hz
    obtain ⟨z0, z1, z2, z3, _⟩ := four_cells9 (four_set HX2.out (.int .i64 0) (.int .i64 0) (.int .i64 0) (.string ⟨#[]⟩))
    clear hz
    go_wp2
    refine bodyPost_ret (v := .tuple #[.agg #[.int .i64 0, .int .i64 0, .int .i64 0, .string ⟨#[]⟩], .int .i64 (c0 : Int)]) (by simp [results, Tryz.results8, go_sem, z0, z1, z2, z3]) rfl ?_
    exact ⟨0, 0, 0, [], c0, rfl, ⟨t1, c0, HFO.out, by rw [if_pos HZ.out]; exact ⟨rfl, rfl, rfl, rfl, rfl⟩⟩, below_four HB2.out _ _ _ _⟩
  subst hz
  have HFT : Hid (FO b t 0) := Lib.hid (HFZ.out rfl)
  have H80 : Hid (∀ y ∈ t, y < 256) := Lib.hid (fo_good HBB.out HFT.out rfl).1
  obtain ⟨W3, hW3⟩ : ∃ W3, W3 = (w2.alloc (.cells #[.slice ao2 t.length cap2, .int .i64 0] 75)).alloc (.cells #[.int .i64 0, .int .i64 0, .int .i64 0, .string ⟨#[]⟩] 31) := ⟨_, rfl⟩
  have hb3 : Below w2.heap.size w2 W3 := by rw [hW3]; exact ((Below.refl _ _).alloc (Nat.le_refl _) _).alloc (by simp) _
  have hx3 : W3.heap[w2.heap.size]? = some (.cells #[.slice ao2 t.length cap2, .int .i64 ((0 : Nat) : Int)] 75 (0, 0)) := by rw [hW3, Below.heap_alloc _ _ _ (by simp)]; exact heap_alloc_new _ _
  have hy3 : W3.heap[w2.heap.size + 1]? = some (.cells #[.int .i64 0, .int .i64 0, .int .i64 0, .string ⟨#[]⟩] 31 (0, 0)) := by
    rw [hW3]
    have := heap_alloc_new (w2.alloc (.cells #[.slice ao2 t.length cap2, .int .i64 0] 75)) (.cells #[.int .i64 0, .int .i64 0, .int .i64 0, .string ⟨#[]⟩] 31)
    simpa using this
  have HW3 := Lib.hid hW3
  have HT3 : Hid (T9 w w2.heap.size W3 0 0 0 ⟨#[]⟩ ao2 cap2 t 0) := Lib.hid ⟨(hb3.block _ (Array.getElem?_eq_some_iff.1 HX2.out).1).trans HX2.out, hx3, hy3, (Array.getElem?_eq_some_iff.1 HX2.out).1, HRU.out.below (hb3.mono HB2.out.size), HB2.out.trans (hb3.mono HB2.out.size)⟩
  obtain ⟨p, hp⟩ : ∃ p, p = w2.heap.size := ⟨_, rfl⟩
  rw [← hp] at HT3
  have HP := Lib.hid hp
  clear hW3 hb3 hx3 hy3 hp
  go_wp2_with fail
  rw [← HW3.out, ← HP.out]
  clear x0 x1 x2 x3 xf
  refine (rwithin_any w.heap.size ao2 cap2 t 0 5 W3 HT3.out.b.size HT3.out.ru H80.out).mono ?_
  rintro r w3 ⟨n1, ao3, cap3, r1, c1, rfl, hn1, hru3, hb3⟩
  have HN1 := Lib.hid hn1
  have H81 : Hid (∀ y ∈ r1, y < 256) := Lib.hid fun y hy => H80.out y (num_sub hn1 y hy)
  obtain ⟨k, hk⟩ : ∃ k, k = withinR n1 5 := ⟨_, rfl⟩
  obtain ⟨y1, hy1⟩ : ∃ y, y = withinC n1 c1 5 := ⟨_, rfl⟩
  rw [← hk, ← hy1]
  have HK := Lib.hid hk
  have HY1 := Lib.hid hy1
  have HTo3 := Lib.hid (HT3.out.old hb3)
  have HRU3 := Lib.hid hru3
  obtain ⟨W4, hW4⟩ : ∃ W, W = ((w3.setCell ⟨p + 1, 0, none⟩ (.int .i64 (k : Int))).setCell ⟨p, 0, none⟩ (.slice ao3 r1.length cap3)).setCell ⟨p, 1, none⟩ (.int .i64 (y1 : Int)) := ⟨_, rfl⟩
  have HT4 : Hid (T9 w p W4 (k : Int) 0 0 ⟨#[]⟩ ao3 cap3 r1 y1) := Lib.hid (by rw [hW4]; exact (HTo3.out.setk _).rdr HRU3.out ((Below.refl _ _).setCell (by have := HTo3.out.lt; simp only; omega) _))
  have HW4 := Lib.hid hW4
  obtain ⟨⟨a0, a1⟩, ⟨b0, b1, b2, b3⟩, fp, fq⟩ := HTo3.out.x
  have hx := HT4.out.x
  rw [hW4] at hx
  obtain ⟨⟨e0, e1⟩, ⟨g0, g1, g2, g3⟩, _, _⟩ := hx
  have HGO := Lib.hid (kind_good HN1.out)
  rw [← hk, ← hy1] at HGO
  clear hn1 hk hy1 hru3 hb3 hW4
  by_cases hk0 : k = 0
  · by_cases hy0 : y1 = 0
    · have p0 : ((k : Int) == 0) = true := by simp [hk0]
      have pG : ¬ (1 : Int) < (k : Int) := by omega
      have p2 : ((k : Int) == 2) = false := by simp [hk0]
      have HK0 := Lib.hid hk0
      have q0 : ((y1 : Int) == 0) = true := by simp [hy0]
      have HY0 := Lib.hid hy0
      clear hk0 hy0
      obtain ⟨W5, hW⟩ : ∃ W, W = W4.setCell ⟨p, 1, none⟩ (.int .i64 1) := ⟨_, rfl⟩
      have HT5 : Hid (T9 w p W5 (k : Int) 0 0 ⟨#[]⟩ ao3 cap3 r1 1) := Lib.hid (by rw [hW]; exact HT4.out.setc 1)
      have HW5 := Lib.hid hW
      have hx := HT5.out.x
      rw [hW, HW4.out] at hx
      obtain ⟨⟨i0, i1⟩, ⟨j0, j1, j2, j3⟩, _, _⟩ := hx
      clear hW
      go_wp2_with fail
      rw [← HW4.out, ← HW5.out]
      clear a0 a1 b0 b1 b2 b3 fp fq e0 e1 g0 g1 g2 g3 i0 i1 j0 j1 j2 j3
      refine (rwithin_any w.heap.size ao3 cap3 r1 1 1099511627776 W5 HT5.out.b.size HT5.out.ru H81.out).mono ?_
      rintro r w6 ⟨n6, ao6, cap6, r6, c6, rfl, hn, hru, hb⟩
      have HN6 := Lib.hid hn
      have H86 : Hid (∀ y ∈ r6, y < 256) := Lib.hid fun y hy => H81.out y (num_sub hn y hy)
      obtain ⟨e, hx⟩ : ∃ x, x = withinR n6 1099511627776 := ⟨_, rfl⟩
      obtain ⟨y6, hy⟩ : ∃ y, y = withinC n6 c6 1099511627776 := ⟨_, rfl⟩
      rw [← hx, ← hy]
      have HLe := Lib.hid hx
      have HY6 := Lib.hid hy
      have HTo6 := Lib.hid (HT5.out.old hb)
      have HRU6 := Lib.hid hru
      obtain ⟨W6, hW⟩ : ∃ W, W = ((w6.setCell ⟨p + 1, 1, none⟩ (.int .i64 (e : Int))).setCell ⟨p, 0, none⟩ (.slice ao6 r6.length cap6)).setCell ⟨p, 1, none⟩ (.int .i64 (y6 : Int)) := ⟨_, rfl⟩
      have HT6 : Hid (T9 w p W6 (k : Int) (e : Int) 0 ⟨#[]⟩ ao6 cap6 r6 y6) := Lib.hid (by rw [hW]; exact (HTo6.out.sete _).rdr HRU6.out ((Below.refl _ _).setCell (by have := HTo6.out.lt; simp only; omega) _))
      have HW6 := Lib.hid hW
      obtain ⟨⟨a0, a1⟩, ⟨b0, b1, b2, b3⟩, fp, fq⟩ := HTo6.out.x
      have hx := HT6.out.x
      rw [hW] at hx
      obtain ⟨⟨e0, e1⟩, ⟨g0, g1, g2, g3⟩, _, _⟩ := hx
      clear hn hx hy hru hb hW
      go_wp2_with fail
      rw [← HW6.out]
      try clear a0 a1 b0 b1 b2 b3 fp fq
      try clear e0 e1 g0 g1 g2 g3
      refine (rend_any ao6 r6.length cap6 y6 W6).mono ?_
      rintro r w7 ⟨rfl, hb⟩
      have HT7 := Lib.hid (HT6.out.old hb)
      obtain ⟨ce, hce⟩ : ∃ x, x = endC r6.length y6 := ⟨_, rfl⟩
      rw [← hce]
      have HCE := Lib.hid hce
      clear hb hce
      have HTA : Hid (TAct t k e 0 [] r6 y6) := Lib.hid (by have h := tact_zero HN1.out (HK.out.symm.trans HK0.out) (by rw [← HY1.out, if_pos HY0.out]; exact HN6.out); rw [← HLe.out, ← HY6.out] at h; rw [HK0.out]; exact h)
      obtain ⟨⟨a0, a1⟩, ⟨b0, b1, b2, b3⟩, fp, fq⟩ := HT7.out.x
      obtain ⟨r0, r1, r2, r3, rf⟩ := four_cells9 HT7.out.res
      by_cases hz : ce = 0
      rotate_left
      · have tz : ((ce : Int) != 0) = true := by simp; omega
        have tz2 : ((ce : Int) == 0) = false := by rw [beq_eq_false_iff_ne]; omega
        have HZ := Lib.hid hz
        obtain ⟨z0, z1, z2, z3, _⟩ := four_cells9 (four_set HT7.out.res (.int .i64 0) (.int .i64 0) (.int .i64 0) (.string ⟨#[]⟩))
        clear hz
        go_wp2
        refine bodyPost_ret (v := .tuple #[.agg #[.int .i64 0, .int .i64 0, .int .i64 0, .string ⟨#[]⟩], .int .i64 (ce : Int)]) (by simp [results, Tryz.results8, go_sem, z0, z1, z2, z3]) rfl ?_
        exact ⟨0, 0, 0, [], ce, rfl, ⟨t, 0, HFT.out, by rw [if_neg (by decide)]; exact ⟨k, _, _, _, _, _, HTA.out, by rw [← HCE.out, if_pos HZ.out]; exact ⟨rfl, rfl, rfl, rfl, rfl⟩⟩⟩, below_four HT7.out.b _ _ _ _⟩
      have HZ := Lib.hid hz
      rw [hz]
      clear hz
      go_wp2_with fail
      clear a0 a1 b0 b1 b2 b3 fp fq r0 r1 r2 r3 rf
      have hck := rrcheck_any (k : Int) (e : Int) 0 ⟨#[]⟩ w7
      obtain ⟨cc, hcc⟩ : ∃ x, x = rchk (k : Int) (e : Int) 0 0 := ⟨_, rfl⟩
      rw [show (⟨#[]⟩ : ByteArray).size = 0 from rfl, ← hcc] at hck
      have HCC := Lib.hid hcc
      clear hcc
      refine hck.mono ?_
      rintro r w8 ⟨rfl, hb⟩
      have HT8 := Lib.hid (HT7.out.old hb)
      clear hb hck
      obtain ⟨⟨a0, a1⟩, ⟨b0, b1, b2, b3⟩, fp, fq⟩ := HT8.out.x
      obtain ⟨r0, r1, r2, r3, rf⟩ := four_cells9 HT8.out.res
      have HLT2 := HT8.out.lt
      by_cases hz : cc = 0
      rotate_left
      · have tz : ((cc : Int) != 0) = true := by simp; omega
        have tz2 : ((cc : Int) == 0) = false := by rw [beq_eq_false_iff_ne]; omega
        have HZZ := Lib.hid hz
        obtain ⟨z0, z1, z2, z3, _⟩ := four_cells9 (four_set HT8.out.res (.int .i64 0) (.int .i64 0) (.int .i64 0) (.string ⟨#[]⟩))
        clear hz
        go_wp2
        refine bodyPost_ret (v := .tuple #[.agg #[.int .i64 0, .int .i64 0, .int .i64 0, .string ⟨#[]⟩], .int .i64 (cc : Int)]) (by simp [results, Tryz.results8, go_sem, z0, z1, z2, z3]) rfl ?_
        exact ⟨0, 0, 0, [], cc, rfl, ⟨t, 0, HFT.out, by rw [if_neg (by decide)]; exact ⟨k, _, _, _, _, _, HTA.out, by rw [← HCE.out, HZ.out, if_neg (by decide)]; exact (if_pos (show rchk (k : Int) (e : Int) 0 0 ≠ 0 by rw [← HCC.out]; exact HZZ.out)).mpr ⟨rfl, rfl, rfl, rfl, HCC.out⟩⟩⟩, below_four HT8.out.b _ _ _ _⟩
      have HZZ := Lib.hid hz
      rw [hz]
      clear hz
      obtain ⟨z0, z1, z2, z3, _⟩ := four_cells9 (four_set HT8.out.res (.int .i64 (k : Int)) (.int .i64 (e : Int)) (.int .i64 0) (.string ⟨#[]⟩))
      go_wp2
      refine bodyPost_ret (v := .tuple #[.agg #[.int .i64 (k : Int), .int .i64 (e : Int), .int .i64 0, .string ⟨#[]⟩], .int .i64 0]) (by simp [results, Tryz.results8, go_sem, z0, z1, z2, z3]) rfl ?_
      exact ⟨k, e, 0, [], 0, rfl, ⟨t, 0, HFT.out, by rw [if_neg (by decide)]; exact ⟨k, _, _, _, _, _, HTA.out, by rw [← HCE.out, HZ.out, if_neg (by decide)]; exact (if_neg (show ¬ rchk (k : Int) (e : Int) 0 0 ≠ 0 by rw [← HCC.out, HZZ.out]; decide)).mpr ⟨rfl, rfl, rfl, rfl, rfl⟩⟩⟩, below_four HT8.out.b _ _ _ _⟩
    · have p0 : ((k : Int) == 0) = true := by simp [hk0]
      have pG : ¬ (1 : Int) < (k : Int) := by omega
      have p2 : ((k : Int) == 2) = false := by simp [hk0]
      have HK0 := Lib.hid hk0
      have q0 : ((y1 : Int) == 0) = false := by rw [beq_eq_false_iff_ne]; omega
      have HY0 := Lib.hid hy0
      clear hk0 hy0
      go_wp2_with fail
      rw [← HW4.out]
      try clear a0 a1 b0 b1 b2 b3 fp fq
      try clear e0 e1 g0 g1 g2 g3
      refine (rwithin_any w.heap.size ao3 cap3 r1 y1 1099511627776 W4 HT4.out.b.size HT4.out.ru H81.out).mono ?_
      rintro r w5 ⟨n5, ao5, cap5, r5, c5, rfl, hn, hru, hb⟩
      have HN5 := Lib.hid hn
      have H85 : Hid (∀ y ∈ r5, y < 256) := Lib.hid fun y hy => H81.out y (num_sub hn y hy)
      obtain ⟨e, hx⟩ : ∃ x, x = withinR n5 1099511627776 := ⟨_, rfl⟩
      obtain ⟨y5, hy⟩ : ∃ y, y = withinC n5 c5 1099511627776 := ⟨_, rfl⟩
      rw [← hx, ← hy]
      have HLe := Lib.hid hx
      have HY5 := Lib.hid hy
      have HTo5 := Lib.hid (HT4.out.old hb)
      have HRU5 := Lib.hid hru
      obtain ⟨W5, hW⟩ : ∃ W, W = ((w5.setCell ⟨p + 1, 1, none⟩ (.int .i64 (e : Int))).setCell ⟨p, 0, none⟩ (.slice ao5 r5.length cap5)).setCell ⟨p, 1, none⟩ (.int .i64 (y5 : Int)) := ⟨_, rfl⟩
      have HT5 : Hid (T9 w p W5 (k : Int) (e : Int) 0 ⟨#[]⟩ ao5 cap5 r5 y5) := Lib.hid (by rw [hW]; exact (HTo5.out.sete _).rdr HRU5.out ((Below.refl _ _).setCell (by have := HTo5.out.lt; simp only; omega) _))
      have HW5 := Lib.hid hW
      obtain ⟨⟨a0, a1⟩, ⟨b0, b1, b2, b3⟩, fp, fq⟩ := HTo5.out.x
      have hx := HT5.out.x
      rw [hW] at hx
      obtain ⟨⟨e0, e1⟩, ⟨g0, g1, g2, g3⟩, _, _⟩ := hx
      clear hn hx hy hru hb hW
      go_wp2_with fail
      rw [← HW5.out]
      try clear a0 a1 b0 b1 b2 b3 fp fq
      try clear e0 e1 g0 g1 g2 g3
      refine (rend_any ao5 r5.length cap5 y5 W5).mono ?_
      rintro r w6 ⟨rfl, hb⟩
      have HT6 := Lib.hid (HT5.out.old hb)
      obtain ⟨ce, hce⟩ : ∃ x, x = endC r5.length y5 := ⟨_, rfl⟩
      rw [← hce]
      have HCE := Lib.hid hce
      clear hb hce
      have HTA : Hid (TAct t k e 0 [] r5 y5) := Lib.hid (by have h := tact_zero HN1.out (HK.out.symm.trans HK0.out) (by rw [← HY1.out, if_neg HY0.out]; exact HN5.out); rw [← HLe.out, ← HY5.out] at h; rw [HK0.out]; exact h)
      obtain ⟨⟨a0, a1⟩, ⟨b0, b1, b2, b3⟩, fp, fq⟩ := HT6.out.x
      obtain ⟨r0, r1, r2, r3, rf⟩ := four_cells9 HT6.out.res
      by_cases hz : ce = 0
      rotate_left
      · have tz : ((ce : Int) != 0) = true := by simp; omega
        have tz2 : ((ce : Int) == 0) = false := by rw [beq_eq_false_iff_ne]; omega
        have HZ := Lib.hid hz
        obtain ⟨z0, z1, z2, z3, _⟩ := four_cells9 (four_set HT6.out.res (.int .i64 0) (.int .i64 0) (.int .i64 0) (.string ⟨#[]⟩))
        clear hz
        go_wp2
        refine bodyPost_ret (v := .tuple #[.agg #[.int .i64 0, .int .i64 0, .int .i64 0, .string ⟨#[]⟩], .int .i64 (ce : Int)]) (by simp [results, Tryz.results8, go_sem, z0, z1, z2, z3]) rfl ?_
        exact ⟨0, 0, 0, [], ce, rfl, ⟨t, 0, HFT.out, by rw [if_neg (by decide)]; exact ⟨k, _, _, _, _, _, HTA.out, by rw [← HCE.out, if_pos HZ.out]; exact ⟨rfl, rfl, rfl, rfl, rfl⟩⟩⟩, below_four HT6.out.b _ _ _ _⟩
      have HZ := Lib.hid hz
      rw [hz]
      clear hz
      go_wp2_with fail
      clear a0 a1 b0 b1 b2 b3 fp fq r0 r1 r2 r3 rf
      have hck := rrcheck_any (k : Int) (e : Int) 0 ⟨#[]⟩ w6
      obtain ⟨cc, hcc⟩ : ∃ x, x = rchk (k : Int) (e : Int) 0 0 := ⟨_, rfl⟩
      rw [show (⟨#[]⟩ : ByteArray).size = 0 from rfl, ← hcc] at hck
      have HCC := Lib.hid hcc
      clear hcc
      refine hck.mono ?_
      rintro r w7 ⟨rfl, hb⟩
      have HT7 := Lib.hid (HT6.out.old hb)
      clear hb hck
      obtain ⟨⟨a0, a1⟩, ⟨b0, b1, b2, b3⟩, fp, fq⟩ := HT7.out.x
      obtain ⟨r0, r1, r2, r3, rf⟩ := four_cells9 HT7.out.res
      have HLT2 := HT7.out.lt
      by_cases hz : cc = 0
      rotate_left
      · have tz : ((cc : Int) != 0) = true := by simp; omega
        have tz2 : ((cc : Int) == 0) = false := by rw [beq_eq_false_iff_ne]; omega
        have HZZ := Lib.hid hz
        obtain ⟨z0, z1, z2, z3, _⟩ := four_cells9 (four_set HT7.out.res (.int .i64 0) (.int .i64 0) (.int .i64 0) (.string ⟨#[]⟩))
        clear hz
        go_wp2
        refine bodyPost_ret (v := .tuple #[.agg #[.int .i64 0, .int .i64 0, .int .i64 0, .string ⟨#[]⟩], .int .i64 (cc : Int)]) (by simp [results, Tryz.results8, go_sem, z0, z1, z2, z3]) rfl ?_
        exact ⟨0, 0, 0, [], cc, rfl, ⟨t, 0, HFT.out, by rw [if_neg (by decide)]; exact ⟨k, _, _, _, _, _, HTA.out, by rw [← HCE.out, HZ.out, if_neg (by decide)]; exact (if_pos (show rchk (k : Int) (e : Int) 0 0 ≠ 0 by rw [← HCC.out]; exact HZZ.out)).mpr ⟨rfl, rfl, rfl, rfl, HCC.out⟩⟩⟩, below_four HT7.out.b _ _ _ _⟩
      have HZZ := Lib.hid hz
      rw [hz]
      clear hz
      obtain ⟨z0, z1, z2, z3, _⟩ := four_cells9 (four_set HT7.out.res (.int .i64 (k : Int)) (.int .i64 (e : Int)) (.int .i64 0) (.string ⟨#[]⟩))
      go_wp2
      refine bodyPost_ret (v := .tuple #[.agg #[.int .i64 (k : Int), .int .i64 (e : Int), .int .i64 0, .string ⟨#[]⟩], .int .i64 0]) (by simp [results, Tryz.results8, go_sem, z0, z1, z2, z3]) rfl ?_
      exact ⟨k, e, 0, [], 0, rfl, ⟨t, 0, HFT.out, by rw [if_neg (by decide)]; exact ⟨k, _, _, _, _, _, HTA.out, by rw [← HCE.out, HZ.out, if_neg (by decide)]; exact (if_neg (show ¬ rchk (k : Int) (e : Int) 0 0 ≠ 0 by rw [← HCC.out, HZZ.out]; decide)).mpr ⟨rfl, rfl, rfl, rfl, rfl⟩⟩⟩, below_four HT7.out.b _ _ _ _⟩
  by_cases hk1 : k = 1
  · have p0 : ((k : Int) == 0) = false := by rw [beq_eq_false_iff_ne]; omega
    have HY0 : Hid (y1 = 0) := Lib.hid (HGO.out hk0)
    have q0 : ((y1 : Int) == 0) = true := by simp [HY0.out]
    have pG : ¬ (1 : Int) < (k : Int) := by omega
    have p2 : ((k : Int) == 2) = false := by simp [hk1]
    have HK0 := Lib.hid hk0
    have HK1 := Lib.hid hk1
    clear hk0 hk1
    go_wp2_with fail
    rw [← HW4.out]
    try clear a0 a1 b0 b1 b2 b3 fp fq
    try clear e0 e1 g0 g1 g2 g3
    refine (rwithin_any w.heap.size ao3 cap3 r1 y1 1099511627776 W4 HT4.out.b.size HT4.out.ru H81.out).mono ?_
    rintro r w5 ⟨n5, ao5, cap5, r5, c5, rfl, hn, hru, hb⟩
    have HN5 := Lib.hid hn
    have H85 : Hid (∀ y ∈ r5, y < 256) := Lib.hid fun y hy => H81.out y (num_sub hn y hy)
    obtain ⟨e, hx⟩ : ∃ x, x = withinR n5 1099511627776 := ⟨_, rfl⟩
    obtain ⟨y5, hy⟩ : ∃ y, y = withinC n5 c5 1099511627776 := ⟨_, rfl⟩
    rw [← hx, ← hy]
    have HLe := Lib.hid hx
    have HY5 := Lib.hid hy
    have HTo5 := Lib.hid (HT4.out.old hb)
    have HRU5 := Lib.hid hru
    obtain ⟨W5, hW⟩ : ∃ W, W = ((w5.setCell ⟨p + 1, 1, none⟩ (.int .i64 (e : Int))).setCell ⟨p, 0, none⟩ (.slice ao5 r5.length cap5)).setCell ⟨p, 1, none⟩ (.int .i64 (y5 : Int)) := ⟨_, rfl⟩
    have HT5 : Hid (T9 w p W5 (k : Int) (e : Int) 0 ⟨#[]⟩ ao5 cap5 r5 y5) := Lib.hid (by rw [hW]; exact (HTo5.out.sete _).rdr HRU5.out ((Below.refl _ _).setCell (by have := HTo5.out.lt; simp only; omega) _))
    have HW5 := Lib.hid hW
    obtain ⟨⟨a0, a1⟩, ⟨b0, b1, b2, b3⟩, fp, fq⟩ := HTo5.out.x
    have hx := HT5.out.x
    rw [hW] at hx
    obtain ⟨⟨e0, e1⟩, ⟨g0, g1, g2, g3⟩, _, _⟩ := hx
    clear hn hx hy hru hb hW
    go_wp2_with fail
    rw [← HW5.out]
    try clear a0 a1 b0 b1 b2 b3 fp fq
    try clear e0 e1 g0 g1 g2 g3
    refine (rend_any ao5 r5.length cap5 y5 W5).mono ?_
    rintro r w6 ⟨rfl, hb⟩
    have HT6 := Lib.hid (HT5.out.old hb)
    obtain ⟨ce, hce⟩ : ∃ x, x = endC r5.length y5 := ⟨_, rfl⟩
    rw [← hce]
    have HCE := Lib.hid hce
    clear hb hce
    have HTA : Hid (TAct t k e 0 [] r5 y5) := Lib.hid (⟨n1, r1, c1, n5, r5, c5, r5, y5, HN1.out, HK.out, by rw [if_neg (by have := HK0.out; omega), ← HY1.out]; exact HN5.out, HLe.out, by rw [if_pos HK1.out]; exact ⟨rfl, rfl, HY5.out⟩, by rw [if_neg (by have := HK1.out; omega)]; exact ⟨rfl, rfl, rfl⟩⟩)
    obtain ⟨⟨a0, a1⟩, ⟨b0, b1, b2, b3⟩, fp, fq⟩ := HT6.out.x
    obtain ⟨r0, r1, r2, r3, rf⟩ := four_cells9 HT6.out.res
    by_cases hz : ce = 0
    rotate_left
    · have tz : ((ce : Int) != 0) = true := by simp; omega
      have tz2 : ((ce : Int) == 0) = false := by rw [beq_eq_false_iff_ne]; omega
      have HZ := Lib.hid hz
      obtain ⟨z0, z1, z2, z3, _⟩ := four_cells9 (four_set HT6.out.res (.int .i64 0) (.int .i64 0) (.int .i64 0) (.string ⟨#[]⟩))
      clear hz
      go_wp2
      refine bodyPost_ret (v := .tuple #[.agg #[.int .i64 0, .int .i64 0, .int .i64 0, .string ⟨#[]⟩], .int .i64 (ce : Int)]) (by simp [results, Tryz.results8, go_sem, z0, z1, z2, z3]) rfl ?_
      exact ⟨0, 0, 0, [], ce, rfl, ⟨t, 0, HFT.out, by rw [if_neg (by decide)]; exact ⟨k, _, _, _, _, _, HTA.out, by rw [← HCE.out, if_pos HZ.out]; exact ⟨rfl, rfl, rfl, rfl, rfl⟩⟩⟩, below_four HT6.out.b _ _ _ _⟩
    have HZ := Lib.hid hz
    rw [hz]
    clear hz
    go_wp2_with fail
    clear a0 a1 b0 b1 b2 b3 fp fq r0 r1 r2 r3 rf
    have hck := rrcheck_any (k : Int) (e : Int) 0 ⟨#[]⟩ w6
    obtain ⟨cc, hcc⟩ : ∃ x, x = rchk (k : Int) (e : Int) 0 0 := ⟨_, rfl⟩
    rw [show (⟨#[]⟩ : ByteArray).size = 0 from rfl, ← hcc] at hck
    have HCC := Lib.hid hcc
    clear hcc
    refine hck.mono ?_
    rintro r w7 ⟨rfl, hb⟩
    have HT7 := Lib.hid (HT6.out.old hb)
    clear hb hck
    obtain ⟨⟨a0, a1⟩, ⟨b0, b1, b2, b3⟩, fp, fq⟩ := HT7.out.x
    obtain ⟨r0, r1, r2, r3, rf⟩ := four_cells9 HT7.out.res
    have HLT2 := HT7.out.lt
    by_cases hz : cc = 0
    rotate_left
    · have tz : ((cc : Int) != 0) = true := by simp; omega
      have tz2 : ((cc : Int) == 0) = false := by rw [beq_eq_false_iff_ne]; omega
      have HZZ := Lib.hid hz
      obtain ⟨z0, z1, z2, z3, _⟩ := four_cells9 (four_set HT7.out.res (.int .i64 0) (.int .i64 0) (.int .i64 0) (.string ⟨#[]⟩))
      clear hz
      go_wp2
      refine bodyPost_ret (v := .tuple #[.agg #[.int .i64 0, .int .i64 0, .int .i64 0, .string ⟨#[]⟩], .int .i64 (cc : Int)]) (by simp [results, Tryz.results8, go_sem, z0, z1, z2, z3]) rfl ?_
      exact ⟨0, 0, 0, [], cc, rfl, ⟨t, 0, HFT.out, by rw [if_neg (by decide)]; exact ⟨k, _, _, _, _, _, HTA.out, by rw [← HCE.out, HZ.out, if_neg (by decide)]; exact (if_pos (show rchk (k : Int) (e : Int) 0 0 ≠ 0 by rw [← HCC.out]; exact HZZ.out)).mpr ⟨rfl, rfl, rfl, rfl, HCC.out⟩⟩⟩, below_four HT7.out.b _ _ _ _⟩
    have HZZ := Lib.hid hz
    rw [hz]
    clear hz
    obtain ⟨z0, z1, z2, z3, _⟩ := four_cells9 (four_set HT7.out.res (.int .i64 (k : Int)) (.int .i64 (e : Int)) (.int .i64 0) (.string ⟨#[]⟩))
    go_wp2
    refine bodyPost_ret (v := .tuple #[.agg #[.int .i64 (k : Int), .int .i64 (e : Int), .int .i64 0, .string ⟨#[]⟩], .int .i64 0]) (by simp [results, Tryz.results8, go_sem, z0, z1, z2, z3]) rfl ?_
    exact ⟨k, e, 0, [], 0, rfl, ⟨t, 0, HFT.out, by rw [if_neg (by decide)]; exact ⟨k, _, _, _, _, _, HTA.out, by rw [← HCE.out, HZ.out, if_neg (by decide)]; exact (if_neg (show ¬ rchk (k : Int) (e : Int) 0 0 ≠ 0 by rw [← HCC.out, HZZ.out]; decide)).mpr ⟨rfl, rfl, rfl, rfl, rfl⟩⟩⟩, below_four HT7.out.b _ _ _ _⟩
  by_cases hk2 : k = 2
  · have p0 : ((k : Int) == 0) = false := by rw [beq_eq_false_iff_ne]; omega
    have HY0 : Hid (y1 = 0) := Lib.hid (HGO.out hk0)
    have q0 : ((y1 : Int) == 0) = true := by simp [HY0.out]
    have pG : (1 : Int) < (k : Int) := by omega
    have p2 : ((k : Int) == 2) = true := by simp [hk2]
    have HK0 := Lib.hid hk0
    have HK1 := Lib.hid hk1
    have HK2 := Lib.hid hk2
    clear hk0 hk1 hk2
    go_wp2_with fail
    rw [← HW4.out]
    try clear a0 a1 b0 b1 b2 b3 fp fq
    try clear e0 e1 g0 g1 g2 g3
    refine (rwithin_any w.heap.size ao3 cap3 r1 y1 1099511627776 W4 HT4.out.b.size HT4.out.ru H81.out).mono ?_
    rintro r w5 ⟨n5, ao5, cap5, r5, c5, rfl, hn, hru, hb⟩
    have HN5 := Lib.hid hn
    have H85 : Hid (∀ y ∈ r5, y < 256) := Lib.hid fun y hy => H81.out y (num_sub hn y hy)
    obtain ⟨e, hx⟩ : ∃ x, x = withinR n5 1099511627776 := ⟨_, rfl⟩
    obtain ⟨y5, hy⟩ : ∃ y, y = withinC n5 c5 1099511627776 := ⟨_, rfl⟩
    rw [← hx, ← hy]
    have HLe := Lib.hid hx
    have HY5 := Lib.hid hy
    have HTo5 := Lib.hid (HT4.out.old hb)
    have HRU5 := Lib.hid hru
    obtain ⟨W5, hW⟩ : ∃ W, W = ((w5.setCell ⟨p + 1, 1, none⟩ (.int .i64 (e : Int))).setCell ⟨p, 0, none⟩ (.slice ao5 r5.length cap5)).setCell ⟨p, 1, none⟩ (.int .i64 (y5 : Int)) := ⟨_, rfl⟩
    have HT5 : Hid (T9 w p W5 (k : Int) (e : Int) 0 ⟨#[]⟩ ao5 cap5 r5 y5) := Lib.hid (by rw [hW]; exact (HTo5.out.sete _).rdr HRU5.out ((Below.refl _ _).setCell (by have := HTo5.out.lt; simp only; omega) _))
    have HW5 := Lib.hid hW
    obtain ⟨⟨a0, a1⟩, ⟨b0, b1, b2, b3⟩, fp, fq⟩ := HTo5.out.x
    have hx := HT5.out.x
    rw [hW] at hx
    obtain ⟨⟨e0, e1⟩, ⟨g0, g1, g2, g3⟩, _, _⟩ := hx
    clear hn hx hy hru hb hW
    go_wp2_with fail
    rw [← HW5.out]
    try clear a0 a1 b0 b1 b2 b3 fp fq
    try clear e0 e1 g0 g1 g2 g3
    refine (rwithin_any w.heap.size ao5 cap5 r5 y5 1048576 W5 HT5.out.b.size HT5.out.ru H85.out).mono ?_
    rintro r w6 ⟨n6, ao6, cap6, r6, c6, rfl, hn, hru, hb⟩
    have HN6 := Lib.hid hn
    have H86 : Hid (∀ y ∈ r6, y < 256) := Lib.hid fun y hy => H85.out y (num_sub hn y hy)
    obtain ⟨a, hx⟩ : ∃ x, x = withinR n6 1048576 := ⟨_, rfl⟩
    obtain ⟨y6, hy⟩ : ∃ y, y = withinC n6 c6 1048576 := ⟨_, rfl⟩
    rw [← hx, ← hy]
    have HLa := Lib.hid hx
    have HY6 := Lib.hid hy
    have HTo6 := Lib.hid (HT5.out.old hb)
    have HRU6 := Lib.hid hru
    obtain ⟨W6, hW⟩ : ∃ W, W = ((w6.setCell ⟨p + 1, 2, none⟩ (.int .i64 (a : Int))).setCell ⟨p, 0, none⟩ (.slice ao6 r6.length cap6)).setCell ⟨p, 1, none⟩ (.int .i64 (y6 : Int)) := ⟨_, rfl⟩
    have HT6 : Hid (T9 w p W6 (k : Int) (e : Int) (a : Int) ⟨#[]⟩ ao6 cap6 r6 y6) := Lib.hid (by rw [hW]; exact (HTo6.out.seta _).rdr HRU6.out ((Below.refl _ _).setCell (by have := HTo6.out.lt; simp only; omega) _))
    have HW6 := Lib.hid hW
    obtain ⟨⟨a0, a1⟩, ⟨b0, b1, b2, b3⟩, fp, fq⟩ := HTo6.out.x
    have hx := HT6.out.x
    rw [hW] at hx
    obtain ⟨⟨e0, e1⟩, ⟨g0, g1, g2, g3⟩, _, _⟩ := hx
    clear hn hx hy hru hb hW
    go_wp2_with fail
    rw [← HW6.out]
    try clear a0 a1 b0 b1 b2 b3 fp fq
    try clear e0 e1 g0 g1 g2 g3
    refine (rtext_any w.heap.size ao6 cap6 r6 y6 64 (by decide) (by decide) W6 HT6.out.b.size HT6.out.ru H86.out).mono ?_
    rintro r w7 ⟨ov, d, ao7, cap7, r7, y7, n7, rr7, c7, rfl, hn, hf, hov, hru, hb⟩
    obtain ⟨aoV, capV, rfl, _, _, _⟩ := hov.reads.val
    have HN7 := Lib.hid hn
    have HF7 := Lib.hid hf
    have hal : Below w7.heap.size w7 (w7.alloc (.cells #[.slice ao7 r7.length cap7, .int .i64 (y7 : Int)] 75)) := (Below.refl _ _).alloc (Nat.le_refl _) _
    obtain ⟨V, hV⟩ : ∃ V, V = w7.alloc (.cells #[.slice ao7 r7.length cap7, .int .i64 (y7 : Int)] 75) := ⟨_, rfl⟩
    rw [← hV] at hal
    have hvb : V.heap[w7.heap.size]? = some (.cells #[.slice ao7 r7.length cap7, .int .i64 (y7 : Int)] 75 (0, 0)) := by rw [hV]; exact heap_alloc_new _ _
    have HTw := HT6.out.old hb
    have HTo7 := Lib.hid (HTw.old hal)
    have hru2 := hru.below (hal.mono HTw.b.size)
    have hov2 := hov.below (hal.mono HTw.b.size)
    obtain ⟨W, hWW⟩ : ∃ W, W = (V.setCell ⟨p, 0, none⟩ (.slice ao7 r7.length cap7)).setCell ⟨p, 1, none⟩ (.int .i64 (y7 : Int)) := ⟨_, rfl⟩
    have HTp : T9 w p W (k : Int) (e : Int) (a : Int) ⟨#[]⟩ ao7 cap7 r7 y7 := by rw [hWW]; exact HTo7.out.rdr hru2 (Below.refl _ _)
    have hbv : Below w.heap.size V W := by rw [hWW]; exact ((Below.refl _ _).setCell (by have := HTo7.out.lt; simp only; omega) _).setCell (by have := HTo7.out.lt; simp only; omega) _
    have hcv : (convert 22 9 (.slice aoV d.length capV)).run Tryz.prog W = .ok (.string (S8 d)) W := conv_reads _ _ _ (hov2.below hbv).reads
    rw [hWW] at hcv
    rw [hV] at hcv hvb
    obtain ⟨v0, v1, vf, _⟩ := blk2 hvb
    obtain ⟨W7, hW⟩ : ∃ W7, W7 = W.setCell ⟨p + 1, 3, none⟩ (.string (S8 d)) := ⟨_, rfl⟩
    have HT7 : Hid (T9 w p W7 (k : Int) (e : Int) (a : Int) (S8 d) ao7 cap7 r7 y7) := Lib.hid (by rw [hW]; exact HTp.sets _)
    obtain ⟨⟨a0, a1⟩, ⟨b0, b1, b2, b3⟩, fp, fq⟩ := HTo7.out.x
    have hx := HT7.out.x
    rw [hW, hWW] at hx
    rw [hV] at a0 a1 b0 b1 b2 b3 fp fq hx
    have HW7 : Hid (W7 = (((w7.alloc (.cells #[.slice ao7 r7.length cap7, .int .i64 (y7 : Int)] 75)).setCell ⟨p, 0, none⟩ (.slice ao7 r7.length cap7)).setCell ⟨p, 1, none⟩ (.int .i64 (y7 : Int))).setCell ⟨p + 1, 3, none⟩ (.string (S8 d))) := Lib.hid (by rw [hW, hWW, hV])
    obtain ⟨⟨e0, e1⟩, ⟨g0, g1, g2, g3⟩, _, _⟩ := hx
    clear hn hf hov hru hb hW hal hV HTw hru2 hov2 hWW HTp hbv
    go_wp2_with fail
    rw [← HW7.out]
    try clear a0 a1 b0 b1 b2 b3 fp fq
    try clear e0 e1 g0 g1 g2 g3
    refine (rend_any ao7 r7.length cap7 y7 W7).mono ?_
    rintro r w8 ⟨rfl, hb⟩
    have HT8 := Lib.hid (HT7.out.old hb)
    obtain ⟨ce, hce⟩ : ∃ x, x = endC r7.length y7 := ⟨_, rfl⟩
    rw [← hce]
    have HCE := Lib.hid hce
    clear hb hce
    have HTA : Hid (TAct t k e a d r7 y7) := Lib.hid (⟨n1, r1, c1, n5, r5, c5, r6, y6, HN1.out, HK.out, by rw [if_neg (by have := HK0.out; omega), ← HY1.out]; exact HN5.out, HLe.out, by rw [if_neg HK1.out]; exact ⟨n6, c6, by rw [← HY5.out]; exact HN6.out, HLa.out, HY6.out⟩, by rw [if_pos HK2.out]; exact ⟨n7, rr7, c7, HN7.out, HF7.out⟩⟩)
    obtain ⟨⟨a0, a1⟩, ⟨b0, b1, b2, b3⟩, fp, fq⟩ := HT8.out.x
    obtain ⟨r0, r1, r2, r3, rf⟩ := four_cells9 HT8.out.res
    by_cases hz : ce = 0
    rotate_left
    · have tz : ((ce : Int) != 0) = true := by simp; omega
      have tz2 : ((ce : Int) == 0) = false := by rw [beq_eq_false_iff_ne]; omega
      have HZ := Lib.hid hz
      obtain ⟨z0, z1, z2, z3, _⟩ := four_cells9 (four_set HT8.out.res (.int .i64 0) (.int .i64 0) (.int .i64 0) (.string ⟨#[]⟩))
      clear hz
      go_wp2
      refine bodyPost_ret (v := .tuple #[.agg #[.int .i64 0, .int .i64 0, .int .i64 0, .string ⟨#[]⟩], .int .i64 (ce : Int)]) (by simp [results, Tryz.results8, go_sem, z0, z1, z2, z3]) rfl ?_
      exact ⟨0, 0, 0, [], ce, rfl, ⟨t, 0, HFT.out, by rw [if_neg (by decide)]; exact ⟨k, _, _, _, _, _, HTA.out, by rw [← HCE.out, if_pos HZ.out]; exact ⟨rfl, rfl, rfl, rfl, rfl⟩⟩⟩, below_four HT8.out.b _ _ _ _⟩
    have HZ := Lib.hid hz
    rw [hz]
    clear hz
    go_wp2_with fail
    clear a0 a1 b0 b1 b2 b3 fp fq r0 r1 r2 r3 rf
    have hck := rrcheck_any (k : Int) (e : Int) (a : Int) (S8 d) w8
    obtain ⟨cc, hcc⟩ : ∃ x, x = rchk (k : Int) (e : Int) (a : Int) d.length := ⟨_, rfl⟩
    rw [show ((S8 d) : ByteArray).size = d.length from S8_size d, ← hcc] at hck
    have HCC := Lib.hid hcc
    clear hcc
    refine hck.mono ?_
    rintro r w9 ⟨rfl, hb⟩
    have HT9 := Lib.hid (HT8.out.old hb)
    clear hb hck
    obtain ⟨⟨a0, a1⟩, ⟨b0, b1, b2, b3⟩, fp, fq⟩ := HT9.out.x
    obtain ⟨r0, r1, r2, r3, rf⟩ := four_cells9 HT9.out.res
    have HLT2 := HT9.out.lt
    by_cases hz : cc = 0
    rotate_left
    · have tz : ((cc : Int) != 0) = true := by simp; omega
      have tz2 : ((cc : Int) == 0) = false := by rw [beq_eq_false_iff_ne]; omega
      have HZZ := Lib.hid hz
      obtain ⟨z0, z1, z2, z3, _⟩ := four_cells9 (four_set HT9.out.res (.int .i64 0) (.int .i64 0) (.int .i64 0) (.string ⟨#[]⟩))
      clear hz
      go_wp2
      refine bodyPost_ret (v := .tuple #[.agg #[.int .i64 0, .int .i64 0, .int .i64 0, .string ⟨#[]⟩], .int .i64 (cc : Int)]) (by simp [results, Tryz.results8, go_sem, z0, z1, z2, z3]) rfl ?_
      exact ⟨0, 0, 0, [], cc, rfl, ⟨t, 0, HFT.out, by rw [if_neg (by decide)]; exact ⟨k, _, _, _, _, _, HTA.out, by rw [← HCE.out, HZ.out, if_neg (by decide)]; exact (if_pos (show rchk (k : Int) (e : Int) (a : Int) d.length ≠ 0 by rw [← HCC.out]; exact HZZ.out)).mpr ⟨rfl, rfl, rfl, rfl, HCC.out⟩⟩⟩, below_four HT9.out.b _ _ _ _⟩
    have HZZ := Lib.hid hz
    rw [hz]
    clear hz
    obtain ⟨z0, z1, z2, z3, _⟩ := four_cells9 (four_set HT9.out.res (.int .i64 (k : Int)) (.int .i64 (e : Int)) (.int .i64 (a : Int)) (.string (S8 d)))
    go_wp2
    refine bodyPost_ret (v := .tuple #[.agg #[.int .i64 (k : Int), .int .i64 (e : Int), .int .i64 (a : Int), .string (S8 d)], .int .i64 0]) (by simp [results, Tryz.results8, go_sem, z0, z1, z2, z3]) rfl ?_
    exact ⟨k, e, a, d, 0, rfl, ⟨t, 0, HFT.out, by rw [if_neg (by decide)]; exact ⟨k, _, _, _, _, _, HTA.out, by rw [← HCE.out, HZ.out, if_neg (by decide)]; exact (if_neg (show ¬ rchk (k : Int) (e : Int) (a : Int) d.length ≠ 0 by rw [← HCC.out, HZZ.out]; decide)).mpr ⟨rfl, rfl, rfl, rfl, rfl⟩⟩⟩, below_four HT9.out.b _ _ _ _⟩
  · have p0 : ((k : Int) == 0) = false := by rw [beq_eq_false_iff_ne]; omega
    have HY0 : Hid (y1 = 0) := Lib.hid (HGO.out hk0)
    have q0 : ((y1 : Int) == 0) = true := by simp [HY0.out]
    have pG : (1 : Int) < (k : Int) := by omega
    have p2 : ((k : Int) == 2) = false := by rw [beq_eq_false_iff_ne]; omega
    have HK0 := Lib.hid hk0
    have HK1 := Lib.hid hk1
    have HK2 := Lib.hid hk2
    clear hk0 hk1 hk2
    go_wp2_with fail
    rw [← HW4.out]
    try clear a0 a1 b0 b1 b2 b3 fp fq
    try clear e0 e1 g0 g1 g2 g3
    refine (rwithin_any w.heap.size ao3 cap3 r1 y1 1099511627776 W4 HT4.out.b.size HT4.out.ru H81.out).mono ?_
    rintro r w5 ⟨n5, ao5, cap5, r5, c5, rfl, hn, hru, hb⟩
    have HN5 := Lib.hid hn
    have H85 : Hid (∀ y ∈ r5, y < 256) := Lib.hid fun y hy => H81.out y (num_sub hn y hy)
    obtain ⟨e, hx⟩ : ∃ x, x = withinR n5 1099511627776 := ⟨_, rfl⟩
    obtain ⟨y5, hy⟩ : ∃ y, y = withinC n5 c5 1099511627776 := ⟨_, rfl⟩
    rw [← hx, ← hy]
    have HLe := Lib.hid hx
    have HY5 := Lib.hid hy
    have HTo5 := Lib.hid (HT4.out.old hb)
    have HRU5 := Lib.hid hru
    obtain ⟨W5, hW⟩ : ∃ W, W = ((w5.setCell ⟨p + 1, 1, none⟩ (.int .i64 (e : Int))).setCell ⟨p, 0, none⟩ (.slice ao5 r5.length cap5)).setCell ⟨p, 1, none⟩ (.int .i64 (y5 : Int)) := ⟨_, rfl⟩
    have HT5 : Hid (T9 w p W5 (k : Int) (e : Int) 0 ⟨#[]⟩ ao5 cap5 r5 y5) := Lib.hid (by rw [hW]; exact (HTo5.out.sete _).rdr HRU5.out ((Below.refl _ _).setCell (by have := HTo5.out.lt; simp only; omega) _))
    have HW5 := Lib.hid hW
    obtain ⟨⟨a0, a1⟩, ⟨b0, b1, b2, b3⟩, fp, fq⟩ := HTo5.out.x
    have hx := HT5.out.x
    rw [hW] at hx
    obtain ⟨⟨e0, e1⟩, ⟨g0, g1, g2, g3⟩, _, _⟩ := hx
    clear hn hx hy hru hb hW
    go_wp2_with fail
    rw [← HW5.out]
    try clear a0 a1 b0 b1 b2 b3 fp fq
    try clear e0 e1 g0 g1 g2 g3
    refine (rwithin_any w.heap.size ao5 cap5 r5 y5 1048576 W5 HT5.out.b.size HT5.out.ru H85.out).mono ?_
    rintro r w6 ⟨n6, ao6, cap6, r6, c6, rfl, hn, hru, hb⟩
    have HN6 := Lib.hid hn
    have H86 : Hid (∀ y ∈ r6, y < 256) := Lib.hid fun y hy => H85.out y (num_sub hn y hy)
    obtain ⟨a, hx⟩ : ∃ x, x = withinR n6 1048576 := ⟨_, rfl⟩
    obtain ⟨y6, hy⟩ : ∃ y, y = withinC n6 c6 1048576 := ⟨_, rfl⟩
    rw [← hx, ← hy]
    have HLa := Lib.hid hx
    have HY6 := Lib.hid hy
    have HTo6 := Lib.hid (HT5.out.old hb)
    have HRU6 := Lib.hid hru
    obtain ⟨W6, hW⟩ : ∃ W, W = ((w6.setCell ⟨p + 1, 2, none⟩ (.int .i64 (a : Int))).setCell ⟨p, 0, none⟩ (.slice ao6 r6.length cap6)).setCell ⟨p, 1, none⟩ (.int .i64 (y6 : Int)) := ⟨_, rfl⟩
    have HT6 : Hid (T9 w p W6 (k : Int) (e : Int) (a : Int) ⟨#[]⟩ ao6 cap6 r6 y6) := Lib.hid (by rw [hW]; exact (HTo6.out.seta _).rdr HRU6.out ((Below.refl _ _).setCell (by have := HTo6.out.lt; simp only; omega) _))
    have HW6 := Lib.hid hW
    obtain ⟨⟨a0, a1⟩, ⟨b0, b1, b2, b3⟩, fp, fq⟩ := HTo6.out.x
    have hx := HT6.out.x
    rw [hW] at hx
    obtain ⟨⟨e0, e1⟩, ⟨g0, g1, g2, g3⟩, _, _⟩ := hx
    clear hn hx hy hru hb hW
    go_wp2_with fail
    rw [← HW6.out]
    try clear a0 a1 b0 b1 b2 b3 fp fq
    try clear e0 e1 g0 g1 g2 g3
    refine (rend_any ao6 r6.length cap6 y6 W6).mono ?_
    rintro r w7 ⟨rfl, hb⟩
    have HT7 := Lib.hid (HT6.out.old hb)
    obtain ⟨ce, hce⟩ : ∃ x, x = endC r6.length y6 := ⟨_, rfl⟩
    rw [← hce]
    have HCE := Lib.hid hce
    clear hb hce
    have HTA : Hid (TAct t k e a [] r6 y6) := Lib.hid (⟨n1, r1, c1, n5, r5, c5, r6, y6, HN1.out, HK.out, by rw [if_neg (by have := HK0.out; omega), ← HY1.out]; exact HN5.out, HLe.out, by rw [if_neg HK1.out]; exact ⟨n6, c6, by rw [← HY5.out]; exact HN6.out, HLa.out, HY6.out⟩, by rw [if_neg HK2.out]; exact ⟨rfl, rfl, rfl⟩⟩)
    obtain ⟨⟨a0, a1⟩, ⟨b0, b1, b2, b3⟩, fp, fq⟩ := HT7.out.x
    obtain ⟨r0, r1, r2, r3, rf⟩ := four_cells9 HT7.out.res
    by_cases hz : ce = 0
    rotate_left
    · have tz : ((ce : Int) != 0) = true := by simp; omega
      have tz2 : ((ce : Int) == 0) = false := by rw [beq_eq_false_iff_ne]; omega
      have HZ := Lib.hid hz
      obtain ⟨z0, z1, z2, z3, _⟩ := four_cells9 (four_set HT7.out.res (.int .i64 0) (.int .i64 0) (.int .i64 0) (.string ⟨#[]⟩))
      clear hz
      go_wp2
      refine bodyPost_ret (v := .tuple #[.agg #[.int .i64 0, .int .i64 0, .int .i64 0, .string ⟨#[]⟩], .int .i64 (ce : Int)]) (by simp [results, Tryz.results8, go_sem, z0, z1, z2, z3]) rfl ?_
      exact ⟨0, 0, 0, [], ce, rfl, ⟨t, 0, HFT.out, by rw [if_neg (by decide)]; exact ⟨k, _, _, _, _, _, HTA.out, by rw [← HCE.out, if_pos HZ.out]; exact ⟨rfl, rfl, rfl, rfl, rfl⟩⟩⟩, below_four HT7.out.b _ _ _ _⟩
    have HZ := Lib.hid hz
    rw [hz]
    clear hz
    go_wp2_with fail
    clear a0 a1 b0 b1 b2 b3 fp fq r0 r1 r2 r3 rf
    have hck := rrcheck_any (k : Int) (e : Int) (a : Int) ⟨#[]⟩ w7
    obtain ⟨cc, hcc⟩ : ∃ x, x = rchk (k : Int) (e : Int) (a : Int) 0 := ⟨_, rfl⟩
    rw [show (⟨#[]⟩ : ByteArray).size = 0 from rfl, ← hcc] at hck
    have HCC := Lib.hid hcc
    clear hcc
    refine hck.mono ?_
    rintro r w8 ⟨rfl, hb⟩
    have HT8 := Lib.hid (HT7.out.old hb)
    clear hb hck
    obtain ⟨⟨a0, a1⟩, ⟨b0, b1, b2, b3⟩, fp, fq⟩ := HT8.out.x
    obtain ⟨r0, r1, r2, r3, rf⟩ := four_cells9 HT8.out.res
    have HLT2 := HT8.out.lt
    by_cases hz : cc = 0
    rotate_left
    · have tz : ((cc : Int) != 0) = true := by simp; omega
      have tz2 : ((cc : Int) == 0) = false := by rw [beq_eq_false_iff_ne]; omega
      have HZZ := Lib.hid hz
      obtain ⟨z0, z1, z2, z3, _⟩ := four_cells9 (four_set HT8.out.res (.int .i64 0) (.int .i64 0) (.int .i64 0) (.string ⟨#[]⟩))
      clear hz
      go_wp2
      refine bodyPost_ret (v := .tuple #[.agg #[.int .i64 0, .int .i64 0, .int .i64 0, .string ⟨#[]⟩], .int .i64 (cc : Int)]) (by simp [results, Tryz.results8, go_sem, z0, z1, z2, z3]) rfl ?_
      exact ⟨0, 0, 0, [], cc, rfl, ⟨t, 0, HFT.out, by rw [if_neg (by decide)]; exact ⟨k, _, _, _, _, _, HTA.out, by rw [← HCE.out, HZ.out, if_neg (by decide)]; exact (if_pos (show rchk (k : Int) (e : Int) (a : Int) 0 ≠ 0 by rw [← HCC.out]; exact HZZ.out)).mpr ⟨rfl, rfl, rfl, rfl, HCC.out⟩⟩⟩, below_four HT8.out.b _ _ _ _⟩
    have HZZ := Lib.hid hz
    rw [hz]
    clear hz
    obtain ⟨z0, z1, z2, z3, _⟩ := four_cells9 (four_set HT8.out.res (.int .i64 (k : Int)) (.int .i64 (e : Int)) (.int .i64 (a : Int)) (.string ⟨#[]⟩))
    go_wp2
    refine bodyPost_ret (v := .tuple #[.agg #[.int .i64 (k : Int), .int .i64 (e : Int), .int .i64 (a : Int), .string ⟨#[]⟩], .int .i64 0]) (by simp [results, Tryz.results8, go_sem, z0, z1, z2, z3]) rfl ?_
    exact ⟨k, e, a, [], 0, rfl, ⟨t, 0, HFT.out, by rw [if_neg (by decide)]; exact ⟨k, _, _, _, _, _, HTA.out, by rw [← HCE.out, HZ.out, if_neg (by decide)]; exact (if_neg (show ¬ rchk (k : Int) (e : Int) (a : Int) 0 ≠ 0 by rw [← HCC.out, HZZ.out]; decide)).mpr ⟨rfl, rfl, rfl, rfl, rfl⟩⟩⟩, below_four HT8.out.b _ _ _ _⟩
end Go.Proofs.YtiaijpknnomlnaaGreat

namespace Go.Proofs.YtiaijpknnomlnaaGreat
open Go.RowKit

/-- What follows of a unit's entries, where some are taken. -/
def Cont (m low : Nat) (rest0 : List Nat) (c0 k f : Nat) (rest : List Nat) (l : Im IC) : Prop := ∀ l2 fin c2, TEs (m - k) f rest 0 l2 fin c2 → TEs m low rest0 c0 (if c2 = 0 then l ++ l2 else []) fin c2
theorem cont_start {m low : Nat} {rest0 : List Nat} : Cont m low rest0 0 0 low rest0 [] := fun l2 fin c2 h => by
  rw [Nat.sub_zero] at h
  by_cases hc : c2 = 0
  · rw [if_pos hc]; exact h
  · rw [if_neg hc, ← h.bad hc]; exact h
section
variable {m low c0 k f : Nat} {rest0 rest : List Nat} {l : Im IC}
theorem Cont.next {n1 kk : Nat} {r1 d fin3 : List Nat} (h : Cont m low rest0 c0 k f rest l) (hk : k < m) (hn : NumRel rest 0 n1 r1 0) (ha : addC f n1 0 = 0) (ht : TCell r1 0 kk d 0 fin3) :
    Cont m low rest0 c0 (k + 1) (f + n1 + 1) fin3 (l ++ [(((f + n1 : Nat) : Int), ((kk : Int), d))]) := fun l2 fin c2 h2 => by
  have hmk : m - k = (m - (k + 1)) + 1 := by omega
  have h3 := h (if c2 = 0 then (((f + n1 : Nat) : Int), ((kk : Int), d)) :: l2 else []) fin c2 (by
    rw [hmk]
    exact ⟨n1, r1, 0, hn, .inr ⟨ha, kk, d, 0, _, ht, .inr ⟨rfl, l2, h2, rfl⟩⟩⟩)
  by_cases hc : c2 = 0
  · rw [if_pos hc] at h3 ⊢
    rw [if_pos hc] at h3
    rw [List.append_assoc]
    exact h3
  · rw [if_neg hc] at h3 ⊢
    exact h3
theorem Cont.stop {n1 c1 : Nat} {r1 : List Nat} (h : Cont m low rest0 c0 k f rest l) (hk : k < m) (hn : NumRel rest 0 n1 r1 c1) (ha : addC f n1 c1 ≠ 0) : TEs m low rest0 c0 [] [] (addC f n1 c1) := by
  have hmk : m - k = (m - (k + 1)) + 1 := by omega
  have h3 := h [] [] (addC f n1 c1) (by rw [hmk]; exact ⟨n1, r1, c1, hn, .inl ⟨ha, rfl, rfl, rfl⟩⟩)
  rw [if_neg ha] at h3
  exact h3
theorem Cont.stopC {n1 kk c3 : Nat} {r1 r3 d : List Nat} (h : Cont m low rest0 c0 k f rest l) (hk : k < m) (hn : NumRel rest 0 n1 r1 0) (ha : addC f n1 0 = 0) (ht : TCell r1 0 kk d c3 r3) (hc : c3 ≠ 0) : TEs m low rest0 c0 [] [] c3 := by
  have hmk : m - k = (m - (k + 1)) + 1 := by omega
  have h3 := h [] [] c3 (by rw [hmk]; exact ⟨n1, r1, 0, hn, .inr ⟨ha, kk, d, c3, r3, ht, .inl ⟨hc, rfl, rfl, rfl⟩⟩⟩)
  rw [if_neg hc] at h3
  exact h3
theorem Cont.done (h : Cont m low rest0 c0 k f rest l) (hk : k = m) : TEs m low rest0 c0 l rest 0 := by
  have h3 := h [] rest 0 (by rw [hk, Nat.sub_self]; exact ⟨rfl, rfl, rfl⟩)
  rw [if_pos rfl, List.append_nil] at h3
  exact h3
end

theorem three_cellsT {w : World} {p : Nat} {c0 c1 c2 : Value} {e : TypeId} (h : w.heap[p]? = some (.cells #[c0, c1, c2] e (0, 0))) :
    w.cell? ⟨p, 0, none⟩ = some c0 ∧ w.cell? ⟨p, 1, none⟩ = some c1 ∧ w.cell? ⟨p, 2, none⟩ = some c2 ∧ ∀ i, w.frozen? ⟨p, i, none⟩ = false :=
  ⟨by rw [cell_of_row _ _ 0 _ _ _ h]; rfl, by rw [cell_of_row _ _ 1 _ _ _ h]; rfl, by rw [cell_of_row _ _ 2 _ _ _ h]; rfl, fun i => frozen_of_row _ _ i _ _ h⟩
/-- The boxes of the document's own TakeUnit: the result's, none's, the reader's, the unit's. -/
structure T10 (w : World) (p : Nat) (W : World) (e lo : Int) (lv rs : Value) (c : Nat) : Prop where
  res : W.heap[w.heap.size]? = some (.cells #[.int .i64 0, .int .i64 0, .slice none 0 0] 41 (0, 0))
  non : W.heap[w.heap.size + 1]? = some (.cells #[.int .i64 0, .int .i64 0, .slice none 0 0] 41 (0, 0))
  rd : W.heap[p]? = some (.cells #[rs, .int .i64 (c : Int)] 75 (0, 0))
  un : W.heap[p + 1]? = some (.cells #[.int .i64 e, .int .i64 lo, lv] 41 (0, 0))
  lt : w.heap.size + 1 < p
  b : Below w.heap.size w W
section
variable {w W W' : World} {p : Nat} {e lo : Int} {lv rs : Value} {c : Nat}
theorem T10.lt2 (h : T10 w p W e lo lv rs c) : p + 1 < W.heap.size := (Array.getElem?_eq_some_iff.1 h.un).1
theorem T10.low {B : Nat} (h : T10 w p W e lo lv rs c) (hb : Below B W W') (hB : p + 1 < B) : T10 w p W' e lo lv rs c := by
  have := h.lt
  exact ⟨(hb.block _ (by omega)).trans h.res, (hb.block _ (by omega)).trans h.non, (hb.block _ (by omega)).trans h.rd, (hb.block _ hB).trans h.un, h.lt, h.b.trans (hb.mono (by omega))⟩
theorem T10.old (h : T10 w p W e lo lv rs c) (hb : Below W.heap.size W W') : T10 w p W' e lo lv rs c := h.low hb h.lt2
theorem T10.sete (h : T10 w p W e lo lv rs c) (x : Int) : T10 w p (W.setCell ⟨p + 1, 0, none⟩ (.int .i64 x)) x lo lv rs c := by
  have := h.lt
  exact ⟨(set_other W (by omega) _ _).trans h.res, (set_other W (by omega) _ _).trans h.non, (set_other W (by omega) _ _).trans h.rd, heap_setCell_same _ _ 0 _ _ _ h.un, h.lt, t9_put h.b (by omega) _ _⟩
theorem T10.setl (h : T10 w p W e lo lv rs c) (x : Int) : T10 w p (W.setCell ⟨p + 1, 1, none⟩ (.int .i64 x)) e x lv rs c := by
  have := h.lt
  exact ⟨(set_other W (by omega) _ _).trans h.res, (set_other W (by omega) _ _).trans h.non, (set_other W (by omega) _ _).trans h.rd, heap_setCell_same _ _ 1 _ _ _ h.un, h.lt, t9_put h.b (by omega) _ _⟩
theorem T10.setv (h : T10 w p W e lo lv rs c) (x : Value) : T10 w p (W.setCell ⟨p + 1, 2, none⟩ x) e lo x rs c := by
  have := h.lt
  exact ⟨(set_other W (by omega) _ _).trans h.res, (set_other W (by omega) _ _).trans h.non, (set_other W (by omega) _ _).trans h.rd, heap_setCell_same _ _ 2 _ _ _ h.un, h.lt, t9_put h.b (by omega) _ _⟩
theorem T10.rdr (h : T10 w p W e lo lv rs c) (x : Value) (c' : Nat) : T10 w p ((W.setCell ⟨p, 0, none⟩ x).setCell ⟨p, 1, none⟩ (.int .i64 (c' : Int))) e lo lv x c' := by
  have := h.lt
  exact ⟨(set_other _ (by omega) _ _).trans ((set_other W (by omega) _ _).trans h.res), (set_other _ (by omega) _ _).trans ((set_other W (by omega) _ _).trans h.non), heap_setCell_same _ _ 1 _ _ _ (heap_setCell_same _ _ 0 _ _ _ h.rd), (set_other _ (by omega) _ _).trans ((set_other W (by omega) _ _).trans h.un), h.lt, t9_put (t9_put h.b (by omega) _ _) (by omega) _ _⟩
/-- Another box, far behind. -/
theorem T10.far (h : T10 w p W e lo lv rs c) {q : Nat} (hq : p + 1 < q) (i : Nat) (x : Value) : T10 w p (W.setCell ⟨q, i, none⟩ x) e lo lv rs c :=
  h.low (B := q) ((Below.refl q W).setCell (by simp) _) hq
theorem T10.x (h : T10 w p W e lo lv rs c) : (W.cell? ⟨p, 0, none⟩ = some rs ∧ W.cell? ⟨p, 1, none⟩ = some (.int .i64 (c : Int))) ∧
    (W.cell? ⟨p + 1, 0, none⟩ = some (.int .i64 e) ∧ W.cell? ⟨p + 1, 1, none⟩ = some (.int .i64 lo) ∧ W.cell? ⟨p + 1, 2, none⟩ = some lv) ∧
    (∀ i, W.frozen? ⟨p, i, none⟩ = false) ∧ (∀ i, W.frozen? ⟨p + 1, i, none⟩ = false) := by
  obtain ⟨x0, x1, x2, xf⟩ := three_cellsT h.un
  exact ⟨⟨by rw [cell_of_row _ _ 0 _ _ _ h.rd]; rfl, by rw [cell_of_row _ _ 1 _ _ _ h.rd]; rfl⟩, ⟨x0, x1, x2⟩, fun i => frozen_of_row _ _ i _ _ h.rd, xf⟩
end
/-- A result of three cells. -/
theorem res_three {w W : World} {x0 x1 x2 : Value} (h : W.heap[w.heap.size]? = some (.cells #[x0, x1, x2] 41 (0, 0))) (hb : Below w.heap.size w W) (a b c : Value) :
    ((((W.setCell ⟨w.heap.size, 0, none⟩ a).setCell ⟨w.heap.size, 1, none⟩ b).setCell ⟨w.heap.size, 2, none⟩ c).cell? ⟨w.heap.size, 0, none⟩ = some a ∧
     (((W.setCell ⟨w.heap.size, 0, none⟩ a).setCell ⟨w.heap.size, 1, none⟩ b).setCell ⟨w.heap.size, 2, none⟩ c).cell? ⟨w.heap.size, 1, none⟩ = some b ∧
     (((W.setCell ⟨w.heap.size, 0, none⟩ a).setCell ⟨w.heap.size, 1, none⟩ b).setCell ⟨w.heap.size, 2, none⟩ c).cell? ⟨w.heap.size, 2, none⟩ = some c) ∧
    Below w.heap.size w (((W.setCell ⟨w.heap.size, 0, none⟩ a).setCell ⟨w.heap.size, 1, none⟩ b).setCell ⟨w.heap.size, 2, none⟩ c) := by
  obtain ⟨z0, z1, z2, _⟩ := three_cellsT (tri_blk h a b c)
  exact ⟨⟨z0, z1, z2⟩, t9_put (t9_put (t9_put hb (Nat.le_refl _) _ _) (Nat.le_refl _) _ _) (Nat.le_refl _) _ _⟩
theorem DocO.setB {w : World} {base q : Nat} {v : Value} {l : Im IC} (h : DocO w base v l) (hq : q < base) (i : Nat) (x : Value) : DocO (w.setCell ⟨q, i, none⟩ x) base v l :=
  RecOwn.keep h fun j hj => set_other w (by have := (RecOwn.block h hj).1; omega) i x
theorem DocO.setT {w : World} {base q : Nat} {v : Value} {l : Im IC} (h : DocO w base v l) {cs : Array Value} {T : TypeId} (hq : w.heap[q]? = some (.cells cs T (0, 0))) (hT : T ≠ 93) (i : Nat) (x : Value) : DocO (w.setCell ⟨q, i, none⟩ x) base v l :=
  RecOwn.keep h fun j hj => set_other w (by
    intro e
    obtain ⟨_, _, cs2, h2⟩ := RecOwn.block h hj
    rw [e, hq] at h2
    cases h2
    exact hT rfl) i x

/-- How far the document's own loop has come. -/
structure DLI (w : World) (p bs m low : Nat) (rest0 : List Nat) (c0 : Nat) (wr : World) (e : Int) (lv : Value) (k f : Nat) (ob : Bool) (l : Im IC) (ao : Option Addr) (cap n : Nat) (rest : List Nat) (c : Nat) : Prop where
  bx : T10 w p wr e (low : Int) lv (.slice ao n cap) c
  ent : DocO wr bs lv l
  len : l.length = k
  kle : k ≤ m
  pb : p + 1 < bs
  sz : bs ≤ wr.heap.size
  fle : f ≤ 1048577
  st : (c = 0 ∧ f ≤ 1048576 ∧ n = rest.length ∧ RdU wr w.heap.size (.slice ao n cap) rest ∧ (∀ y ∈ rest, y < 256) ∧ ob = l.any badK ∧ Cont m low rest0 c0 k f rest l) ∨ (c ≠ 0 ∧ TEs m low rest0 c0 [] [] c)
/-- What the document's own TakeUnit answers. -/
def RTUnit (b : List Nat) (w : World) (r : Ending) (w' : World) : Prop :=
  Below w.heap.size w w' ∧ ∃ (U : US) (c : Nat), RUnit b U c ∧ ((c ≠ 0 ∧ r = .returned (.tuple #[.agg #[.int .i64 0, .int .i64 0, .slice none 0 0], .int .i64 (c : Int)])) ∨
    (c = 0 ∧ ∃ lv, r = .returned (.tuple #[docU U lv, .int .i64 0]) ∧ DocU w' (fun j => w.heap.size ≤ j) lv U))
theorem any_snoc (l : Im IC) (f : Int × IC) : (l ++ [f]).any badK = (l.any badK || badK f) := by simp
theorem size_setT (W : World) (a : Addr) (x : Value) : (W.setCell a x).heap.size = W.heap.size := by simp
theorem addC_ok {f n : Nat} (h : f + n < 1048576) : addC f n 0 = 0 := by
  unfold addC
  rw [if_neg (by decide), if_neg (by omega)]
theorem meas_u {k n : Nat} (h : k < n) : n - (intOf (.int .u64 ((k + 1 : Nat) : Int))).toNat < n - (intOf (.int .u64 (k : Int))).toNat := by
  show n - (((k + 1 : Nat) : Int)).toNat < n - ((k : Int)).toNat
  omega
theorem wrap_sum20 {f n g : Nat} (h : g = f + n) (hg : g ≤ 1048576) : wrap64 ((f : Int) + (n : Int)) = (g : Int) := by simp only [wrap64]; omega
theorem wrapU_succ (k : Nat) (h : k ≤ 65536) : IntKind.u64.wrap ((k : Int) + 1) = ((k + 1 : Nat) : Int) := by rw [IntKind.wrap_u64]; omega

set_option maxHeartbeats 16000000 in
set_option maxRecDepth 100000 in
theorem rtakeUnit_any (v : Value) (b : List Nat) (w : World) (hr : Reads w .u8 v b) (hb : ∀ y ∈ b, y < 256) : Calls Tryz.prog 12 #[v] w (RTUnit b w) := by
  obtain ⟨ao, cap, rfl, _, _, _⟩ := hr.val
  obtain ⟨W2, hW2⟩ : ∃ W2, W2 = (w.alloc (.cells #[.int .i64 0, .int .i64 0, .slice none 0 0] 41)).alloc (.cells #[.int .i64 0, .int .i64 0, .slice none 0 0] 41) := ⟨_, rfl⟩
  have hb2 : Below w.heap.size w W2 := by rw [hW2]; exact ((Below.refl _ _).alloc (Nat.le_refl _) _).alloc (by simp) _
  have hx2 : W2.heap[w.heap.size]? = some (.cells #[.int .i64 0, .int .i64 0, .slice none 0 0] 41 (0, 0)) := by rw [hW2, Below.heap_alloc _ _ _ (by simp)]; exact heap_alloc_new _ _
  have hy2 : W2.heap[w.heap.size + 1]? = some (.cells #[.int .i64 0, .int .i64 0, .slice none 0 0] 41 (0, 0)) := by rw [hW2]; exact allocU_at _ (by simp)
  have HONE := Lib.hid (rone_any _ b W2 _ (hr.at'.old hb2) hb)
  have HB2 := Lib.hid hb2
  have HX2 := Lib.hid hx2
  have HY2 := Lib.hid hy2
  have HBB := Lib.hid hb
  have HW2 := Lib.hid hW2
  generalize b.length = nb at *
  clear hr hb hb2 hx2 hy2 hW2
  go_enter Tryz.func12, Tryz.ntmps12
  go_wp2_with fail
  rw [← HW2.out]
  refine HONE.out.mono ?_
  rintro r w3 ⟨v3, t, c0, rfl, ⟨t1, hfo⟩, hfz, hat, hb3, hbk⟩
  obtain ⟨ao3, n3, cap3, rfl, hbk⟩ := hbk
  obtain ⟨ao3', cap3', hv, _, _, _⟩ := hat.reads.val
  obtain ⟨rfl, rfl, rfl⟩ : ao3 = ao3' ∧ n3 = t.length ∧ cap3 = cap3' := by simpa using hv
  have HFO := Lib.hid hfo
  have HFZ := Lib.hid hfz
  have HB3 : Hid (Below w.heap.size w w3) := Lib.hid (HB2.out.trans (hb3.mono HB2.out.size))
  have HX3 := Lib.hid ((hb3.block _ (Array.getElem?_eq_some_iff.1 HX2.out).1).trans HX2.out)
  have HY3 := Lib.hid ((hb3.block _ (Array.getElem?_eq_some_iff.1 HY2.out).1).trans HY2.out)
  have HRU : Hid (RdU w3 w.heap.size (.slice ao3 t.length cap3) t) := Lib.hid ⟨hat.reads, ao3, t.length, cap3, rfl, hbk.imp id fun ⟨b, off, h1, h2, _⟩ => ⟨b, off, h1, h2⟩⟩
  obtain ⟨x0, x1, x2, xf⟩ := three_cellsT HX3.out
  obtain ⟨y0, y1, y2, yf⟩ := three_cellsT HY3.out
  clear hfo hfz hat hb3 hbk hv
  by_cases hz : c0 = 0
  rotate_left
  · have tz : ((c0 : Int) != 0) = true := by simp; omega
    have tz2 : ((c0 : Int) == 0) = false := by rw [beq_eq_false_iff_ne]; omega
    have HZ := Lib.hid hz
    obtain ⟨⟨z0, z1, z2⟩, hbz⟩ := res_three HX3.out HB3.out (.int .i64 0) (.int .i64 0) (.slice none 0 0)
    have HBZ := Lib.hid hbz
    clear hz hbz
    go_wp2
    refine bodyPost_ret (v := .tuple #[.agg #[.int .i64 0, .int .i64 0, .slice none 0 0], .int .i64 (c0 : Int)]) (by simp [results, Tryz.results12, go_sem, z0, z1, z2]) rfl ?_
    exact ⟨HBZ.out, unew, c0, ⟨t1, c0, HFO.out, by rw [if_pos HZ.out]⟩, .inl ⟨HZ.out, rfl⟩⟩
  subst hz
  have HFT : Hid (FO b t 0) := Lib.hid (HFZ.out rfl)
  have H80 : Hid (∀ y ∈ t, y < 256) := Lib.hid (fo_good HBB.out HFT.out rfl).1
  obtain ⟨W4, hW4⟩ : ∃ W, W = (w3.alloc (.cells #[.slice ao3 t.length cap3, .int .i64 0] 75)).alloc (.cells #[.int .i64 0, .int .i64 0, .slice none 0 0] 41) := ⟨_, rfl⟩
  have hb4 : Below w3.heap.size w3 W4 := by rw [hW4]; exact ((Below.refl _ _).alloc (Nat.le_refl _) _).alloc (by simp) _
  have hx4 : W4.heap[w3.heap.size]? = some (.cells #[.slice ao3 t.length cap3, .int .i64 ((0 : Nat) : Int)] 75 (0, 0)) := by rw [hW4, Below.heap_alloc _ _ _ (by simp)]; exact heap_alloc_new _ _
  have hy4 : W4.heap[w3.heap.size + 1]? = some (.cells #[.int .i64 0, .int .i64 0, .slice none 0 0] 41 (0, 0)) := by rw [hW4]; exact allocU_at _ (by simp)
  have HW4 := Lib.hid hW4
  have HT4 : Hid (T10 w w3.heap.size W4 0 0 (.slice none 0 0) (.slice ao3 t.length cap3) 0) := Lib.hid ⟨(hb4.block _ (Array.getElem?_eq_some_iff.1 HX3.out).1).trans HX3.out, (hb4.block _ (Array.getElem?_eq_some_iff.1 HY3.out).1).trans HY3.out, hx4, hy4, (Array.getElem?_eq_some_iff.1 HY3.out).1, HB3.out.trans (hb4.mono HB3.out.size)⟩
  have HRU4 := Lib.hid (HRU.out.below (hb4.mono HB3.out.size))
  obtain ⟨p, hp⟩ : ∃ p, p = w3.heap.size := ⟨_, rfl⟩
  rw [← hp] at HT4
  have HP := Lib.hid hp
  clear hW4 hb4 hx4 hy4 hp
  go_wp2_with fail
  rw [← HW4.out, ← HP.out]
  clear x0 x1 x2 xf y0 y1 y2 yf
  refine (rwithin_any w.heap.size ao3 cap3 t 0 1099511627776 W4 HT4.out.b.size HRU4.out H80.out).mono ?_
  rintro r w5 ⟨n5, ao5, cap5, r5, c5, rfl, hn5, hru5, hb5⟩
  have HN5 := Lib.hid hn5
  have H85 : Hid (∀ y ∈ r5, y < 256) := Lib.hid fun y hy => H80.out y (num_sub hn5 y hy)
  obtain ⟨e, he⟩ : ∃ x, x = withinR n5 1099511627776 := ⟨_, rfl⟩
  obtain ⟨d5, hd5⟩ : ∃ y, y = withinC n5 c5 1099511627776 := ⟨_, rfl⟩
  rw [← he, ← hd5]
  have HE := Lib.hid he
  have HD5 := Lib.hid hd5
  have HTo := Lib.hid (HT4.out.old hb5)
  obtain ⟨W5, hW5⟩ : ∃ W, W = ((w5.setCell ⟨p + 1, 0, none⟩ (.int .i64 (e : Int))).setCell ⟨p, 0, none⟩ (.slice ao5 r5.length cap5)).setCell ⟨p, 1, none⟩ (.int .i64 (d5 : Int)) := ⟨_, rfl⟩
  have HT5 : Hid (T10 w p W5 (e : Int) 0 (.slice none 0 0) (.slice ao5 r5.length cap5) d5) := Lib.hid (by rw [hW5]; exact (HTo.out.sete _).rdr _ _)
  have HRU5 : Hid (RdU W5 w.heap.size (.slice ao5 r5.length cap5) r5) := Lib.hid (by rw [hW5]; have := HTo.out.lt; exact hru5.below ((((Below.refl _ _).setCell (by simp only; omega) _).setCell (by simp only; omega) _).setCell (by simp only; omega) _))
  have HW5 := Lib.hid hW5
  obtain ⟨⟨a0, a1⟩, ⟨b0, b1, b2⟩, fp, fq⟩ := HTo.out.x
  have hx := HT5.out.x
  rw [hW5] at hx
  obtain ⟨⟨e0, e1⟩, ⟨g0, g1, g2⟩, _, _⟩ := hx
  clear hn5 he hd5 hru5 hb5 hW5
  go_wp2_with fail
  rw [← HW5.out]
  clear a0 a1 b0 b1 b2 fp fq e0 e1 g0 g1 g2 HTo
  refine (rwithin_any w.heap.size ao5 cap5 r5 d5 1048576 W5 HT5.out.b.size HRU5.out H85.out).mono ?_
  rintro r w6 ⟨n6, ao6, cap6, r6, c6, rfl, hn6, hru6, hb6⟩
  have HN6 := Lib.hid hn6
  have H86 : Hid (∀ y ∈ r6, y < 256) := Lib.hid fun y hy => H85.out y (num_sub hn6 y hy)
  have HLW : Hid (withinR n6 1048576 ≤ 1048576) := Lib.hid (withinR_le _ _)
  obtain ⟨lw, hl⟩ : ∃ x, x = withinR n6 1048576 := ⟨_, rfl⟩
  obtain ⟨d6, hd6⟩ : ∃ y, y = withinC n6 c6 1048576 := ⟨_, rfl⟩
  rw [← hl, ← hd6]
  rw [← hl] at HLW
  have HL := Lib.hid hl
  have HD6 := Lib.hid hd6
  have HTo := Lib.hid (HT5.out.old hb6)
  obtain ⟨W6, hW6⟩ : ∃ W, W = ((w6.setCell ⟨p + 1, 1, none⟩ (.int .i64 (lw : Int))).setCell ⟨p, 0, none⟩ (.slice ao6 r6.length cap6)).setCell ⟨p, 1, none⟩ (.int .i64 (d6 : Int)) := ⟨_, rfl⟩
  have HT6 : Hid (T10 w p W6 (e : Int) (lw : Int) (.slice none 0 0) (.slice ao6 r6.length cap6) d6) := Lib.hid (by rw [hW6]; exact (HTo.out.setl _).rdr _ _)
  have HRU6 : Hid (RdU W6 w.heap.size (.slice ao6 r6.length cap6) r6) := Lib.hid (by rw [hW6]; have := HTo.out.lt; exact hru6.below ((((Below.refl _ _).setCell (by simp only; omega) _).setCell (by simp only; omega) _).setCell (by simp only; omega) _))
  have HW6 := Lib.hid hW6
  obtain ⟨⟨a0, a1⟩, ⟨b0, b1, b2⟩, fp, fq⟩ := HTo.out.x
  have hx := HT6.out.x
  rw [hW6] at hx
  obtain ⟨⟨e0, e1⟩, ⟨g0, g1, g2⟩, _, _⟩ := hx
  clear hn6 hl hd6 hru6 hb6 hW6
  go_wp2_with fail
  rw [← HW6.out]
  clear a0 a1 b0 b1 b2 fp fq e0 e1 g0 g1 g2 HTo
  refine (rnumber_any w.heap.size ao6 cap6 r6 d6 W6 HT6.out.b.size HRU6.out H86.out).mono ?_
  rintro r w7 ⟨n7, ao7, cap7, r7, c7, rfl, hn7, hru7, hb7⟩
  have HN7 := Lib.hid hn7
  have H87 : Hid (∀ y ∈ r7, y < 256) := Lib.hid fun y hy => H86.out y (num_sub hn7 y hy)
  have HZ7 : Hid (c7 ≠ 0 → n7 = 0) := Lib.hid fun h => NumRel.n_zero hn7 h
  have HTo := Lib.hid (HT6.out.old hb7)
  obtain ⟨W7, hW7⟩ : ∃ W, W = (w7.setCell ⟨p, 0, none⟩ (.slice ao7 r7.length cap7)).setCell ⟨p, 1, none⟩ (.int .i64 (c7 : Int)) := ⟨_, rfl⟩
  have HT7 : Hid (T10 w p W7 (e : Int) (lw : Int) (.slice none 0 0) (.slice ao7 r7.length cap7) c7) := Lib.hid (by rw [hW7]; exact HTo.out.rdr _ _)
  have HRU7 : Hid (RdU W7 w.heap.size (.slice ao7 r7.length cap7) r7) := Lib.hid (by rw [hW7]; have := HTo.out.lt; exact hru7.below (((Below.refl _ _).setCell (by simp only; omega) _).setCell (by simp only; omega) _))
  have HW7 := Lib.hid hW7
  obtain ⟨⟨a0, a1⟩, ⟨b0, b1, b2⟩, fp, fq⟩ := HTo.out.x
  clear hn7 hru7 hb7 hW7
  obtain ⟨X, hX⟩ : ∃ X, X = decide (c7 = 0 ∧ 65536 < n7) := ⟨_, rfl⟩
  have HX := Lib.hid hX
  clear hX
  go_upto_region 10 with fail
  rw [← HW7.out]
  clear a0 a1 b0 b1 b2 fp fq HTo
  go_cut [53] from 17 (fun bv wx => bv = .bool X ∧ wx = W7)
  case first =>
    obtain ⟨⟨a0, a1⟩, ⟨b0, b1, b2⟩, fp, fq⟩ := HT7.out.x
    by_cases h1 : c7 = 0
    · have q1 : ((c7 : Int) == 0) = true := by simp [h1]
      by_cases h2 : (65536 : Int) < (n7 : Int)
      · have HXT : Hid (X = true) := Lib.hid (by rw [HX.out]; exact decide_eq_true ⟨h1, by omega⟩)
        clear h1
        go_wp2
        go_meet
        case rel => exact ⟨by rw [HXT.out], rfl⟩
      · have HXT : Hid (X = false) := Lib.hid (by rw [HX.out]; exact decide_eq_false fun h => h2 (by omega))
        clear h1
        go_wp2
        go_meet
        case rel => exact ⟨by rw [HXT.out], rfl⟩
    · have q1 : ((c7 : Int) == 0) = false := by rw [beq_eq_false_iff_ne]; omega
      have HXT : Hid (X = false) := Lib.hid (by rw [HX.out]; exact decide_eq_false fun h => h1 h.1)
      clear h1
      go_wp2
      go_meet
      case rel => exact ⟨by rw [HXT.out], rfl⟩
  case rest =>
    obtain ⟨rfl, hwc⟩ := hcut
    have hwc := hwc.symm
    subst hwc
    obtain ⟨⟨a0, a1⟩, ⟨b0, b1, b2⟩, fp, fq⟩ := HT7.out.x
    obtain ⟨x0, x1, x2, xf⟩ := three_cellsT HT7.out.res
    obtain ⟨y0, y1, y2, yf⟩ := three_cellsT HT7.out.non
    cases X
    rotate_left
    · have hbig := of_decide_eq_true HX.out.symm
      obtain ⟨hc7, hn7⟩ := hbig
      have HTU : Hid (TUnit t e lw [] [] 3) := Lib.hid ⟨n5, r5, c5, n6, r6, c6, n7, r7, c7, HN5.out, HE.out, by rw [← HD5.out]; exact HN6.out, HL.out, by rw [← HD6.out]; exact HN7.out, by
        obtain ⟨m1, m2⟩ := many_bad (n := n7) (c := c7) (most := 65536) (.inr (by omega))
        rw [m1, m2, if_pos hc7]
        exact ⟨rfl, rfl, rfl⟩⟩
      obtain ⟨⟨z0, z1, z2⟩, hbz⟩ := res_three HT7.out.res HT7.out.b (.int .i64 0) (.int .i64 0) (.slice none 0 0)
      have HBZ := Lib.hid hbz
      clear hbz hc7 hn7
      go_wp2
      refine bodyPost_ret (v := .tuple #[.agg #[.int .i64 0, .int .i64 0, .slice none 0 0], .int .i64 3]) (by simp [results, Tryz.results12, go_sem, z0, z1, z2]) rfl ?_
      exact ⟨HBZ.out, unew, 3, ⟨t, 0, HFT.out, by rw [if_neg (by decide)]; exact ⟨e, lw, [], [], 3, HTU.out, by rw [if_pos (by decide)]; rfl⟩⟩, .inl ⟨by decide, rfl⟩⟩
    have HM : Hid (n7 ≤ 65536) := Lib.hid (by
      have h := of_decide_eq_false HX.out.symm
      by_cases h1 : c7 = 0
      · by_cases h2 : 65536 < n7
        · exact absurd ⟨h1, h2⟩ h
        · omega
      · rw [HZ7.out h1]; omega)
    have HTUF : Hid (∀ l fin c, TEs n7 lw r7 c7 l fin c → TUnit t e lw l fin c) := Lib.hid fun l fin c h => ⟨n5, r5, c5, n6, r6, c6, n7, r7, c7, HN5.out, HE.out, by rw [← HD5.out]; exact HN6.out, HL.out, by rw [← HD6.out]; exact HN7.out, by
        obtain ⟨m1, m2⟩ := many_good (n := n7) (c := c7) (most := 65536) (by have := HM.out; omega)
        rw [m1, m2]
        exact h⟩
    obtain ⟨bs, hbs⟩ : ∃ x, x = W7.heap.size := ⟨_, rfl⟩
    have HDL : Hid (DLI w p bs n7 lw r7 c7 W7 (e : Int) (.slice none 0 0) 0 lw false [] ao7 cap7 r7.length r7 c7) := Lib.hid ⟨HT7.out, recOwn_nil _ _ _ _, rfl, Nat.zero_le _, by rw [hbs]; exact HT7.out.lt2, by rw [hbs]; exact Nat.le_refl _, by have := HLW.out; omega, by
      by_cases h1 : c7 = 0
      · subst h1
        exact .inl ⟨rfl, HLW.out, rfl, HRU7.out, H87.out, rfl, cont_start⟩
      · have h2 := HZ7.out h1
        subst h2
        exact .inr ⟨h1, rfl, rfl, by rw [if_neg h1]⟩⟩
    clear hbs x0 x1 x2 xf y0 y1 y2 yf HTUF HX HZ7 HRU7 HT7
    have HTUF : Hid (∀ l fin c, TEs n7 lw r7 c7 l fin c → TUnit t e lw l fin c) := Lib.hid fun l fin c h => ⟨n5, r5, c5, n6, r6, c6, n7, r7, c7, HN5.out, HE.out, by rw [← HD5.out]; exact HN6.out, HL.out, by rw [← HD6.out]; exact HN7.out, by
        obtain ⟨m1, m2⟩ := many_good (n := n7) (c := c7) (most := 65536) (by have := HM.out; omega)
        rw [m1, m2]
        exact h⟩
    go_wp2
    go_loopw [10, 11, 12] (fun fv ov iv wr => ∃ (k f : Nat) (ob : Bool) (l : Im IC) (lv : Value) (ao : Option Addr) (cap n : Nat) (rest : List Nat) (c : Nat), iv = .int .u64 (k : Int) ∧ fv = .int .i64 (f : Int) ∧ ov = .bool ob ∧ DLI w p bs n7 lw r7 c7 wr (e : Int) lv k f ob l ao cap n rest c)
      (fun _ _ iv _ => n7 - (intOf iv).toNat)
    case atStart => exact ⟨0, lw, false, [], _, ao7, cap7, r7.length, r7, c7, rfl, rfl, rfl, HDL.out⟩
    case round =>
      obtain ⟨k, f, ob, l, lv, aor, capr, n, rest, c, rfl, rfl, rfl, hd⟩ := hrel
      clear a0 a1 b0 b1 b2 fp fq
      have HD := Lib.hid hd
      obtain ⟨⟨a0, a1⟩, ⟨b0, b1, b2⟩, fp, fq⟩ := hd.bx.x
      obtain ⟨x0, x1, x2, xf⟩ := three_cellsT hd.bx.res
      obtain ⟨y0, y1, y2, yf⟩ := three_cellsT hd.bx.non
      obtain ⟨lo, lc, rfl⟩ := hd.ent.val
      rcases hd.st with ⟨hc, hf, rfl, hru, h8r, hob, hcont⟩ | ⟨hc, hte⟩
      rotate_left
      · -- an error: the loop ends
        have q1 : ((c : Int) == 0) = false := by rw [beq_eq_false_iff_ne]; omega
        have HC := Lib.hid hc
        have HTE := Lib.hid hte
        have hec : endC n c = c := if_pos hc
        have HEC := Lib.hid hec
        have tz : ((c : Int) != 0) = true := by simp; omega
        have HEND := Lib.hid (rend_any aor n capr c wr)
        clear hd hc hte hec
        by_cases hlt : (k : Int) < (n7 : Int)
        all_goals
          go_wp2_with fail
          refine HEND.out.mono ?_
          rintro r w8 ⟨rfl, hb8⟩
          have HT8 := Lib.hid (HD.out.bx.old hb8)
          rw [HEC.out]
          clear hb8 a0 a1 b0 b1 b2 fp fq x0 x1 x2 xf y0 y1 y2 yf
          obtain ⟨x0, x1, x2, xf⟩ := three_cellsT HT8.out.res
          obtain ⟨y0, y1, y2, yf⟩ := three_cellsT HT8.out.non
          obtain ⟨⟨z0, z1, z2⟩, hbz⟩ := res_three HT8.out.res HT8.out.b (.int .i64 0) (.int .i64 0) (.slice none 0 0)
          have HBZ := Lib.hid hbz
          clear hbz
          go_wp2
          refine bodyPost_ret (v := .tuple #[.agg #[.int .i64 0, .int .i64 0, .slice none 0 0], .int .i64 (c : Int)]) (by simp [results, Tryz.results12, go_sem, z0, z1, z2]) rfl ?_
          exact ⟨HBZ.out, unew, c, ⟨t, 0, HFT.out, by rw [if_neg (by decide)]; exact ⟨e, lw, [], [], c, HTUF.out _ _ _ HTE.out, by rw [show endC ([] : List Nat).length c = c from if_pos HC.out, if_pos HC.out]⟩⟩, .inl ⟨HC.out, rfl⟩⟩
      have q1 : ((c : Int) == 0) = true := by simp [hc]
      have HC := Lib.hid hc
      have HF := Lib.hid hf
      have HRU := Lib.hid hru
      have H8R := Lib.hid h8r
      have HOB := Lib.hid hob
      have HCN := Lib.hid hcont
      clear hc hf hru h8r hob hcont
      by_cases hlt : (k : Int) < (n7 : Int)
      rotate_left
      · -- all are taken
        have hke : k = n7 := by have := hd.kle; omega
        have HTE := Lib.hid (HCN.out.done hke)
        have HEND := Lib.hid (rend_any aor rest.length capr c wr)
        have HTC : Hid (TUnit t e lw l rest 0) := Lib.hid (HTUF.out _ _ _ HTE.out)
        obtain ⟨ce, hce⟩ : ∃ x, x = endC rest.length c := ⟨_, rfl⟩
        rw [← hce] at HEND
        have HCE : Hid (ce = endC rest.length 0) := Lib.hid (by rw [hce, HC.out])
        clear hd hke hce
        go_wp2_with fail
        refine HEND.out.mono ?_
        rintro r w8 ⟨rfl, hb8⟩
        have HT8 := Lib.hid (HD.out.bx.old hb8)
        have HE8 := Lib.hid (HD.out.ent.grown' hb8)
        clear hb8 a0 a1 b0 b1 b2 fp fq x0 x1 x2 xf y0 y1 y2 yf
        obtain ⟨⟨a0, a1⟩, ⟨b0, b1, b2⟩, fp, fq⟩ := HT8.out.x
        obtain ⟨x0, x1, x2, xf⟩ := three_cellsT HT8.out.res
        obtain ⟨y0, y1, y2, yf⟩ := three_cellsT HT8.out.non
        obtain ⟨⟨z0, z1, z2⟩, hbz⟩ := res_three HT8.out.res HT8.out.b (.int .i64 0) (.int .i64 0) (.slice none 0 0)
        have HBZ := Lib.hid hbz
        clear hbz
        by_cases hz : ce = 0
        rotate_left
        · have tz : ((ce : Int) != 0) = true := by simp; omega
          have HZ := Lib.hid hz
          clear hz
          go_wp2
          refine bodyPost_ret (v := .tuple #[.agg #[.int .i64 0, .int .i64 0, .slice none 0 0], .int .i64 (ce : Int)]) (by simp [results, Tryz.results12, go_sem, z0, z1, z2]) rfl ?_
          exact ⟨HBZ.out, unew, ce, ⟨t, 0, HFT.out, by rw [if_neg (by decide)]; exact ⟨e, lw, l, rest, 0, HTC.out, by rw [← HCE.out, if_pos HZ.out]⟩⟩, .inl ⟨HZ.out, rfl⟩⟩
        have HZE : Hid (endC rest.length 0 = 0) := Lib.hid (by rw [← HCE.out, hz])
        have HOF := Lib.hid (HTC.out.ok H80.out).2.2.1
        rw [hz]
        clear hz
        cases ob
        rotate_left
        · have HOF2 : Hid (ofC (e : Int) (lw : Int) l = 2) := Lib.hid (by rw [HOF.out, ← HOB.out]; rfl)
          go_wp2
          refine bodyPost_ret (v := .tuple #[.agg #[.int .i64 0, .int .i64 0, .slice none 0 0], .int .i64 2]) (by simp [results, Tryz.results12, go_sem, z0, z1, z2]) rfl ?_
          exact ⟨HBZ.out, ⟨e, lw, l⟩, 2, ⟨t, 0, HFT.out, by rw [if_neg (by decide)]; exact ⟨e, lw, l, rest, 0, HTC.out, by rw [HZE.out, if_neg (by decide)]; exact ⟨HOF2.out.symm, fun _ => rfl⟩⟩⟩, .inl ⟨by decide, rfl⟩⟩
        · have HOF2 : Hid (ofC (e : Int) (lw : Int) l = 0) := Lib.hid (by rw [HOF.out, ← HOB.out]; rfl)
          clear z0 z1 z2
          obtain ⟨⟨z0, z1, z2⟩, hbz⟩ := res_three HT8.out.res HT8.out.b (.int .i64 (e : Int)) (.int .i64 (lw : Int)) (.slice lo l.length lc)
          have HBZ2 := Lib.hid hbz
          have hgl : w.heap.size < bs := by have := HD.out.bx.lt; have := HD.out.pb; omega
          have HDO := Lib.hid (((HE8.out.setB hgl 0 (.int .i64 (e : Int))).setB hgl 1 (.int .i64 (lw : Int))).setB hgl 2 (.slice lo l.length lc))
          have HGL := Lib.hid hgl
          clear hbz hgl
          go_wp2
          refine bodyPost_ret (v := .tuple #[.agg #[.int .i64 (e : Int), .int .i64 (lw : Int), .slice lo l.length lc], .int .i64 0]) (by simp [results, Tryz.results12, go_sem, z0, z1, z2]) rfl ?_
          exact ⟨HBZ2.out, ⟨e, lw, l⟩, 0, ⟨t, 0, HFT.out, by rw [if_neg (by decide)]; exact ⟨e, lw, l, rest, 0, HTC.out, by rw [HZE.out, if_neg (by decide)]; exact ⟨HOF2.out.symm, fun _ => rfl⟩⟩⟩, .inr ⟨rfl, _, rfl, (DocO.at' (U := ⟨e, lw, l⟩) HDO.out).wide fun j hj => Nat.le_trans (Nat.le_of_lt HGL.out) hj⟩⟩
      -- one more
      have HK : Hid (k < n7) := Lib.hid (by omega)
      have HKM : Hid (k ≤ 65536) := Lib.hid (by have := HM.out; omega)
      have HNB := Lib.hid (rnumber_any w.heap.size aor capr rest c wr hd.bx.b.size HRU.out H8R.out)
      clear hd
      go_wp2_with fail
      refine HNB.out.mono ?_
      rintro r w1 ⟨n1, ao1, cap1, r1, c1, rfl, hn1, hru1, hb1⟩
      have HN1 : Hid (NumRel rest 0 n1 r1 c1) := Lib.hid (by rw [HC.out] at hn1; exact hn1)
      have H81 : Hid (∀ y ∈ r1, y < 256) := Lib.hid fun y hy => H8R.out y (num_sub hn1 y hy)
      have HZ1 : Hid (c1 ≠ 0 → n1 = 0) := Lib.hid fun h => NumRel.n_zero hn1 h
      have hto := HD.out.bx.old hb1
      have heo := HD.out.ent.grown' hb1
      obtain ⟨V, hV⟩ : ∃ V, V = w1.alloc (.cells #[.slice ao1 r1.length cap1, .int .i64 (c1 : Int)] 75) := ⟨_, rfl⟩
      have hbV : Below w1.heap.size w1 V := by rw [hV]; exact (Below.refl _ _).alloc (Nat.le_refl _) _
      have hvb : V.heap[w1.heap.size]? = some (.cells #[.slice ao1 r1.length cap1, .int .i64 (c1 : Int)] 75 (0, 0)) := by rw [hV]; exact heap_alloc_new _ _
      have htv := hto.old hbV
      have hev := heo.grown' hbV
      obtain ⟨q, hq⟩ : ∃ q, q = w1.heap.size := ⟨_, rfl⟩
      have hpq : p + 1 < q := by rw [hq]; exact hto.lt2
      rw [← hq] at hvb
      obtain ⟨W1, hW1⟩ : ∃ W, W = (V.setCell ⟨p, 0, none⟩ (.slice ao1 r1.length cap1)).setCell ⟨p, 1, none⟩ (.int .i64 (c1 : Int)) := ⟨_, rfl⟩
      have HT1 : Hid (T10 w p W1 (e : Int) (lw : Int) (.slice lo l.length lc) (.slice ao1 r1.length cap1) c1) := Lib.hid (by rw [hW1]; exact htv.rdr _ _)
      have HE1 : Hid (DocO W1 bs (.slice lo l.length lc) l) := Lib.hid (by rw [hW1]; exact (hev.setB (by have := HD.out.pb; omega) _ _).setB (by have := HD.out.pb; omega) _ _)
      have HQ1 : Hid (W1.heap[q]? = some (.cells #[.slice ao1 r1.length cap1, .int .i64 (c1 : Int)] 75 (0, 0))) := Lib.hid (by rw [hW1]; exact (set_other _ (by omega) _ _).trans ((set_other _ (by omega) _ _).trans hvb))
      have HRU1 : Hid (RdU W1 w.heap.size (.slice ao1 r1.length cap1) r1) := Lib.hid (by
        have := hto.lt
        rw [hW1]
        exact (hru1.below (hbV.mono hto.b.size)).below (((Below.refl _ _).setCell (by simp only; omega) _).setCell (by simp only; omega) _))
      have HS1 : Hid (bs ≤ W1.heap.size) := Lib.hid (by
        have h1 := HD.out.sz
        have h2 := hb1.size
        have h3 := hbV.size
        rw [hW1]; simp; omega)
      have HPQ := Lib.hid hpq
      have HQQ := Lib.hid hq
      have HW1 := Lib.hid hW1
      have hx := htv.x
      obtain ⟨v0, v1, vf, _⟩ := blk2 hvb
      have hxx := HT1.out.x
      have hyy := blk2 HQ1.out
      rw [hW1] at hxx hyy
      rw [hV] at hx hxx hyy v0 v1 vf
      rw [hq] at hyy v0 v1 vf
      have HW1' : Hid (W1 = ((w1.alloc (.cells #[.slice ao1 r1.length cap1, .int .i64 (c1 : Int)] 75)).setCell ⟨p, 0, none⟩ (.slice ao1 r1.length cap1)).setCell ⟨p, 1, none⟩ (.int .i64 (c1 : Int))) := Lib.hid (by rw [hW1, hV])
      obtain ⟨⟨a0', a1'⟩, ⟨b0', b1', b2'⟩, fp', fq'⟩ := hx
      obtain ⟨⟨e0, e1⟩, ⟨g0, g1, g2⟩, _, _⟩ := hxx
      obtain ⟨j0, j1, j2, _⟩ := hyy
      have hne1 : ¬ p = w1.heap.size := by have := HPQ.out; rw [hq] at this; omega
      have hne2 : ¬ w1.heap.size = p := fun e => hne1 e.symm
      clear hn1 hru1 hb1 hto heo hV hbV hvb htv hev hq hpq hW1 HW1
      obtain ⟨X, hX⟩ : ∃ X, X = decide (c1 = 0 ∧ 1048576 - f ≤ n1) := ⟨_, rfl⟩
      have HX := Lib.hid hX
      clear hX
      go_upto_region 19 with fail
      rw [← HW1'.out, ← HQQ.out]
      clear a0 a1 b0 b1 b2 fp fq a0' a1' b0' b1' b2' fp' fq' e0 e1 g0 g1 g2 j0 j1 j2 v0 v1 vf x0 x1 x2 xf y0 y1 y2 yf hne1 hne2
      go_cut [82] from 57 to 116 (fun bv wx => bv = .bool X ∧ wx = W1)
      case first =>
        obtain ⟨⟨a0, a1⟩, ⟨b0, b1, b2⟩, fp, fq⟩ := HT1.out.x
        by_cases h1 : c1 = 0
        · have q2 : ((c1 : Int) == 0) = true := by simp [h1]
          obtain ⟨g, hg⟩ : ∃ g : Nat, g = 1048576 - f := ⟨_, rfl⟩
          have hsub : (1048576 : Int) - (f : Int) = (g : Int) := by have := HF.out; omega
          have hg0 : (g : Int) ≤ 1048576 := by omega
          have hf0 : (f : Int) ≤ 1048576 := by have := HF.out; omega
          by_cases h2 : (g : Int) ≤ (n1 : Int)
          · have HXT : Hid (X = true) := Lib.hid (by rw [HX.out]; exact decide_eq_true ⟨h1, by omega⟩)
            clear h1 hg
            go_wp2
            go_meet
            case rel => exact ⟨by rw [HXT.out], rfl⟩
          · have HXT : Hid (X = false) := Lib.hid (by rw [HX.out]; exact decide_eq_false fun h => h2 (by omega))
            clear h1 hg
            go_wp2
            go_meet
            case rel => exact ⟨by rw [HXT.out], rfl⟩
        · have q2 : ((c1 : Int) == 0) = false := by rw [beq_eq_false_iff_ne]; omega
          have HXT : Hid (X = false) := Lib.hid (by rw [HX.out]; exact decide_eq_false fun h => h1 h.1)
          clear h1
          go_wp2
          go_meet
          case rel => exact ⟨by rw [HXT.out], rfl⟩
      case rest =>
        obtain ⟨rfl, hwc⟩ := hcut
        have hwc := hwc.symm
        subst hwc
        cases X
        rotate_left
        · -- no such address
          obtain ⟨h1, h2⟩ := of_decide_eq_true HX.out.symm
          have ha : addC f n1 c1 = 1 := by
            unfold addC
            rw [if_neg (by omega), if_pos h2]
          have HTE := Lib.hid (HCN.out.stop HK.out HN1.out (by rw [ha]; decide))
          rw [ha] at HTE
          obtain ⟨x0, x1, x2, xf⟩ := three_cellsT HT1.out.res
          obtain ⟨y0, y1, y2, yf⟩ := three_cellsT HT1.out.non
          obtain ⟨⟨z0, z1, z2⟩, hbz⟩ := res_three HT1.out.res HT1.out.b (.int .i64 0) (.int .i64 0) (.slice none 0 0)
          have HBZ := Lib.hid hbz
          clear hbz h1 h2 ha
          go_wp2
          refine bodyPost_ret (v := .tuple #[.agg #[.int .i64 0, .int .i64 0, .slice none 0 0], .int .i64 1]) (by simp [results, Tryz.results12, go_sem, z0, z1, z2]) rfl ?_
          exact ⟨HBZ.out, unew, 1, ⟨t, 0, HFT.out, by rw [if_neg (by decide)]; exact ⟨e, lw, [], [], 1, HTUF.out _ _ _ HTE.out, by rw [if_pos (by decide)]; rfl⟩⟩, .inl ⟨by decide, rfl⟩⟩
        have HSM : Hid (c1 = 0 → f + n1 < 1048576) := Lib.hid fun h => by
          have h1 := of_decide_eq_false HX.out.symm
          have h2 : ¬ 1048576 - f ≤ n1 := fun h3 => h1 ⟨h, h3⟩
          omega
        have HFN : Hid (f + n1 ≤ 1048576) := Lib.hid (by
          by_cases h : c1 = 0
          · have := HSM.out h; omega
          · rw [HZ1.out h]; have := HF.out; omega)
        have HTK := Lib.hid (rtcell_any w.heap.size ao1 cap1 r1 c1 W1 HT1.out.b.size HRU1.out H81.out)
        obtain ⟨j0, j1, jf, _⟩ := blk2 HQ1.out
        obtain ⟨⟨a0, a1⟩, ⟨b0, b1, b2⟩, fp, fq⟩ := HT1.out.x
        go_wp2_with fail
        refine HTK.out.mono ?_
        rintro r w3 ⟨kk, d, ao3, n3, cap3, c3, fin3, rfl, htc, hok, hb3⟩
        clear a0 a1 b0 b1 b2 fp fq
        have HTC := Lib.hid htc
        have hto := HT1.out.old hb3
        have heo := HE1.out.grown' hb3
        have hqo := (hb3.block _ (Array.getElem?_eq_some_iff.1 HQ1.out).1).trans HQ1.out
        obtain ⟨s, hs⟩ : ∃ s, s = S8 d := ⟨_, rfl⟩
        rw [← hs]
        have HSD := Lib.hid hs
        obtain ⟨V3, hV⟩ : ∃ V, V = w3.alloc (.cells #[.int .i64 (kk : Int), .string s] 89) := ⟨_, rfl⟩
        have hbV : Below w3.heap.size w3 V3 := by rw [hV]; exact (Below.refl _ _).alloc (Nat.le_refl _) _
        have hvb : V3.heap[w3.heap.size]? = some (.cells #[.int .i64 (kk : Int), .string s] 89 (0, 0)) := by rw [hV]; exact heap_alloc_new _ _
        have htv := hto.old hbV
        have hev := heo.grown' hbV
        have hqv := (hbV.block _ (Array.getElem?_eq_some_iff.1 hqo).1).trans hqo
        have hqlt : q < w3.heap.size := (Array.getElem?_eq_some_iff.1 hqo).1
        obtain ⟨W4, hW4⟩ : ∃ W, W = (((V3.setCell ⟨q, 0, none⟩ (.slice ao3 n3 cap3)).setCell ⟨q, 1, none⟩ (.int .i64 (c3 : Int))).setCell ⟨p, 0, none⟩ (.slice ao3 n3 cap3)).setCell ⟨p, 1, none⟩ (.int .i64 (c3 : Int)) := ⟨_, rfl⟩
        have HT4 : Hid (T10 w p W4 (e : Int) (lw : Int) (.slice lo l.length lc) (.slice ao3 n3 cap3) c3) := Lib.hid (by rw [hW4]; exact ((htv.far HPQ.out _ _).far HPQ.out _ _).rdr _ _)
        have hqv2 : (V3.setCell ⟨q, 0, none⟩ (.slice ao3 n3 cap3)).heap[q]? = some (.cells #[.slice ao3 n3 cap3, .int .i64 (c1 : Int)] 75 (0, 0)) := heap_setCell_same _ q 0 _ _ _ hqv
        have HE4 : Hid (DocO W4 bs (.slice lo l.length lc) l) := Lib.hid (by
          rw [hW4]
          exact (((hev.setT hqv (by decide) _ _).setT hqv2 (by decide) _ _).setB (by have := HD.out.pb; omega) _ _).setB (by have := HD.out.pb; omega) _ _)
        have HC4 : Hid (W4.heap[w3.heap.size]? = some (.cells #[.int .i64 (kk : Int), .string s] 89 (0, 0))) := Lib.hid (by
          have := HPQ.out
          rw [hW4]
          exact (set_other _ (by omega) _ _).trans ((set_other _ (by omega) _ _).trans ((set_other _ (by omega) _ _).trans ((set_other _ (by omega) _ _).trans hvb))))
        have HRU4 : Hid (c3 = 0 → n3 = fin3.length ∧ RdU W4 w.heap.size (.slice ao3 n3 cap3) fin3) := Lib.hid fun hz => by
          obtain ⟨h1, h2⟩ := hok hz
          have h3 := hto.lt
          have h4 := HPQ.out
          refine ⟨h1, ?_⟩
          rw [hW4]
          exact (h2.below (hbV.mono hto.b.size)).below (((((Below.refl _ _).setCell (by simp only; omega) _).setCell (by simp only; omega) _).setCell (by simp only; omega) _).setCell (by simp only; omega) _)
        have HS4 : Hid (bs ≤ W4.heap.size) := Lib.hid (by
          have h1 := HS1.out
          have h2 := hb3.size
          have h3 := hbV.size
          rw [hW4]; simp; omega)
        have HBE : Hid (Below w.heap.size w W4) := Lib.hid HT4.out.b
        have hx := htv.x
        have hyy := blk2 hqv
        have hxx := HT4.out.x
        rw [hW4] at hxx
        rw [hV] at hx hxx hyy
        have HW4 : Hid (W4 = ((((w3.alloc (.cells #[.int .i64 (kk : Int), .string s] 89)).setCell ⟨q, 0, none⟩ (.slice ao3 n3 cap3)).setCell ⟨q, 1, none⟩ (.int .i64 (c3 : Int))).setCell ⟨p, 0, none⟩ (.slice ao3 n3 cap3)).setCell ⟨p, 1, none⟩ (.int .i64 (c3 : Int))) := Lib.hid (by rw [hW4, hV])
        obtain ⟨⟨a0', a1'⟩, ⟨b0', b1', b2'⟩, fp', fq'⟩ := hx
        obtain ⟨⟨e0, e1⟩, ⟨g0, g1, g2⟩, _, _⟩ := hxx
        obtain ⟨i0, i1, i2, _⟩ := hyy
        obtain ⟨y, hy⟩ : ∃ y, y = w3.heap.size := ⟨_, rfl⟩
        rw [← hy] at HC4
        have HY := Lib.hid hy
        have hne1 : ¬ p = q := by have := HPQ.out; omega
        have hne2 : ¬ q = p := fun e => hne1 e.symm
        clear htc hok hb3 hto heo hqo hs hV hbV hvb htv hev hqv hqlt hqv2 hW4 hy j0 j1 jf
        obtain ⟨ob2, hob2⟩ : ∃ x, x = (ob || ((kk : Int) == 0 || (kk : Int) == 3)) := ⟨_, rfl⟩
        have HOB2 := Lib.hid hob2
        clear hob2
        go_upto_region 23 with fail
        rw [← HW4.out, ← HY.out]
        clear a0' a1' b0' b1' b2' fp' fq' e0 e1 g0 g1 g2 i0 i1 i2 hne1 hne2
        go_cut [11] from 57 to 116 (fun bv wx => bv = .bool ob2 ∧ wx = W4)
        case first =>
          obtain ⟨k0, k1, _, _⟩ := blk2 HC4.out
          cases ob
          · cases m0 : ((kk : Int) == 0)
            · cases m3 : ((kk : Int) == 3)
              · have HXT : Hid (ob2 = false) := Lib.hid (by rw [HOB2.out, m0, m3]; rfl)
                go_wp2
                go_meet
                case rel => exact ⟨by rw [HXT.out], rfl⟩
              · have HXT : Hid (ob2 = true) := Lib.hid (by rw [HOB2.out, m0, m3]; rfl)
                go_wp2
                go_meet
                case rel => exact ⟨by rw [HXT.out], rfl⟩
            · have HXT : Hid (ob2 = true) := Lib.hid (by rw [HOB2.out, m0]; rfl)
              go_wp2
              go_meet
              case rel => exact ⟨by rw [HXT.out], rfl⟩
          · have HXT : Hid (ob2 = true) := Lib.hid (by rw [HOB2.out]; rfl)
            go_wp2
            go_meet
            case rel => exact ⟨by rw [HXT.out], rfl⟩
        case rest =>
          obtain ⟨rfl, hwc⟩ := hcut
          have hwc := hwc.symm
          subst hwc
          obtain ⟨k0, k1, _, _⟩ := blk2 HC4.out
          obtain ⟨⟨a0, a1⟩, ⟨b0, b1, b2⟩, fp, fq⟩ := HT4.out.x
          have hn1m : (n1 : Int) ≤ 1048576 := by have := HFN.out; omega
          have hf1m : (f : Int) ≤ 1048576 := by have := HFN.out; omega
          obtain ⟨g, hg⟩ : ∃ g, g = f + n1 := ⟨_, rfl⟩
          have HG := Lib.hid hg
          have hwr : wrap64 ((f : Int) + (n1 : Int)) = (g : Int) := wrap_sum20 hg (by rw [hg]; exact HFN.out)
          have hg2 : (g : Int) ≤ 1048576 := by rw [hg]; exact Int.ofNat_le.2 HFN.out
          have hwr2 : wrap64 ((g : Int) + 1) = ((g + 1 : Nat) : Int) := wrap_succ16 g (by rw [hg]; exact HFN.out)
          have HLL : Hid (l.length ≤ 1048577) := Lib.hid (by rw [HD.out.len]; have := HKM.out; omega)
          have HWK := Lib.hid (wrapU_succ k HKM.out)
          have HGM : Hid (g ≤ 1048576) := Lib.hid (by rw [hg]; exact HFN.out)
          have HWP : Hid (w.heap.size ≤ p + 1) := Lib.hid (by have := HT4.out.lt; omega)
          have HWBS : Hid (w.heap.size ≤ bs) := Lib.hid (Nat.le_trans HWP.out (Nat.le_of_lt HD.out.pb))
          have HGI : Hid ((f : Int) + (n1 : Int) = (g : Int)) := Lib.hid (by rw [hg]; omega)
          have HGI2 : Hid ((f : Int) + (n1 : Int) + 1 = ((g + 1 : Nat) : Int)) := Lib.hid (by rw [hg]; omega)
          clear hg
          go_wp2_with (at_builtin; go_must (refine wpList_appDU _ rfl _ _ rfl bs _ _ rfl W4 ((f : Int) + (n1 : Int)) (kk : Int) s ((g : Int), ((kk : Int), d)) HGI.out rfl HSD.out rfl HE4.out rfl HLL.out HS4.out ?_))
          intro v5 w5 he5 hb5
          obtain ⟨ao5, cap5, rfl⟩ := he5.val
          have HE5 := Lib.hid he5
          have HT5 := Lib.hid (HT4.out.low hb5 HD.out.pb)
          have HB5 := Lib.hid hb5
          have HPBX := Lib.hid HD.out.pb
          clear a0 a1 b0 b1 b2 fp fq k0 k1 he5 hb5
          obtain ⟨⟨a0, a1⟩, ⟨b0, b1, b2⟩, fp, fq⟩ := HT5.out.x
          obtain ⟨nl, hnl⟩ : ∃ n, n = (l ++ [((g : Int), ((kk : Int), d))]).length := ⟨_, rfl⟩
          rw [← hnl] at HE5
          rw [← hnl]
          clear hnl
          go_wp2
          go_roundw
          case rel =>
            have hT6 := HT5.out.setv (.slice ao5 nl cap5)
            have hE6 := HE5.out.setB HPBX.out 2 (.slice ao5 nl cap5)
            refine ⟨k + 1, g + 1, ob2, l ++ [((g : Int), ((kk : Int), d))], .slice ao5 nl cap5, ao3, cap3, n3, fin3, c3, by first | rfl | rw [HWK.out], by first | rfl | rw [hwr2] | rw [HGI2.out] | rw [HGI.out, hwr2], rfl, hT6, hE6, by rw [List.length_append, HD.out.len]; rfl, HK.out, HPBX.out, by rw [size_setT]; exact Nat.le_trans HS4.out HB5.out.size, Nat.succ_le_succ HGM.out, ?_⟩
            by_cases hc1 : c1 = 0
            · have ha : addC f n1 0 = 0 := addC_ok (HSM.out hc1)
              have hn := HN1.out
              have htc := HTC.out
              rw [hc1] at hn htc
              by_cases hc3 : c3 = 0
              · obtain ⟨h1, h2⟩ := HRU4.out hc3
                rw [hc3] at htc
                refine .inl ⟨hc3, by rw [HG.out]; exact HSM.out hc1, h1, ?_, ?_, ?_, ?_⟩
                · exact (h2.below (HB5.out.mono HWBS.out)).below ((Below.refl _ _).setCell HWP.out _)
                · intro y hy
                  obtain ⟨_, h4⟩ := tcell_ok H81.out htc
                  exact H81.out y (by rw [h4]; simp [hy])
                · rw [any_snoc, ← HOB.out, HOB2.out]
                  rfl
                · have h5 := HCN.out.next HK.out hn ha htc
                  rw [← HG.out] at h5
                  exact h5
              · exact .inr ⟨hc3, HCN.out.stopC HK.out hn ha htc hc3⟩
            · have h3 := tcell_had HTC.out hc1
              have ha : addC f n1 c1 = c1 := by unfold addC; rw [if_pos hc1]
              have h4 := HCN.out.stop HK.out HN1.out (by rw [ha]; exact hc1)
              rw [ha] at h4
              rw [h3]
              exact .inr ⟨hc1, h4⟩
          case measure => first | (rw [HWK.out]; exact meas_u HK.out) | exact meas_u HK.out
end Go.Proofs.YtiaijpknnomlnaaGreat
