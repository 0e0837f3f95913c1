/- Acts as they are recorded: taken by the program. · Acts as they are recorded: Take; what is alive. · Acts as they are recorded: what is alive; a kind's word. · Acts that came in. · Acts as they are recorded: there and back, the mathematics. · The contracts of package cell's Check, Same, May, Copy, Later, Word. · The contracts of package cell's Copy, Later, Word. · Slices of cells; the law's own Long. -/
import Derived.Test.YtlckadlkgjfjcaaGreatDoorRaP
import Derived.Test.YtlckadlkgjfjcaaGreatDoorRdP
import Derived.Test.YtlckadlkgjfjcaaGreatDoorDaP
import Derived.ProofKit
import Derived.Deep.Slices
import Derived.Deep.Grids
import Derived.ChangeSame
namespace Go.Proofs.YtlckadlkgjfjcaaGreatDoor
open Go.RowKit

/-- What an act's text begins with: what is taken, what is left, an error's number. -/
def TAct (rest : List Nat) (k e a : Nat) (d rest' : List Nat) (c' : Nat) : Prop :=
  ∃ n1 r1 c1 n2 r2 c2 r3 c3, NumRel rest 0 n1 r1 c1 ∧ k = withinR n1 5 ∧ NumRel r1 (if k < 1 then (if withinC n1 c1 5 = 0 then 1 else withinC n1 c1 5) else withinC n1 c1 5) n2 r2 c2 ∧ e = withinR n2 1099511627776 ∧
    (if k = 1 then a = 0 ∧ r3 = r2 ∧ c3 = withinC n2 c2 1099511627776 else ∃ n3 c4, NumRel r2 (withinC n2 c2 1099511627776) n3 r3 c4 ∧ a = withinR n3 1048576 ∧ c3 = withinC n3 c4 1048576) ∧
    (if k = 2 then ∃ n4 r4 c5, NumRel r3 c3 n4 r4 c5 ∧ FixRel r4 (manyC n4 c5 64) (manyR n4 64 : Nat) d rest' c' else d = [] ∧ rest' = r3 ∧ c' = c3)
theorem TAct.unique {rest : List Nat} {k e a k' e' a' : Nat} {d d' r r' : List Nat} {c c' : Nat} (h : TAct rest k e a d r c) (h' : TAct rest k' e' a' d' r' c') : k = k' ∧ e = e' ∧ a = a' ∧ d = d' ∧ r = r' ∧ c = c' := by
  obtain ⟨n1, r1, c1, n2, r2, c2, r3, c3, p1, rfl, p2, rfl, p3, p4⟩ := h
  obtain ⟨m1, s1, b1, m2, s2, b2, s3, b3, q1, rfl, q2, rfl, q3, q4⟩ := h'
  obtain ⟨rfl, rfl, rfl⟩ := p1.unique q1
  obtain ⟨rfl, rfl, rfl⟩ := p2.unique q2
  obtain ⟨rfl, rfl, rfl⟩ : a = a' ∧ r3 = s3 ∧ c3 = b3 := by
    by_cases h1 : withinR n1 5 = 1
    · rw [if_pos h1] at p3 q3
      exact ⟨p3.1.trans q3.1.symm, p3.2.1.trans q3.2.1.symm, p3.2.2.trans q3.2.2.symm⟩
    · rw [if_neg h1] at p3 q3
      obtain ⟨n3, c4, x1, x2, x3⟩ := p3
      obtain ⟨m3, b4, y1, y2, y3⟩ := q3
      obtain ⟨rfl, rfl, rfl⟩ := x1.unique y1
      exact ⟨x2.trans y2.symm, rfl, x3.trans y3.symm⟩
  obtain ⟨rfl, rfl, rfl⟩ : d = d' ∧ r = r' ∧ c = c' := by
    by_cases h2 : withinR n1 5 = 2
    · rw [if_pos h2] at p4 q4
      obtain ⟨n4, r4, c5, x1, x2⟩ := p4
      obtain ⟨m4, s4, b5, y1, y2⟩ := q4
      obtain ⟨rfl, rfl, rfl⟩ := x1.unique y1
      exact x2.unique y2
    · rw [if_neg h2] at p4 q4
      exact ⟨p4.1.trans q4.1.symm, p4.2.1.trans q4.2.1.symm, p4.2.2.trans q4.2.2.symm⟩
  exact ⟨rfl, rfl, rfl, rfl, rfl, rfl⟩

/-- A reader behind what was done to it since w, and what was made behind w. -/
structure RdS (w W : World) (p : Nat) (rv : Value) (row : List Nat) (place c : Nat) : Prop where
  rd : Rd W p rv row place c
  gr : w.grownBy W (some p)
  lt : p < w.heap.size
section
variable {w W W' : World} {p : Nat} {rv : Value} {row : List Nat} {place c place' c' : Nat}
theorem RdS.step (h : RdS w W p rv row place c) (hr : Rd W' p rv row place' c') (hg : W.grownBy W' (some p)) : RdS w W' p rv row place' c' := ⟨hr, grownBy_trans h.gr hg (fun _ hj _ => hj), h.lt⟩
theorem RdS.old (h : RdS w W p rv row place c) (hb : Below W.heap.size W W') : RdS w W' p rv row place c := h.step (h.rd.below hb (Nat.le_refl _)) (grown_of_below hb _)
theorem RdS.set (h : RdS w W p rv row place c) {q : Nat} (hq : w.heap.size ≤ q) (i : Nat) (x : Value) : RdS w (W.setCell ⟨q, i, none⟩ x) p rv row place c := by
  have hl := h.lt
  have hg := grown_set W q i x
  refine ⟨h.rd.grown hg (fun e => by cases e; omega) ?_, ⟨hg.os.trans h.gr.os, hg.tape.trans h.gr.tape, hg.output.trans h.gr.output, Nat.le_trans h.gr.size hg.size, fun j hj hne => (hg.block j (Nat.lt_of_lt_of_le hj h.gr.size) (fun e => by cases e; omega)).trans (h.gr.block j hj hne)⟩, h.lt⟩
  cases hv : rv.ownBlock with
  | none => exact .inl rfl
  | some g =>
    right
    intro e
    cases e
    have := h.rd.off _ hv
    omega
end
/-- What takeAct answers. -/
def TActPost (p : Nat) (rv : Value) (row : List Nat) (w : World) (r : Ending) (w' : World) : Prop :=
  ∃ (k e a : Nat) (v : Value) (d : List Nat) (place' c' : Nat), r = .returned (.agg #[.int .i64 (k : Int), .int .i64 (e : Int), .int .i64 (a : Int), v]) ∧ TAct row k e a d (row.drop place') c' ∧ Owns w' w.heap.size 5 .u8 v d ∧ Rd w' p rv row place' c' ∧ w.grownBy w' (some p)

theorem four_cells9 {w : World} {p : Nat} {c0 c1 c2 c3 : Value} {e : TypeId} (h : w.heap[p]? = some (.cells #[c0, c1, c2, c3] e (0, 0))) :
    w.cell? ⟨p, 0, none⟩ = some c0 ∧ w.cell? ⟨p, 1, none⟩ = some c1 ∧ w.cell? ⟨p, 2, none⟩ = some c2 ∧ w.cell? ⟨p, 3, none⟩ = some c3 ∧ ∀ i, w.frozen? ⟨p, i, none⟩ = false :=
  ⟨by rw [cell_of_row _ _ 0 _ _ _ h]; rfl, by rw [cell_of_row _ _ 1 _ _ _ h]; rfl, by rw [cell_of_row _ _ 2 _ _ _ h]; rfl, by rw [cell_of_row _ _ 3 _ _ _ h]; rfl, fun i => frozen_of_row _ _ i _ _ h⟩

theorem Owns.put9 {w : World} {base q : Nat} {e : TypeId} {v : Value} {l : List Nat} (h : Owns w base e .u8 v l) (hq : ∀ j, v.ownBlock = some j → j ≠ q) (i : Nat) (x : Value) : Owns (w.setCell ⟨q, i, none⟩ x) base e .u8 v l := by
  refine h.grown (row := some q) (grown_set w q i x) ?_
  cases hv : v.ownBlock with
  | none => exact .inl rfl
  | some j =>
    right
    intro he
    exact hq j hv (Option.some.inj he)

set_option maxHeartbeats 4000000 in
set_option maxRecDepth 100000 in
theorem takeAct_any {w : World} {p : Nat} {rv : Value} {row : List Nat} (h : Rd w p rv row 0 0) :
    Calls Tryz.prog 201 #[.pointer (some ⟨p, 0, none⟩)] w (TActPost p rv row w) := by
  obtain ⟨W1, hW1⟩ : ∃ W1, W1 = w.alloc (.cells #[.int .i64 0, .int .i64 0, .int .i64 0, .slice none 0 0] 67) := ⟨_, rfl⟩
  have hb1 : Below w.heap.size w W1 := by rw [hW1]; exact (Below.refl _ _).alloc (Nat.le_refl _) _
  have hx1 : W1.heap[w.heap.size]? = some (.cells #[.int .i64 0, .int .i64 0, .int .i64 0, .slice none 0 0] 67 (0, 0)) := by rw [hW1]; exact heap_alloc_new _ _
  have hs1 : RdS w W1 p rv row 0 0 := RdS.old ⟨h, World.grownBy.refl _ _, h.lt⟩ hb1
  have HS1 := Lib.hid hs1
  have HX1 := Lib.hid hx1
  have HL1 : Hid (w.heap.size < W1.heap.size) := Lib.hid (Array.getElem?_eq_some_iff.1 hx1).1
  have HPL : Hid (p < w.heap.size) := Lib.hid h.lt
  have HW1 := Lib.hid hW1
  clear h hb1 hx1 hs1 hW1
  go_enter Tryz.func201, Tryz.ntmps201
  go_wp2_with fail
  rw [← HW1.out]
  refine (within_any HS1.out.rd 5).mono ?_
  rintro r w2 ⟨n1, pl1, c1, rfl, hn1, hr2, hg2⟩
  have hs2 := HS1.out.step hr2 hg2
  have hx2 := (hg2.block w.heap.size HL1.out (fun e => by cases e; exact Nat.lt_irrefl _ HPL.out)).trans HX1.out
  obtain ⟨k, hk⟩ : ∃ k, k = withinR n1 5 := ⟨_, rfl⟩
  obtain ⟨cw, hcw⟩ : ∃ c, c = withinC n1 c1 5 := ⟨_, rfl⟩
  rw [← hk]
  rw [← hcw] at hs2
  have HN1 := Lib.hid hn1
  have HKK := Lib.hid hk
  have HCW := Lib.hid hcw
  obtain ⟨W3, hW3⟩ : ∃ W3, W3 = w2.alloc (.cells #[.int .i64 (k : Int), .int .i64 0, .int .i64 0, .slice none 0 0] 67) := ⟨_, rfl⟩
  have hb3 : Below w2.heap.size w2 W3 := by rw [hW3]; exact (Below.refl _ _).alloc (Nat.le_refl _) _
  have hx3 : W3.heap[w2.heap.size]? = some (.cells #[.int .i64 (k : Int), .int .i64 0, .int .i64 0, .slice none 0 0] 67 (0, 0)) := by rw [hW3]; exact heap_alloc_new _ _
  have HS3 := Lib.hid (hs2.old hb3)
  have HR3 := Lib.hid ((hb3.block _ (Array.getElem?_eq_some_iff.1 hx2).1).trans hx2)
  have HX3 := Lib.hid hx3
  obtain ⟨q, hq⟩ : ∃ q, q = w2.heap.size := ⟨_, rfl⟩
  have HQ := Lib.hid hq
  have HQL : Hid (w.heap.size < q) := Lib.hid (by rw [hq]; exact (Array.getElem?_eq_some_iff.1 hx2).1)
  rw [← hq] at HX3
  have HW3 := Lib.hid hW3
  clear hn1 hr2 hg2 hs2 hx2 hk hcw hb3 hx3 hq hW3
  -- the reader behind the kind
  by_cases hk0 : k < 1
  · have hk1 : ¬ k = 1 := by omega
    have hk2 : ¬ k = 2 := by omega
    have hkl : (k : Int) < 1 := by omega
    have pA : ((k : Int) != 1) = true := by simp; omega
    have pD : ((k : Int) == 2) = false := by simp; omega
    have hx0 := four_cells9 HX3.out
    obtain ⟨x0, x1, x2, x3, xf⟩ := hx0
    rw [HW3.out, HQ.out] at x0 x1 x2 x3 xf
    have HK0 := Lib.hid hk0
    have HK1 := Lib.hid hk1
    have HK2 := Lib.hid hk2
    clear hk0 hk1 hk2
    have hfl := fail_any HS3.out.rd 1
    rw [errV_pos (by decide)] at hfl
    have HFL := Lib.hid hfl
    clear hfl
    go_wp2_with fail
    rw [← HW3.out, ← HQ.out]
    clear x0 x1 x2 x3 xf
    obtain ⟨x0, x1, x2, x3, xf⟩ := four_cells9 HX3.out
    refine HFL.out.mono ?_
    rintro r w4 ⟨rfl, hr4, hg4⟩
    clear x0 x1 x2 x3 xf HFL
    obtain ⟨cx, hcx⟩ : ∃ x, x = (if cw = 0 then 1 else cw) := ⟨_, rfl⟩
    rw [← hcx] at hr4
    have HCX := Lib.hid hcx
    have HS4 := Lib.hid (HS3.out.step hr4 hg4)
    have HX4 := Lib.hid ((hg4.block q (Array.getElem?_eq_some_iff.1 HX3.out).1 (fun e => by have h1 := HPL.out; have h2 := HQL.out; cases e; omega)).trans HX3.out)
    have HR4 := Lib.hid ((hg4.block w.heap.size (Array.getElem?_eq_some_iff.1 HR3.out).1 (fun e => by have h1 := HPL.out; cases e; omega)).trans HR3.out)
    obtain ⟨x0, x1, x2, x3, xf⟩ := four_cells9 HX4.out
    clear hr4 hg4 hcx
    go_wp2_with fail
    refine (within_any HS4.out.rd 1099511627776).mono ?_
    rintro r w5 ⟨ne, ple, ce, rfl, hne, hre, hge⟩
    obtain ⟨e, he⟩ : ∃ x, x = withinR ne 1099511627776 := ⟨_, rfl⟩
    obtain ⟨ce, hce⟩ : ∃ x, x = withinC ne ce 1099511627776 := ⟨_, rfl⟩
    rw [← he]
    rw [← hce] at hre
    have HNe := Lib.hid hne
    have HEE := Lib.hid he
    have HCE := Lib.hid hce
    clear x0 x1 x2 x3 xf
    have HS5 := Lib.hid (HS4.out.step hre hge)
    have HX5 := Lib.hid ((hge.block q (Array.getElem?_eq_some_iff.1 HX4.out).1 (fun e => by have h1 := HPL.out; have h2 := HQL.out; cases e; omega)).trans HX4.out)
    have HR5 := Lib.hid ((hge.block w.heap.size (Array.getElem?_eq_some_iff.1 HR4.out).1 (fun e => by have h1 := HPL.out; cases e; omega)).trans HR4.out)
    obtain ⟨x0, x1, x2, x3, xf⟩ := four_cells9 HX5.out
    clear hne hre hge he hce
    obtain ⟨W6, hW6⟩ : ∃ W, W = w5.setCell ⟨q, 1, none⟩ (.int .i64 (e : Int)) := ⟨_, rfl⟩
    have HS6 : Hid (RdS w W6 p rv row ple ce) := Lib.hid (by rw [hW6]; exact HS5.out.set (Nat.le_of_lt HQL.out) 1 _)
    have HX6 : Hid (W6.heap[q]? = some (.cells #[.int .i64 (k : Int), .int .i64 (e : Int), .int .i64 0, .slice none 0 0] 67 (0, 0))) := Lib.hid (by rw [hW6]; exact heap_setCell_same _ q 1 _ _ _ HX5.out)
    have HR6 : Hid (W6.heap[w.heap.size]? = some (.cells #[.int .i64 0, .int .i64 0, .int .i64 0, .slice none 0 0] 67 (0, 0))) := Lib.hid (by rw [hW6]; exact ((fr_set w5 q 1 _).block w.heap.size (Array.getElem?_eq_some_iff.1 HR5.out).1 (fun e => by have := HQL.out; omega)).trans HR5.out)
    have HW6 := Lib.hid hW6
    clear hW6
    go_wp2_with fail
    rw [← HW6.out]
    clear x0 x1 x2 x3 xf
    obtain ⟨x0, x1, x2, x3, xf⟩ := four_cells9 HX6.out
    have hqc := rhasA_any (k : Int) W6
    rw [pA] at hqc
    have HQC := Lib.hid hqc
    clear hqc
    refine HQC.out.mono ?_
    rintro r W6 ⟨rfl, rfl⟩
    clear HQC
    go_wp2_with fail
    refine (within_any HS6.out.rd 1048576).mono ?_
    rintro r w7 ⟨na, pla, ca, rfl, hna, hra, hga⟩
    obtain ⟨a, ha⟩ : ∃ x, x = withinR na 1048576 := ⟨_, rfl⟩
    obtain ⟨ca, hca⟩ : ∃ x, x = withinC na ca 1048576 := ⟨_, rfl⟩
    rw [← ha]
    rw [← hca] at hra
    have HNa := Lib.hid hna
    have HAA := Lib.hid ha
    have HCA := Lib.hid hca
    clear x0 x1 x2 x3 xf
    have HS7 := Lib.hid (HS6.out.step hra hga)
    have HX7 := Lib.hid ((hga.block q (Array.getElem?_eq_some_iff.1 HX6.out).1 (fun e => by have h1 := HPL.out; have h2 := HQL.out; cases e; omega)).trans HX6.out)
    have HR7 := Lib.hid ((hga.block w.heap.size (Array.getElem?_eq_some_iff.1 HR6.out).1 (fun e => by have h1 := HPL.out; cases e; omega)).trans HR6.out)
    obtain ⟨x0, x1, x2, x3, xf⟩ := four_cells9 HX7.out
    clear hna hra hga ha hca
    obtain ⟨W8, hW8⟩ : ∃ W, W = w7.setCell ⟨q, 2, none⟩ (.int .i64 (a : Int)) := ⟨_, rfl⟩
    have HS8 : Hid (RdS w W8 p rv row pla ca) := Lib.hid (by rw [hW8]; exact HS7.out.set (Nat.le_of_lt HQL.out) 2 _)
    have HX8 : Hid (W8.heap[q]? = some (.cells #[.int .i64 (k : Int), .int .i64 (e : Int), .int .i64 (a : Int), .slice none 0 0] 67 (0, 0))) := Lib.hid (by rw [hW8]; exact heap_setCell_same _ q 2 _ _ _ HX7.out)
    have HR8 : Hid (W8.heap[w.heap.size]? = some (.cells #[.int .i64 0, .int .i64 0, .int .i64 0, .slice none 0 0] 67 (0, 0))) := Lib.hid (by rw [hW8]; exact ((fr_set w7 q 2 _).block w.heap.size (Array.getElem?_eq_some_iff.1 HR7.out).1 (fun e => by have := HQL.out; omega)).trans HR7.out)
    have HW8 := Lib.hid hW8
    clear hW8
    go_wp2_with fail
    rw [← HW8.out]
    clear x0 x1 x2 x3 xf
    obtain ⟨x0, x1, x2, x3, xf⟩ := four_cells9 HX8.out
    have hqc := rhasD_any (k : Int) W8
    rw [pD] at hqc
    have HQC := Lib.hid hqc
    clear hqc
    refine HQC.out.mono ?_
    rintro r W8 ⟨rfl, rfl⟩
    clear HQC
    have HSZ : Hid (RdS w ((((W8.setCell ⟨w.heap.size, 0, none⟩ (.int .i64 (k : Int))).setCell ⟨w.heap.size, 1, none⟩ (.int .i64 (e : Int))).setCell ⟨w.heap.size, 2, none⟩ (.int .i64 (a : Int))).setCell ⟨w.heap.size, 3, none⟩ (.slice none 0 0)) p rv row pla ca) := Lib.hid ((((HS8.out.set (Nat.le_refl _) 0 _).set (Nat.le_refl _) 1 _).set (Nat.le_refl _) 2 _).set (Nat.le_refl _) 3 _)
    have hz : ((((W8.setCell ⟨w.heap.size, 0, none⟩ (.int .i64 (k : Int))).setCell ⟨w.heap.size, 1, none⟩ (.int .i64 (e : Int))).setCell ⟨w.heap.size, 2, none⟩ (.int .i64 (a : Int))).setCell ⟨w.heap.size, 3, none⟩ (.slice none 0 0)).heap[w.heap.size]? = some (.cells #[.int .i64 (k : Int), .int .i64 (e : Int), .int .i64 (a : Int), .slice none 0 0] 67 (0, 0)) := heap_setCell_same _ w.heap.size 3 _ _ _ (heap_setCell_same _ w.heap.size 2 _ _ _ (heap_setCell_same _ w.heap.size 1 _ _ _ (heap_setCell_same _ w.heap.size 0 _ _ _ HR8.out)))
    obtain ⟨z0, z1, z2, z3, _⟩ := four_cells9 hz
    have HOZ : Hid (Owns ((((W8.setCell ⟨w.heap.size, 0, none⟩ (.int .i64 (k : Int))).setCell ⟨w.heap.size, 1, none⟩ (.int .i64 (e : Int))).setCell ⟨w.heap.size, 2, none⟩ (.int .i64 (a : Int))).setCell ⟨w.heap.size, 3, none⟩ (.slice none 0 0)) w.heap.size 5 .u8 (.slice none 0 0) []) := Lib.hid (World.ownsRow_nil _ _ _ _)
    obtain ⟨y0, y1, y2, y3, yf⟩ := four_cells9 HR8.out
    clear hz
    go_wp2
    refine bodyPost_ret (v := .agg #[.int .i64 (k : Int), .int .i64 (e : Int), .int .i64 (a : Int), .slice none 0 0]) (by simp [results, Tryz.results201, go_sem, z0, z1, z2, z3]) rfl ?_
    exact ⟨k, e, a, _, [], pla, ca, rfl, ⟨n1, _, c1, ne, _, _, _, _, by simpa using HN1.out, HKK.out, by rw [if_pos (by have := HK0.out; omega), ← HCW.out, ← HCX.out]; exact HNe.out, HEE.out, by rw [if_neg HK1.out]; exact ⟨na, _, by rw [← HCE.out]; exact HNa.out, HAA.out, HCA.out⟩, by rw [if_neg HK2.out]; exact ⟨rfl, rfl, rfl⟩⟩, HOZ.out, HSZ.out.rd, HSZ.out.gr⟩
  by_cases hk1 : k = 1
  · have hk2 : ¬ k = 2 := by omega
    have pA : ((k : Int) != 1) = false := by simp [hk1]
    have pD : ((k : Int) == 2) = false := by simp [hk1]
    have hx0 := four_cells9 HX3.out
    obtain ⟨x0, x1, x2, x3, xf⟩ := hx0
    rw [HW3.out, HQ.out] at x0 x1 x2 x3 xf
    have hkl : ¬ (k : Int) < 1 := by omega
    have HK0 := Lib.hid hk0
    have HK1 := Lib.hid hk1
    have HK2 := Lib.hid hk2
    clear hk0 hk1 hk2
    obtain ⟨cx, hcx⟩ : ∃ x, x = cw := ⟨_, rfl⟩
    rw [← hcx] at HS3 HCW
    clear hcx cw
    go_wp2_with fail
    rw [← HW3.out, ← HQ.out]
    clear x0 x1 x2 x3 xf
    obtain ⟨x0, x1, x2, x3, xf⟩ := four_cells9 HX3.out
    refine (within_any HS3.out.rd 1099511627776).mono ?_
    rintro r w5 ⟨ne, ple, ce, rfl, hne, hre, hge⟩
    obtain ⟨e, he⟩ : ∃ x, x = withinR ne 1099511627776 := ⟨_, rfl⟩
    obtain ⟨ce, hce⟩ : ∃ x, x = withinC ne ce 1099511627776 := ⟨_, rfl⟩
    rw [← he]
    rw [← hce] at hre
    have HNe := Lib.hid hne
    have HEE := Lib.hid he
    have HCE := Lib.hid hce
    clear x0 x1 x2 x3 xf
    have HS5 := Lib.hid (HS3.out.step hre hge)
    have HX5 := Lib.hid ((hge.block q (Array.getElem?_eq_some_iff.1 HX3.out).1 (fun e => by have h1 := HPL.out; have h2 := HQL.out; cases e; omega)).trans HX3.out)
    have HR5 := Lib.hid ((hge.block w.heap.size (Array.getElem?_eq_some_iff.1 HR3.out).1 (fun e => by have h1 := HPL.out; cases e; omega)).trans HR3.out)
    obtain ⟨x0, x1, x2, x3, xf⟩ := four_cells9 HX5.out
    clear hne hre hge he hce
    obtain ⟨W6, hW6⟩ : ∃ W, W = w5.setCell ⟨q, 1, none⟩ (.int .i64 (e : Int)) := ⟨_, rfl⟩
    have HS6 : Hid (RdS w W6 p rv row ple ce) := Lib.hid (by rw [hW6]; exact HS5.out.set (Nat.le_of_lt HQL.out) 1 _)
    have HX6 : Hid (W6.heap[q]? = some (.cells #[.int .i64 (k : Int), .int .i64 (e : Int), .int .i64 0, .slice none 0 0] 67 (0, 0))) := Lib.hid (by rw [hW6]; exact heap_setCell_same _ q 1 _ _ _ HX5.out)
    have HR6 : Hid (W6.heap[w.heap.size]? = some (.cells #[.int .i64 0, .int .i64 0, .int .i64 0, .slice none 0 0] 67 (0, 0))) := Lib.hid (by rw [hW6]; exact ((fr_set w5 q 1 _).block w.heap.size (Array.getElem?_eq_some_iff.1 HR5.out).1 (fun e => by have := HQL.out; omega)).trans HR5.out)
    have HW6 := Lib.hid hW6
    clear hW6
    go_wp2_with fail
    rw [← HW6.out]
    clear x0 x1 x2 x3 xf
    obtain ⟨x0, x1, x2, x3, xf⟩ := four_cells9 HX6.out
    have hqc := rhasA_any (k : Int) W6
    rw [pA] at hqc
    have HQC := Lib.hid hqc
    clear hqc
    refine HQC.out.mono ?_
    rintro r W6 ⟨rfl, rfl⟩
    clear HQC
    go_wp2_with fail
    have hqc := rhasD_any (k : Int) W6
    rw [pD] at hqc
    have HQC := Lib.hid hqc
    clear hqc
    refine HQC.out.mono ?_
    rintro r W6 ⟨rfl, rfl⟩
    clear HQC
    have HSZ : Hid (RdS w ((((W6.setCell ⟨w.heap.size, 0, none⟩ (.int .i64 (k : Int))).setCell ⟨w.heap.size, 1, none⟩ (.int .i64 (e : Int))).setCell ⟨w.heap.size, 2, none⟩ (.int .i64 0)).setCell ⟨w.heap.size, 3, none⟩ (.slice none 0 0)) p rv row ple ce) := Lib.hid ((((HS6.out.set (Nat.le_refl _) 0 _).set (Nat.le_refl _) 1 _).set (Nat.le_refl _) 2 _).set (Nat.le_refl _) 3 _)
    have hz : ((((W6.setCell ⟨w.heap.size, 0, none⟩ (.int .i64 (k : Int))).setCell ⟨w.heap.size, 1, none⟩ (.int .i64 (e : Int))).setCell ⟨w.heap.size, 2, none⟩ (.int .i64 0)).setCell ⟨w.heap.size, 3, none⟩ (.slice none 0 0)).heap[w.heap.size]? = some (.cells #[.int .i64 (k : Int), .int .i64 (e : Int), .int .i64 0, .slice none 0 0] 67 (0, 0)) := heap_setCell_same _ w.heap.size 3 _ _ _ (heap_setCell_same _ w.heap.size 2 _ _ _ (heap_setCell_same _ w.heap.size 1 _ _ _ (heap_setCell_same _ w.heap.size 0 _ _ _ HR6.out)))
    obtain ⟨z0, z1, z2, z3, _⟩ := four_cells9 hz
    have HOZ : Hid (Owns ((((W6.setCell ⟨w.heap.size, 0, none⟩ (.int .i64 (k : Int))).setCell ⟨w.heap.size, 1, none⟩ (.int .i64 (e : Int))).setCell ⟨w.heap.size, 2, none⟩ (.int .i64 0)).setCell ⟨w.heap.size, 3, none⟩ (.slice none 0 0)) w.heap.size 5 .u8 (.slice none 0 0) []) := Lib.hid (World.ownsRow_nil _ _ _ _)
    obtain ⟨y0, y1, y2, y3, yf⟩ := four_cells9 HR6.out
    clear hz
    go_wp2
    refine bodyPost_ret (v := .agg #[.int .i64 (k : Int), .int .i64 (e : Int), .int .i64 0, .slice none 0 0]) (by simp [results, Tryz.results201, go_sem, z0, z1, z2, z3]) rfl ?_
    exact ⟨k, e, 0, _, [], ple, ce, rfl, ⟨n1, _, c1, ne, _, _, _, _, by simpa using HN1.out, HKK.out, by rw [if_neg (by have := HK0.out; omega), ← HCW.out]; exact HNe.out, HEE.out, by rw [if_pos HK1.out]; exact ⟨rfl, rfl, HCE.out⟩, by rw [if_neg HK2.out]; exact ⟨rfl, rfl, rfl⟩⟩, HOZ.out, HSZ.out.rd, HSZ.out.gr⟩
  have pA : ((k : Int) != 1) = true := by simp; omega
  by_cases hk2 : k = 2
  · have pD : ((k : Int) == 2) = true := by simp [hk2]
    have hx0 := four_cells9 HX3.out
    obtain ⟨x0, x1, x2, x3, xf⟩ := hx0
    rw [HW3.out, HQ.out] at x0 x1 x2 x3 xf
    have hkl : ¬ (k : Int) < 1 := by omega
    have HK0 := Lib.hid hk0
    have HK1 := Lib.hid hk1
    have HK2 := Lib.hid hk2
    clear hk0 hk1 hk2
    obtain ⟨cx, hcx⟩ : ∃ x, x = cw := ⟨_, rfl⟩
    rw [← hcx] at HS3 HCW
    clear hcx cw
    go_wp2_with fail
    rw [← HW3.out, ← HQ.out]
    clear x0 x1 x2 x3 xf
    obtain ⟨x0, x1, x2, x3, xf⟩ := four_cells9 HX3.out
    refine (within_any HS3.out.rd 1099511627776).mono ?_
    rintro r w5 ⟨ne, ple, ce, rfl, hne, hre, hge⟩
    obtain ⟨e, he⟩ : ∃ x, x = withinR ne 1099511627776 := ⟨_, rfl⟩
    obtain ⟨ce, hce⟩ : ∃ x, x = withinC ne ce 1099511627776 := ⟨_, rfl⟩
    rw [← he]
    rw [← hce] at hre
    have HNe := Lib.hid hne
    have HEE := Lib.hid he
    have HCE := Lib.hid hce
    clear x0 x1 x2 x3 xf
    have HS5 := Lib.hid (HS3.out.step hre hge)
    have HX5 := Lib.hid ((hge.block q (Array.getElem?_eq_some_iff.1 HX3.out).1 (fun e => by have h1 := HPL.out; have h2 := HQL.out; cases e; omega)).trans HX3.out)
    have HR5 := Lib.hid ((hge.block w.heap.size (Array.getElem?_eq_some_iff.1 HR3.out).1 (fun e => by have h1 := HPL.out; cases e; omega)).trans HR3.out)
    obtain ⟨x0, x1, x2, x3, xf⟩ := four_cells9 HX5.out
    clear hne hre hge he hce
    obtain ⟨W6, hW6⟩ : ∃ W, W = w5.setCell ⟨q, 1, none⟩ (.int .i64 (e : Int)) := ⟨_, rfl⟩
    have HS6 : Hid (RdS w W6 p rv row ple ce) := Lib.hid (by rw [hW6]; exact HS5.out.set (Nat.le_of_lt HQL.out) 1 _)
    have HX6 : Hid (W6.heap[q]? = some (.cells #[.int .i64 (k : Int), .int .i64 (e : Int), .int .i64 0, .slice none 0 0] 67 (0, 0))) := Lib.hid (by rw [hW6]; exact heap_setCell_same _ q 1 _ _ _ HX5.out)
    have HR6 : Hid (W6.heap[w.heap.size]? = some (.cells #[.int .i64 0, .int .i64 0, .int .i64 0, .slice none 0 0] 67 (0, 0))) := Lib.hid (by rw [hW6]; exact ((fr_set w5 q 1 _).block w.heap.size (Array.getElem?_eq_some_iff.1 HR5.out).1 (fun e => by have := HQL.out; omega)).trans HR5.out)
    have HW6 := Lib.hid hW6
    clear hW6
    go_wp2_with fail
    rw [← HW6.out]
    clear x0 x1 x2 x3 xf
    obtain ⟨x0, x1, x2, x3, xf⟩ := four_cells9 HX6.out
    have hqc := rhasA_any (k : Int) W6
    rw [pA] at hqc
    have HQC := Lib.hid hqc
    clear hqc
    refine HQC.out.mono ?_
    rintro r W6 ⟨rfl, rfl⟩
    clear HQC
    go_wp2_with fail
    refine (within_any HS6.out.rd 1048576).mono ?_
    rintro r w7 ⟨na, pla, ca, rfl, hna, hra, hga⟩
    obtain ⟨a, ha⟩ : ∃ x, x = withinR na 1048576 := ⟨_, rfl⟩
    obtain ⟨ca, hca⟩ : ∃ x, x = withinC na ca 1048576 := ⟨_, rfl⟩
    rw [← ha]
    rw [← hca] at hra
    have HNa := Lib.hid hna
    have HAA := Lib.hid ha
    have HCA := Lib.hid hca
    clear x0 x1 x2 x3 xf
    have HS7 := Lib.hid (HS6.out.step hra hga)
    have HX7 := Lib.hid ((hga.block q (Array.getElem?_eq_some_iff.1 HX6.out).1 (fun e => by have h1 := HPL.out; have h2 := HQL.out; cases e; omega)).trans HX6.out)
    have HR7 := Lib.hid ((hga.block w.heap.size (Array.getElem?_eq_some_iff.1 HR6.out).1 (fun e => by have h1 := HPL.out; cases e; omega)).trans HR6.out)
    obtain ⟨x0, x1, x2, x3, xf⟩ := four_cells9 HX7.out
    clear hna hra hga ha hca
    obtain ⟨W8, hW8⟩ : ∃ W, W = w7.setCell ⟨q, 2, none⟩ (.int .i64 (a : Int)) := ⟨_, rfl⟩
    have HS8 : Hid (RdS w W8 p rv row pla ca) := Lib.hid (by rw [hW8]; exact HS7.out.set (Nat.le_of_lt HQL.out) 2 _)
    have HX8 : Hid (W8.heap[q]? = some (.cells #[.int .i64 (k : Int), .int .i64 (e : Int), .int .i64 (a : Int), .slice none 0 0] 67 (0, 0))) := Lib.hid (by rw [hW8]; exact heap_setCell_same _ q 2 _ _ _ HX7.out)
    have HR8 : Hid (W8.heap[w.heap.size]? = some (.cells #[.int .i64 0, .int .i64 0, .int .i64 0, .slice none 0 0] 67 (0, 0))) := Lib.hid (by rw [hW8]; exact ((fr_set w7 q 2 _).block w.heap.size (Array.getElem?_eq_some_iff.1 HR7.out).1 (fun e => by have := HQL.out; omega)).trans HR7.out)
    have HW8 := Lib.hid hW8
    clear hW8
    go_wp2_with fail
    rw [← HW8.out]
    clear x0 x1 x2 x3 xf
    obtain ⟨x0, x1, x2, x3, xf⟩ := four_cells9 HX8.out
    have hqc := rhasD_any (k : Int) W8
    rw [pD] at hqc
    have HQC := Lib.hid hqc
    clear hqc
    refine HQC.out.mono ?_
    rintro r W8 ⟨rfl, rfl⟩
    clear HQC
    go_wp2_with fail
    refine (text_any HS8.out.rd 64 (by decide) (by decide)).mono ?_
    rintro r w9 ⟨v9, d9, n9, pl9, c9, pl10, c10, rfl, hn9, hf9, ho9, hr9, hg9⟩
    clear x0 x1 x2 x3 xf
    have HSO := HS8
    have HS9 := Lib.hid (HS8.out.step hr9 hg9)
    have HX9 := Lib.hid ((hg9.block q (Array.getElem?_eq_some_iff.1 HX8.out).1 (fun e => by have h1 := HPL.out; have h2 := HQL.out; cases e; omega)).trans HX8.out)
    have HR9 := Lib.hid ((hg9.block w.heap.size (Array.getElem?_eq_some_iff.1 HR8.out).1 (fun e => by have h1 := HPL.out; cases e; omega)).trans HR8.out)
    obtain ⟨x0, x1, x2, x3, xf⟩ := four_cells9 HX9.out
    obtain ⟨aod, capd, hvd, _, _, _⟩ := ho9.reads.val
    subst hvd
    have HN9 := Lib.hid hn9
    have HF9 := Lib.hid hf9
    have HO9 := Lib.hid ho9
    have HOB : Hid (w.heap.size < W8.heap.size) := Lib.hid (Array.getElem?_eq_some_iff.1 HR8.out).1
    have HQB : Hid (q < W8.heap.size) := Lib.hid (Array.getElem?_eq_some_iff.1 HX8.out).1
    clear hn9 hf9 ho9 hr9 hg9
    obtain ⟨W10, hW10⟩ : ∃ W, W = w9.setCell ⟨q, 3, none⟩ (.slice aod d9.length capd) := ⟨_, rfl⟩
    have HS10 : Hid (RdS w W10 p rv row pl10 c10) := Lib.hid (by rw [hW10]; exact HS9.out.set (Nat.le_of_lt HQL.out) 3 _)
    have HX10 : Hid (W10.heap[q]? = some (.cells #[.int .i64 (k : Int), .int .i64 (e : Int), .int .i64 (a : Int), .slice aod d9.length capd] 67 (0, 0))) := Lib.hid (by rw [hW10]; exact heap_setCell_same _ q 3 _ _ _ HX9.out)
    have HR10 : Hid (W10.heap[w.heap.size]? = some (.cells #[.int .i64 0, .int .i64 0, .int .i64 0, .slice none 0 0] 67 (0, 0))) := Lib.hid (by rw [hW10]; exact ((fr_set w9 q 3 _).block w.heap.size (Array.getElem?_eq_some_iff.1 HR9.out).1 (fun e => by have := HQL.out; omega)).trans HR9.out)
    have HW10 := Lib.hid hW10
    clear hW10
    have HSZ : Hid (RdS w ((((W10.setCell ⟨w.heap.size, 0, none⟩ (.int .i64 (k : Int))).setCell ⟨w.heap.size, 1, none⟩ (.int .i64 (e : Int))).setCell ⟨w.heap.size, 2, none⟩ (.int .i64 (a : Int))).setCell ⟨w.heap.size, 3, none⟩ (.slice aod d9.length capd)) p rv row pl10 c10) := Lib.hid ((((HS10.out.set (Nat.le_refl _) 0 _).set (Nat.le_refl _) 1 _).set (Nat.le_refl _) 2 _).set (Nat.le_refl _) 3 _)
    have hz : ((((W10.setCell ⟨w.heap.size, 0, none⟩ (.int .i64 (k : Int))).setCell ⟨w.heap.size, 1, none⟩ (.int .i64 (e : Int))).setCell ⟨w.heap.size, 2, none⟩ (.int .i64 (a : Int))).setCell ⟨w.heap.size, 3, none⟩ (.slice aod d9.length capd)).heap[w.heap.size]? = some (.cells #[.int .i64 (k : Int), .int .i64 (e : Int), .int .i64 (a : Int), .slice aod d9.length capd] 67 (0, 0)) := heap_setCell_same _ w.heap.size 3 _ _ _ (heap_setCell_same _ w.heap.size 2 _ _ _ (heap_setCell_same _ w.heap.size 1 _ _ _ (heap_setCell_same _ w.heap.size 0 _ _ _ HR10.out)))
    obtain ⟨z0, z1, z2, z3, _⟩ := four_cells9 hz
    have HOZ : Hid (Owns ((((W10.setCell ⟨w.heap.size, 0, none⟩ (.int .i64 (k : Int))).setCell ⟨w.heap.size, 1, none⟩ (.int .i64 (e : Int))).setCell ⟨w.heap.size, 2, none⟩ (.int .i64 (a : Int))).setCell ⟨w.heap.size, 3, none⟩ (.slice aod d9.length capd)) w.heap.size 5 .u8 (.slice aod d9.length capd) d9) := Lib.hid (by
      have h1 : Owns W10 W8.heap.size 5 .u8 (.slice aod d9.length capd) d9 := by
        rw [HW10.out]
        exact HO9.out.put9 (fun j hj e => by have := (HO9.out.lt j hj).1; have := HQB.out; omega) _ _
      exact ((((h1.put9 (fun j hj e => by have := (HO9.out.lt j hj).1; have := HOB.out; omega) _ _).put9 (fun j hj e => by have := (HO9.out.lt j hj).1; have := HOB.out; omega) _ _).put9 (fun j hj e => by have := (HO9.out.lt j hj).1; have := HOB.out; omega) _ _).put9 (fun j hj e => by have := (HO9.out.lt j hj).1; have := HOB.out; omega) _ _).mono (Nat.le_of_lt HOB.out))
    obtain ⟨y0, y1, y2, y3, yf⟩ := four_cells9 HR10.out
    have hyy := And.intro y0 (And.intro y1 (And.intro y2 (And.intro y3 yf)))
    rw [HW10.out] at hyy
    clear y0 y1 y2 y3 yf
    obtain ⟨y0, y1, y2, y3, yf⟩ := hyy
    rw [HW10.out] at z0 z1 z2 z3 HSZ HOZ
    clear hz
    go_wp2
    refine bodyPost_ret (v := .agg #[.int .i64 (k : Int), .int .i64 (e : Int), .int .i64 (a : Int), .slice aod d9.length capd]) (by simp [results, Tryz.results201, go_sem, z0, z1, z2, z3]) rfl ?_
    exact ⟨k, e, a, _, d9, pl10, c10, rfl, ⟨n1, _, c1, ne, _, _, _, _, by simpa using HN1.out, HKK.out, by rw [if_neg (by have := HK0.out; omega), ← HCW.out]; exact HNe.out, HEE.out, by rw [if_neg HK1.out]; exact ⟨na, _, by rw [← HCE.out]; exact HNa.out, HAA.out, HCA.out⟩, by rw [if_pos HK2.out]; exact ⟨n9, _, c9, HN9.out, HF9.out⟩⟩, HOZ.out, HSZ.out.rd, HSZ.out.gr⟩
  · have pD : ((k : Int) == 2) = false := by simp; omega
    have hx0 := four_cells9 HX3.out
    obtain ⟨x0, x1, x2, x3, xf⟩ := hx0
    rw [HW3.out, HQ.out] at x0 x1 x2 x3 xf
    have hkl : ¬ (k : Int) < 1 := by omega
    have HK0 := Lib.hid hk0
    have HK1 := Lib.hid hk1
    have HK2 := Lib.hid hk2
    clear hk0 hk1 hk2
    obtain ⟨cx, hcx⟩ : ∃ x, x = cw := ⟨_, rfl⟩
    rw [← hcx] at HS3 HCW
    clear hcx cw
    go_wp2_with fail
    rw [← HW3.out, ← HQ.out]
    clear x0 x1 x2 x3 xf
    obtain ⟨x0, x1, x2, x3, xf⟩ := four_cells9 HX3.out
    refine (within_any HS3.out.rd 1099511627776).mono ?_
    rintro r w5 ⟨ne, ple, ce, rfl, hne, hre, hge⟩
    obtain ⟨e, he⟩ : ∃ x, x = withinR ne 1099511627776 := ⟨_, rfl⟩
    obtain ⟨ce, hce⟩ : ∃ x, x = withinC ne ce 1099511627776 := ⟨_, rfl⟩
    rw [← he]
    rw [← hce] at hre
    have HNe := Lib.hid hne
    have HEE := Lib.hid he
    have HCE := Lib.hid hce
    clear x0 x1 x2 x3 xf
    have HS5 := Lib.hid (HS3.out.step hre hge)
    have HX5 := Lib.hid ((hge.block q (Array.getElem?_eq_some_iff.1 HX3.out).1 (fun e => by have h1 := HPL.out; have h2 := HQL.out; cases e; omega)).trans HX3.out)
    have HR5 := Lib.hid ((hge.block w.heap.size (Array.getElem?_eq_some_iff.1 HR3.out).1 (fun e => by have h1 := HPL.out; cases e; omega)).trans HR3.out)
    obtain ⟨x0, x1, x2, x3, xf⟩ := four_cells9 HX5.out
    clear hne hre hge he hce
    obtain ⟨W6, hW6⟩ : ∃ W, W = w5.setCell ⟨q, 1, none⟩ (.int .i64 (e : Int)) := ⟨_, rfl⟩
    have HS6 : Hid (RdS w W6 p rv row ple ce) := Lib.hid (by rw [hW6]; exact HS5.out.set (Nat.le_of_lt HQL.out) 1 _)
    have HX6 : Hid (W6.heap[q]? = some (.cells #[.int .i64 (k : Int), .int .i64 (e : Int), .int .i64 0, .slice none 0 0] 67 (0, 0))) := Lib.hid (by rw [hW6]; exact heap_setCell_same _ q 1 _ _ _ HX5.out)
    have HR6 : Hid (W6.heap[w.heap.size]? = some (.cells #[.int .i64 0, .int .i64 0, .int .i64 0, .slice none 0 0] 67 (0, 0))) := Lib.hid (by rw [hW6]; exact ((fr_set w5 q 1 _).block w.heap.size (Array.getElem?_eq_some_iff.1 HR5.out).1 (fun e => by have := HQL.out; omega)).trans HR5.out)
    have HW6 := Lib.hid hW6
    clear hW6
    go_wp2_with fail
    rw [← HW6.out]
    clear x0 x1 x2 x3 xf
    obtain ⟨x0, x1, x2, x3, xf⟩ := four_cells9 HX6.out
    have hqc := rhasA_any (k : Int) W6
    rw [pA] at hqc
    have HQC := Lib.hid hqc
    clear hqc
    refine HQC.out.mono ?_
    rintro r W6 ⟨rfl, rfl⟩
    clear HQC
    go_wp2_with fail
    refine (within_any HS6.out.rd 1048576).mono ?_
    rintro r w7 ⟨na, pla, ca, rfl, hna, hra, hga⟩
    obtain ⟨a, ha⟩ : ∃ x, x = withinR na 1048576 := ⟨_, rfl⟩
    obtain ⟨ca, hca⟩ : ∃ x, x = withinC na ca 1048576 := ⟨_, rfl⟩
    rw [← ha]
    rw [← hca] at hra
    have HNa := Lib.hid hna
    have HAA := Lib.hid ha
    have HCA := Lib.hid hca
    clear x0 x1 x2 x3 xf
    have HS7 := Lib.hid (HS6.out.step hra hga)
    have HX7 := Lib.hid ((hga.block q (Array.getElem?_eq_some_iff.1 HX6.out).1 (fun e => by have h1 := HPL.out; have h2 := HQL.out; cases e; omega)).trans HX6.out)
    have HR7 := Lib.hid ((hga.block w.heap.size (Array.getElem?_eq_some_iff.1 HR6.out).1 (fun e => by have h1 := HPL.out; cases e; omega)).trans HR6.out)
    obtain ⟨x0, x1, x2, x3, xf⟩ := four_cells9 HX7.out
    clear hna hra hga ha hca
    obtain ⟨W8, hW8⟩ : ∃ W, W = w7.setCell ⟨q, 2, none⟩ (.int .i64 (a : Int)) := ⟨_, rfl⟩
    have HS8 : Hid (RdS w W8 p rv row pla ca) := Lib.hid (by rw [hW8]; exact HS7.out.set (Nat.le_of_lt HQL.out) 2 _)
    have HX8 : Hid (W8.heap[q]? = some (.cells #[.int .i64 (k : Int), .int .i64 (e : Int), .int .i64 (a : Int), .slice none 0 0] 67 (0, 0))) := Lib.hid (by rw [hW8]; exact heap_setCell_same _ q 2 _ _ _ HX7.out)
    have HR8 : Hid (W8.heap[w.heap.size]? = some (.cells #[.int .i64 0, .int .i64 0, .int .i64 0, .slice none 0 0] 67 (0, 0))) := Lib.hid (by rw [hW8]; exact ((fr_set w7 q 2 _).block w.heap.size (Array.getElem?_eq_some_iff.1 HR7.out).1 (fun e => by have := HQL.out; omega)).trans HR7.out)
    have HW8 := Lib.hid hW8
    clear hW8
    go_wp2_with fail
    rw [← HW8.out]
    clear x0 x1 x2 x3 xf
    obtain ⟨x0, x1, x2, x3, xf⟩ := four_cells9 HX8.out
    have hqc := rhasD_any (k : Int) W8
    rw [pD] at hqc
    have HQC := Lib.hid hqc
    clear hqc
    refine HQC.out.mono ?_
    rintro r W8 ⟨rfl, rfl⟩
    clear HQC
    have HSZ : Hid (RdS w ((((W8.setCell ⟨w.heap.size, 0, none⟩ (.int .i64 (k : Int))).setCell ⟨w.heap.size, 1, none⟩ (.int .i64 (e : Int))).setCell ⟨w.heap.size, 2, none⟩ (.int .i64 (a : Int))).setCell ⟨w.heap.size, 3, none⟩ (.slice none 0 0)) p rv row pla ca) := Lib.hid ((((HS8.out.set (Nat.le_refl _) 0 _).set (Nat.le_refl _) 1 _).set (Nat.le_refl _) 2 _).set (Nat.le_refl _) 3 _)
    have hz : ((((W8.setCell ⟨w.heap.size, 0, none⟩ (.int .i64 (k : Int))).setCell ⟨w.heap.size, 1, none⟩ (.int .i64 (e : Int))).setCell ⟨w.heap.size, 2, none⟩ (.int .i64 (a : Int))).setCell ⟨w.heap.size, 3, none⟩ (.slice none 0 0)).heap[w.heap.size]? = some (.cells #[.int .i64 (k : Int), .int .i64 (e : Int), .int .i64 (a : Int), .slice none 0 0] 67 (0, 0)) := heap_setCell_same _ w.heap.size 3 _ _ _ (heap_setCell_same _ w.heap.size 2 _ _ _ (heap_setCell_same _ w.heap.size 1 _ _ _ (heap_setCell_same _ w.heap.size 0 _ _ _ HR8.out)))
    obtain ⟨z0, z1, z2, z3, _⟩ := four_cells9 hz
    have HOZ : Hid (Owns ((((W8.setCell ⟨w.heap.size, 0, none⟩ (.int .i64 (k : Int))).setCell ⟨w.heap.size, 1, none⟩ (.int .i64 (e : Int))).setCell ⟨w.heap.size, 2, none⟩ (.int .i64 (a : Int))).setCell ⟨w.heap.size, 3, none⟩ (.slice none 0 0)) w.heap.size 5 .u8 (.slice none 0 0) []) := Lib.hid (World.ownsRow_nil _ _ _ _)
    obtain ⟨y0, y1, y2, y3, yf⟩ := four_cells9 HR8.out
    clear hz
    go_wp2
    refine bodyPost_ret (v := .agg #[.int .i64 (k : Int), .int .i64 (e : Int), .int .i64 (a : Int), .slice none 0 0]) (by simp [results, Tryz.results201, go_sem, z0, z1, z2, z3]) rfl ?_
    exact ⟨k, e, a, _, [], pla, ca, rfl, ⟨n1, _, c1, ne, _, _, _, _, by simpa using HN1.out, HKK.out, by rw [if_neg (by have := HK0.out; omega), ← HCW.out]; exact HNe.out, HEE.out, by rw [if_neg HK1.out]; exact ⟨na, _, by rw [← HCE.out]; exact HNa.out, HAA.out, HCA.out⟩, by rw [if_neg HK2.out]; exact ⟨rfl, rfl, rfl⟩⟩, HOZ.out, HSZ.out.rd, HSZ.out.gr⟩
end Go.Proofs.YtlckadlkgjfjcaaGreatDoor

namespace Go.Proofs.YtlckadlkgjfjcaaGreatDoor
open Go.RowKit

/-- What the program's Take answers: the act, an error's number. -/
def RTake (b : List Nat) (k e a : Nat) (d : List Nat) (c : Nat) : Prop :=
  ∃ t c0, FO b t c0 ∧ if c0 ≠ 0 then k = 0 ∧ e = 0 ∧ a = 0 ∧ d = [] ∧ c = c0 else
    ∃ k1 e1 a1 d1 r1 c1, TAct t k1 e1 a1 d1 r1 c1 ∧
      if endC r1.length c1 ≠ 0 then k = 0 ∧ e = 0 ∧ a = 0 ∧ d = [] ∧ c = endC r1.length c1
      else if rchk k1 e1 a1 d1.length ≠ 0 then k = 0 ∧ e = 0 ∧ a = 0 ∧ d = [] ∧ c = rchk k1 e1 a1 d1.length else k = k1 ∧ e = e1 ∧ a = a1 ∧ d = d1 ∧ c = 0
def RTakePost (b : List Nat) (w : World) (r : Ending) (w' : World) : Prop :=
  ∃ (k e a : Nat) (v : Value) (d : List Nat) (c : Nat), r = .returned (.tuple #[.agg #[.int .i64 (k : Int), .int .i64 (e : Int), .int .i64 (a : Int), v], errV c]) ∧ RTake b k e a d c ∧ Owns w' w.heap.size 5 .u8 v d ∧ Below w.heap.size w w'

theorem below_four {w W : World} (h : Below w.heap.size w W) (a b c d : Value) : Below w.heap.size w ((((W.setCell ⟨w.heap.size, 0, none⟩ a).setCell ⟨w.heap.size, 1, none⟩ b).setCell ⟨w.heap.size, 2, none⟩ c).setCell ⟨w.heap.size, 3, none⟩ d) :=
  (((h.setCell (Nat.le_refl _) _).setCell (Nat.le_refl _) _).setCell (Nat.le_refl _) _).setCell (Nat.le_refl _) _
theorem four_set {w W : World} {T : TypeId} {x0 x1 x2 x3 : Value} (h : W.heap[w.heap.size]? = some (.cells #[x0, x1, x2, x3] T (0, 0))) (a b c d : Value) :
    ((((W.setCell ⟨w.heap.size, 0, none⟩ a).setCell ⟨w.heap.size, 1, none⟩ b).setCell ⟨w.heap.size, 2, none⟩ c).setCell ⟨w.heap.size, 3, none⟩ d).heap[w.heap.size]? = some (.cells #[a, b, c, d] T (0, 0)) :=
  heap_setCell_same _ w.heap.size 3 _ _ _ (heap_setCell_same _ w.heap.size 2 _ _ _ (heap_setCell_same _ w.heap.size 1 _ _ _ (heap_setCell_same _ w.heap.size 0 _ _ _ h)))

set_option maxHeartbeats 4000000 in
set_option maxRecDepth 100000 in
theorem rtake_any (v : Value) (b : List Nat) (w : World) (hr : Reads w .u8 v b) (hb : ∀ y ∈ b, y < 256) (hx : b.length ≤ 80000000000000) :
    Calls Tryz.prog 140 #[v] w (RTakePost b w) := by
  obtain ⟨ao, cap, rfl, _, _, _⟩ := hr.val
  obtain ⟨W1, hW1⟩ : ∃ W1, W1 = w.alloc (.cells #[.int .i64 0, .int .i64 0, .int .i64 0, .slice none 0 0] 67) := ⟨_, rfl⟩
  have hb1 : Below w.heap.size w W1 := by rw [hW1]; exact (Below.refl _ _).alloc (Nat.le_refl _) _
  have hx1 : W1.heap[w.heap.size]? = some (.cells #[.int .i64 0, .int .i64 0, .int .i64 0, .slice none 0 0] 67 (0, 0)) := by rw [hW1]; exact heap_alloc_new _ _
  have HONE := Lib.hid (frameOne_any _ b W1 (hr.new hb1) hb (by omega))
  have HB1 := Lib.hid hb1
  have HX1 := Lib.hid hx1
  have HBB := Lib.hid hb
  have HLX := Lib.hid hx
  have HW1 := Lib.hid hW1
  generalize b.length = nb at *
  clear hr hb hx hb1 hx1 hW1
  go_enter Tryz.func140, Tryz.ntmps140
  go_wp2_with fail
  rw [← HW1.out]
  refine HONE.out.mono ?_
  rintro r w2 ⟨v2, t, c0, rfl, hfo, hat, hb2⟩
  obtain ⟨ao2, cap2, rfl, _, _, _⟩ := hat.reads.val
  have HFO := Lib.hid hfo
  have HR2 := Lib.hid hat.reads
  have HB2 : Hid (Below w.heap.size w w2) := Lib.hid (HB1.out.trans (hb2.mono HB1.out.size))
  have HX2 := Lib.hid ((hb2.block _ (Array.getElem?_eq_some_iff.1 HX1.out).1).trans HX1.out)
  have HT8 : Hid (c0 = 0 → (∀ y ∈ t, y < 256) ∧ t.length ≤ 65536) := Lib.hid fun hz => by
    obtain ⟨t1, s1, c1, hft, hif⟩ := hfo
    by_cases h1 : c1 ≠ 0
    · rw [if_pos h1] at hif
      exact absurd (hif.2.symm.trans hz) h1
    · rw [if_neg h1] at hif
      obtain rfl : c1 = 0 := Classical.not_not.1 h1
      split at hif
      · rw [hif.2] at hz; cases hz
      · obtain ⟨_, _, h3, _, h5⟩ := hft.good
        rw [hif.1]
        exact ⟨fun y hy => HBB.out y (h5 y hy), h3⟩
  obtain ⟨x0, x1, x2, x3, xf⟩ := four_cells9 HX2.out
  obtain ⟨nt, hnt⟩ : ∃ n, n = t.length := ⟨_, rfl⟩
  rw [← hnt] at HR2
  rw [← hnt]
  clear hfo hat hb2 hnt
  by_cases hz : c0 = 0
  rotate_left
  · rw [errV_pos hz]
    have HZ := Lib.hid hz
    obtain ⟨z0, z1, z2, z3, _⟩ := four_cells9 (four_set HX2.out (.int .i64 0) (.int .i64 0) (.int .i64 0) (.slice none 0 0))
    clear hz
    go_wp2
    refine bodyPost_ret (v := .tuple #[.agg #[.int .i64 0, .int .i64 0, .int .i64 0, .slice none 0 0], .iface 41 (.int .i64 (c0 : Int))]) (by simp [results, Tryz.results140, go_sem, z0, z1, z2, z3]) rfl ?_
    exact ⟨0, 0, 0, _, [], c0, by rw [errV_pos HZ.out]; rfl, ⟨t, c0, HFO.out, by rw [if_pos HZ.out]; exact ⟨rfl, rfl, rfl, rfl, rfl⟩⟩, World.ownsRow_nil _ _ _ _, below_four HB2.out _ _ _ _⟩
  have HNEW := Lib.hid (new_any _ t w2 HR2.out (HT8.out hz).1 (by have := (HT8.out hz).2; omega))
  have HFZ : Hid (FO b t 0) := Lib.hid (by rw [← hz]; exact HFO.out)
  rw [hz, errV_zero]
  clear hz HT8
  go_wp2_with fail
  refine HNEW.out.mono ?_
  rintro r w3 ⟨p, rv, rfl, hrd3, hb3, hp3, _⟩
  have HB3 : Hid (Below w.heap.size w w3) := Lib.hid (HB2.out.trans (hb3.mono HB2.out.size))
  have HX3 := Lib.hid ((hb3.block _ (Array.getElem?_eq_some_iff.1 HX2.out).1).trans HX2.out)
  have HPW : Hid (w.heap.size < p) := Lib.hid (Nat.lt_of_lt_of_le (Array.getElem?_eq_some_iff.1 HX2.out).1 hp3)
  have HTA := Lib.hid (takeAct_any hrd3)
  clear hrd3 hb3 hp3 x0 x1 x2 x3 xf
  go_wp2_with fail
  refine HTA.out.mono ?_
  rintro r w4 ⟨k, e, a, v4, d, pl, c1, rfl, htact, ho4, hrd4, hg4⟩
  obtain ⟨ao4, cap4, rfl, _, _, _⟩ := ho4.reads.val
  have HTT := Lib.hid htact
  have HX4 := Lib.hid ((hg4.block _ (Array.getElem?_eq_some_iff.1 HX3.out).1 (fun e => by have := HPW.out; cases e; omega)).trans HX3.out)
  have HB4 : Hid (Below w.heap.size w w4) := Lib.hid (HB3.out.grown hg4 HB3.out.size fun j hj => by cases hj; exact Nat.le_of_lt HPW.out)
  obtain ⟨W5, hW5⟩ : ∃ W5, W5 = w4.alloc (.cells #[.int .i64 (k : Int), .int .i64 (e : Int), .int .i64 (a : Int), .slice ao4 d.length cap4] 67) := ⟨_, rfl⟩
  have hb5 : Below w4.heap.size w4 W5 := by rw [hW5]; exact (Below.refl _ _).alloc (Nat.le_refl _) _
  have hx5 : W5.heap[w4.heap.size]? = some (.cells #[.int .i64 (k : Int), .int .i64 (e : Int), .int .i64 (a : Int), .slice ao4 d.length cap4] 67 (0, 0)) := by rw [hW5]; exact heap_alloc_new _ _
  have hrd5 := hrd4.below hb5 (Nat.le_refl _)
  have hend := end_any hrd5
  rw [show t.length - pl = (t.drop pl).length by rw [List.length_drop]] at hend
  obtain ⟨c2, hc2⟩ : ∃ c, c = endC (t.drop pl).length c1 := ⟨_, rfl⟩
  rw [← hc2] at hend
  have HC2 := Lib.hid hc2
  have HEND := Lib.hid hend
  have HX5 := Lib.hid ((hb5.block _ (Array.getElem?_eq_some_iff.1 HX4.out).1).trans HX4.out)
  have HY5 := Lib.hid hx5
  have HO5 : Hid (Owns W5 w3.heap.size 5 .u8 (.slice ao4 d.length cap4) d) := Lib.hid (ho4.below hb5 (Nat.le_refl _))
  have HB5 : Hid (Below w.heap.size w W5) := Lib.hid (HB4.out.trans (hb5.mono HB4.out.size))
  have HW5 := Lib.hid hW5
  obtain ⟨q, hq⟩ : ∃ q, q = w4.heap.size := ⟨_, rfl⟩
  rw [← hq] at HY5
  have HQ := Lib.hid hq
  have HQL : Hid (w.heap.size < q) := Lib.hid (by rw [hq]; exact (Array.getElem?_eq_some_iff.1 HX4.out).1)
  have HCK := Lib.hid (fun W => rcheck9_any (k : Int) (e : Int) (a : Int) ao4 d.length cap4 W)
  obtain ⟨c3, hc3⟩ : ∃ c, c = rchk (k : Int) (e : Int) (a : Int) d.length := ⟨_, rfl⟩
  rw [← hc3] at HCK
  have HC3 := Lib.hid hc3
  obtain ⟨nd, hnd⟩ : ∃ n, n = d.length := ⟨_, rfl⟩
  rw [← hnd] at HY5 HO5 HCK HW5
  rw [← hnd]
  clear htact ho4 hrd4 hg4 hW5 hb5 hx5 hrd5 hend hc2 hc3 hq hnd
  go_wp2_with fail
  rw [← HW5.out, ← HQ.out]
  refine HEND.out.mono ?_
  rintro r w6 ⟨rfl, nd6, rfl⟩
  have hD6 : Below W5.heap.size W5 (W5.drewN nd6) := ⟨rfl, rfl, rfl, Nat.le_refl _, fun _ _ => rfl⟩
  obtain ⟨W6, hW6⟩ : ∃ W6, W6 = W5.drewN nd6 := ⟨_, rfl⟩
  rw [← hW6] at hD6 ⊢
  have HB6 : Hid (Below w.heap.size w W6) := Lib.hid (HB5.out.trans (hD6.mono HB5.out.size))
  have HX6 : Hid (W6.heap[w.heap.size]? = _) := Lib.hid ((hD6.block _ (Array.getElem?_eq_some_iff.1 HX5.out).1).trans HX5.out)
  have HY6 : Hid (W6.heap[q]? = _) := Lib.hid ((hD6.block _ (Array.getElem?_eq_some_iff.1 HY5.out).1).trans HY5.out)
  have HO6 : Hid (Owns W6 w3.heap.size 5 .u8 (.slice ao4 nd cap4) d) := Lib.hid (HO5.out.below hD6 (Nat.le_refl _))
  clear hD6 hW6
  obtain ⟨x0, x1, x2, x3, xf⟩ := four_cells9 HX6.out
  obtain ⟨y0, y1, y2, y3, _⟩ := four_cells9 HY6.out
  by_cases hz2 : c2 = 0
  rotate_left
  · rw [errV_pos hz2]
    have HZ := Lib.hid hz2
    obtain ⟨z0, z1, z2, z3, _⟩ := four_cells9 (four_set HX6.out (.int .i64 0) (.int .i64 0) (.int .i64 0) (.slice none 0 0))
    clear hz2
    go_wp2
    refine bodyPost_ret (v := .tuple #[.agg #[.int .i64 0, .int .i64 0, .int .i64 0, .slice none 0 0], .iface 41 (.int .i64 (c2 : Int))]) (by simp [results, Tryz.results140, go_sem, z0, z1, z2, z3]) rfl ?_
    exact ⟨0, 0, 0, _, [], c2, by rw [errV_pos HZ.out]; rfl, ⟨t, 0, HFZ.out, by rw [if_neg (by decide)]; exact ⟨k, e, a, d, _, c1, HTT.out, by rw [← HC2.out, if_pos HZ.out]; exact ⟨rfl, rfl, rfl, rfl, rfl⟩⟩⟩, World.ownsRow_nil _ _ _ _, below_four HB6.out _ _ _ _⟩
  have HZ2 : Hid (endC (t.drop pl).length c1 = 0) := Lib.hid (by rw [← HC2.out, hz2])
  rw [hz2, errV_zero]
  clear hz2
  go_wp2_with fail
  refine (HCK.out _).mono ?_
  rintro r w7 ⟨rfl, hb7⟩
  have HB7 : Hid (Below w.heap.size w w7) := Lib.hid (HB6.out.trans (hb7.mono HB6.out.size))
  have HX7 := Lib.hid ((hb7.block _ (Array.getElem?_eq_some_iff.1 HX6.out).1).trans HX6.out)
  have HY7 := Lib.hid ((hb7.block _ (Array.getElem?_eq_some_iff.1 HY6.out).1).trans HY6.out)
  have HO7 : Hid (Owns w7 w3.heap.size 5 .u8 (.slice ao4 nd cap4) d) := Lib.hid (HO6.out.below hb7 (Nat.le_refl _))
  clear hb7 x0 x1 x2 x3 xf y0 y1 y2 y3
  obtain ⟨x0, x1, x2, x3, xf⟩ := four_cells9 HX7.out
  obtain ⟨y0, y1, y2, y3, _⟩ := four_cells9 HY7.out
  have hne1 : ¬ q = w.heap.size := by have := HQL.out; omega
  have hne2 : ¬ w.heap.size = q := by have := HQL.out; omega
  by_cases hz3 : c3 = 0
  rotate_left
  · rw [errV_pos hz3]
    have HZ := Lib.hid hz3
    obtain ⟨z0, z1, z2, z3, _⟩ := four_cells9 (four_set HX7.out (.int .i64 0) (.int .i64 0) (.int .i64 0) (.slice none 0 0))
    clear hz3
    go_wp2
    refine bodyPost_ret (v := .tuple #[.agg #[.int .i64 0, .int .i64 0, .int .i64 0, .slice none 0 0], .iface 41 (.int .i64 (c3 : Int))]) (by simp [results, Tryz.results140, go_sem, z0, z1, z2, z3]) rfl ?_
    exact ⟨0, 0, 0, _, [], c3, by rw [errV_pos HZ.out]; rfl, ⟨t, 0, HFZ.out, by rw [if_neg (by decide)]; exact ⟨k, e, a, d, _, c1, HTT.out, by rw [HZ2.out, if_neg (by decide), ← HC3.out, if_pos HZ.out]; exact ⟨rfl, rfl, rfl, rfl, rfl⟩⟩⟩, World.ownsRow_nil _ _ _ _, below_four HB7.out _ _ _ _⟩
  · have HZ := Lib.hid hz3
    rw [hz3, errV_zero]
    obtain ⟨z0, z1, z2, z3, _⟩ := four_cells9 (four_set HX7.out (.int .i64 (k : Int)) (.int .i64 (e : Int)) (.int .i64 (a : Int)) (.slice ao4 nd cap4))
    have HOB : Hid (w.heap.size < w3.heap.size) := Lib.hid (Array.getElem?_eq_some_iff.1 HX3.out).1
    have HOZ := Lib.hid ((((HO7.out.put9 (q := w.heap.size) (fun j hj e => by have := (HO7.out.lt j hj).1; have := HOB.out; omega) 0 (.int .i64 (k : Int))).put9 (q := w.heap.size) (fun j hj e => by have := (HO7.out.lt j hj).1; have := HOB.out; omega) 1 (.int .i64 (e : Int))).put9 (q := w.heap.size) (fun j hj e => by have := (HO7.out.lt j hj).1; have := HOB.out; omega) 2 (.int .i64 (a : Int))).put9 (q := w.heap.size) (fun j hj e => by have := (HO7.out.lt j hj).1; have := HOB.out; omega) 3 (.slice ao4 nd cap4))
    clear hz3
    go_wp2
    refine bodyPost_ret (v := .tuple #[.agg #[.int .i64 (k : Int), .int .i64 (e : Int), .int .i64 (a : Int), .slice ao4 nd cap4], .nilIface]) (by simp [results, Tryz.results140, go_sem, z0, z1, z2, z3]) rfl ?_
    exact ⟨k, e, a, _, d, 0, rfl, ⟨t, 0, HFZ.out, by rw [if_neg (by decide)]; exact ⟨k, e, a, d, _, c1, HTT.out, by rw [HZ2.out, if_neg (by decide), ← HC3.out, if_neg (by rw [HZ.out]; decide)]; exact ⟨rfl, rfl, rfl, rfl, rfl⟩⟩⟩, HOZ.out.mono (Nat.le_of_lt HOB.out), below_four HB7.out _ _ _ _⟩
end Go.Proofs.YtlckadlkgjfjcaaGreatDoor

namespace Go.Proofs.YtlckadlkgjfjcaaGreatDoor
open Go.RowKit

end Go.Proofs.YtlckadlkgjfjcaaGreatDoor

namespace Go.Proofs.YtlckadlkgjfjcaaGreatDoor
open Go.RowKit Go.ChangeShapes Go.WideShapes Go.Deep

section
variable {H : Type} {enc : TypeId × Value → H} {P : Program} {w : World} {base : Nat} {spare : Nat → Bool} {held : Bool}
end
end Go.Proofs.YtlckadlkgjfjcaaGreatDoor

namespace Go.Proofs.YtlckadlkgjfjcaaGreatDoor
open Go.RowKit

theorem withinR_id {n most : Nat} (h : n ≤ most) (hm : most ≤ 4611686018427387904) : withinR n most = n ∧ withinC n 0 most = 0 := by
  have h1 := within_good (n := n) (c := 0) (most := most) (by omega)
  exact h1
/-- What is put is taken. -/
theorem tact_text {k e a : Nat} {d : List Nat} (h : rchk k e a d.length = 0) : TAct (rtext k e a d) k e a d [] 0 := by
  obtain ⟨z1, z2, z3, z4, z5, z6, z7, z8, z9, _⟩ := rchk_zero h
  have hk := withinR_id (n := k) (most := 5) (by omega) (by decide)
  have he := withinR_id (n := e) (most := 1099511627776) (by omega) (by decide)
  have ha := withinR_id (n := a) (most := 1048576) (by omega) (by decide)
  have hd := enc_len10 (u64_of_le (n := d.length) (by omega))
  refine ⟨k, enc e ++ ((if 1 < k then enc a else []) ++ if k = 2 then enc d.length ++ d else []), 0, e, (if 1 < k then enc a else []) ++ (if k = 2 then enc d.length ++ d else []), 0, if k = 2 then enc d.length ++ d else [], 0,
    .inr (.inl ⟨rfl, u64_of_le (by omega), by unfold rtext; simp, rfl⟩), hk.1.symm, ?_, he.1.symm, ?_, ?_⟩
  · rw [if_neg (show ¬ k < 1 by omega), hk.2]
    exact .inr (.inl ⟨rfl, u64_of_le (by omega), rfl, rfl⟩)
  · by_cases h1 : k = 1
    · rw [if_pos h1, if_neg (show ¬ 1 < k by omega), if_neg (show ¬ k = 2 by omega), he.2]
      have := z8 (by omega)
      exact ⟨by omega, rfl, rfl⟩
    · rw [if_neg h1, if_pos (show 1 < k by omega), he.2]
      exact ⟨a, 0, .inr (.inl ⟨rfl, u64_of_le (by omega), rfl, rfl⟩), ha.1.symm, ha.2.symm⟩
  · by_cases h2 : k = 2
    · rw [if_pos h2, if_pos h2]
      have hm := many_good (n := d.length) (c := 0) (most := 64) (by omega)
      refine ⟨d.length, d, 0, .inr (.inl ⟨rfl, u64_of_le (by omega), rfl, rfl⟩), ?_⟩
      rw [hm.1, hm.2]
      exact .inr (.inr ⟨rfl, by omega, by omega, by simp, by simp, rfl⟩)
    · rw [if_neg h2, if_neg h2]
      exact ⟨List.length_eq_zero_iff.1 (z9 (by omega)), rfl, rfl⟩
theorem FO.unique {b t t' : List Nat} {c c' : Nat} (h : FO b t c) (h' : FO b t' c') : t = t' ∧ c = c' := by
  obtain ⟨t1, s1, c1, hft, hif⟩ := h
  obtain ⟨t2, s2, c2, hft2, hif2⟩ := h'
  obtain ⟨rfl, rfl, rfl⟩ := hft.unique hft2
  split at hif
  · rename_i h1
    rw [if_pos h1] at hif2
    exact ⟨hif.1.trans hif2.1.symm, hif.2.trans hif2.2.symm⟩
  · rename_i h1
    rw [if_neg h1] at hif2
    split at hif
    · rename_i h2
      rw [if_pos h2] at hif2
      exact ⟨hif.1.trans hif2.1.symm, hif.2.trans hif2.2.symm⟩
    · rename_i h2
      rw [if_neg h2] at hif2
      exact ⟨hif.1.trans hif2.1.symm, hif.2.trans hif2.2.symm⟩
theorem RTake.unique {b : List Nat} {k e a k' e' a' c c' : Nat} {d d' : List Nat} (h : RTake b k e a d c) (h' : RTake b k' e' a' d' c') : k = k' ∧ e = e' ∧ a = a' ∧ d = d' ∧ c = c' := by
  obtain ⟨t, c0, hfo, hif⟩ := h
  obtain ⟨t', c0', hfo', hif'⟩ := h'
  obtain ⟨rfl, rfl⟩ := hfo.unique hfo'
  split at hif
  · rename_i h1
    rw [if_pos h1] at hif'
    obtain ⟨rfl, rfl, rfl, rfl, rfl⟩ := hif
    obtain ⟨rfl, rfl, rfl, rfl, rfl⟩ := hif'
    exact ⟨rfl, rfl, rfl, rfl, rfl⟩
  · rename_i h1
    rw [if_neg h1] at hif'
    obtain ⟨k1, e1, a1, d1, r1, c1, hta, hif⟩ := hif
    obtain ⟨k2, e2, a2, d2, r2, c2, hta', hif'⟩ := hif'
    obtain ⟨rfl, rfl, rfl, rfl, rfl, rfl⟩ := hta.unique hta'
    split at hif
    · rename_i h2
      rw [if_pos h2] at hif'
      obtain ⟨rfl, rfl, rfl, rfl, rfl⟩ := hif
      obtain ⟨rfl, rfl, rfl, rfl, rfl⟩ := hif'
      exact ⟨rfl, rfl, rfl, rfl, rfl⟩
    · rename_i h2
      rw [if_neg h2] at hif'
      split at hif
      · rename_i h3
        rw [if_pos h3] at hif'
        obtain ⟨rfl, rfl, rfl, rfl, rfl⟩ := hif
        obtain ⟨rfl, rfl, rfl, rfl, rfl⟩ := hif'
        exact ⟨rfl, rfl, rfl, rfl, rfl⟩
      · rename_i h3
        rw [if_neg h3] at hif'
        obtain ⟨rfl, rfl, rfl, rfl, rfl⟩ := hif
        obtain ⟨rfl, rfl, rfl, rfl, rfl⟩ := hif'
        exact ⟨rfl, rfl, rfl, rfl, rfl⟩
/-- Take of what Put wrote. -/
theorem rtake_text {k e a : Nat} {d : List Nat} (h : rchk k e a d.length = 0) : RTake (fr (rtext k e a d)) k e a d 0 := by
  obtain ⟨z1, z2, z3, z4, z5, z6, z7, z8, z9, _⟩ := rchk_zero h
  have hl : (rtext k e a d).length ≤ 65536 := Nat.le_trans (rtext_le (u64_of_le (by omega)) (u64_of_le (by omega)) (u64_of_le (by omega)) z7) (by decide)
  have h2 := ft_fr hl []
  rw [List.append_nil] at h2
  refine ⟨rtext k e a d, 0, ⟨_, _, _, h2, by rw [if_neg (by decide), if_neg (by rw [fr_length]; omega)]; exact ⟨rfl, rfl⟩⟩, ?_⟩
  rw [if_neg (by decide)]
  refine ⟨k, e, a, d, [], 0, tact_text h, ?_⟩
  rw [if_neg (by decide), if_neg (by rw [h]; decide)]
  exact ⟨rfl, rfl, rfl, rfl, rfl⟩
/-- A reader's errors stay. -/
theorem NumRel.err {rest r : List Nat} {c n c' : Nat} (h : NumRel rest c n r c') (hc : c' = 0) : c = 0 ∧ U64 n ∧ rest = enc n ++ r := by
  rcases h with ⟨h1, _, _, h4⟩ | ⟨h1, h2, h3, _⟩ | ⟨_, _, _, h4, _⟩
  · omega
  · exact ⟨h1, h2, h3⟩
  · omega
theorem withinC_err {n c most : Nat} (h : withinC n c most = 0) : c = 0 ∧ n ≤ most ∧ withinR n most = n := by
  unfold withinC at h
  split at h
  · split at h
    · cases h
    · omega
  · rename_i h1
    exact ⟨h, by omega, (within_good (c := c) h1).1⟩
/-- What is taken without an error has just these bytes. -/
theorem tact_back {t d r : List Nat} {k e a c : Nat} (h : TAct t k e a d r c) (hc : c = 0) (hr : r = []) : t = rtext k e a d := by
  obtain ⟨n1, r1, c1, n2, r2, c2, r3, c3, p1, rfl, p2, rfl, p3, p4⟩ := h
  have h4 : c3 = 0 ∧ (r3 = if withinR n1 5 = 2 then enc d.length ++ d else []) := by
    by_cases h2 : withinR n1 5 = 2
    · rw [if_pos h2] at p4
      obtain ⟨n4, r4, c5, x1, x2⟩ := p4
      rcases x2 with ⟨y1, _, _, y4⟩ | ⟨_, _, _, _, y5⟩ | ⟨y1, y2, y3, y4, y5, _⟩
      · omega
      · omega
      · have hmc : c5 = 0 ∧ manyR n4 64 = n4 := by
          unfold manyC at y1
          split at y1
          · split at y1
            · cases y1
            · omega
          · rename_i h9
            exact ⟨y1, (many_good (c := c5) h9).1⟩
        obtain ⟨q1, q2, q3⟩ := x1.err hmc.1
        rw [hmc.2] at y2 y3 y4 y5
        rw [hr] at y5
        have hlen : r4.length ≤ n4 := by
          have := congrArg List.length y5
          simp at this
          omega
        have hd : d = r4 := by rw [y4, Int.toNat_natCast, List.take_of_length_le hlen]
        refine ⟨q1, ?_⟩
        rw [if_pos h2, q3, hd, show n4 = r4.length by simp at y3; omega]
    · rw [if_neg h2] at p4
      rw [if_neg h2]
      exact ⟨by omega, by rw [← p4.2.1, hr]⟩
  obtain ⟨hc3, hr3⟩ := h4
  have h3 : withinC n2 c2 1099511627776 = 0 ∧ (r2 = (if 1 < withinR n1 5 then enc a else []) ++ r3 ∨ withinR n1 5 < 1) := by
    by_cases h1 : withinR n1 5 = 1
    · rw [if_pos h1] at p3
      exact ⟨by omega, .inl (by rw [if_neg (by omega), p3.2.1]; rfl)⟩
    · rw [if_neg h1] at p3
      obtain ⟨n3, c4, x1, x2, x3⟩ := p3
      obtain ⟨y1, y2, y3⟩ := withinC_err (x3.symm.trans hc3)
      obtain ⟨q1, q2, q3⟩ := x1.err y1
      refine ⟨q1, ?_⟩
      by_cases h9 : 1 < withinR n1 5
      · exact .inl (by rw [if_pos h9, q3, x2, y3])
      · exact .inr (by omega)
  obtain ⟨hc2, hr2⟩ := h3
  obtain ⟨y1, y2, y3⟩ := withinC_err hc2
  obtain ⟨q1, q2, q3⟩ := p2.err y1
  have hk : ¬ withinR n1 5 < 1 := by
    intro h9
    rw [if_pos h9] at q1
    split at q1
    · cases q1
    · rename_i h8
      exact h8 q1
  rw [if_neg hk] at q1
  obtain ⟨z1, z2, z3⟩ := withinC_err q1
  obtain ⟨s1, s2, s3⟩ := p1.err z1
  rcases hr2 with hr2 | hr2
  · rw [s3, q3, hr2, hr3, y3]
    unfold rtext
    rw [z3]
    simp
  · exact absurd hr2 hk
/-- Bytes that are one frame alone. -/
theorem ft_whole {b t : List Nat} {s : Nat} (h : FT b t s 0) (hs : ¬ s < b.length) : b = fr t := by
  rcases h with ⟨h1, _⟩ | ⟨n, hn, ⟨r, hp⟩, h⟩
  · cases h1
  · rcases h with ⟨h1, _⟩ | ⟨h1, _⟩ | ⟨h1, _⟩ | ⟨_, h2, h3, h4, h5, h6⟩
    · cases h1
    · cases h1
    · cases h1
    · have hlr : r.length = n + 4 := by
        have := congrArg List.length hp
        simp at this
        omega
      have ht : b.take ((enc n).length + n) = enc n ++ r.take n := by rw [← hp, List.take_length_add_append]
      have hd : b.drop ((enc n).length + n) = r.drop n := by rw [← hp, List.drop_length_add_append]
      have htt : t = r.take n := by rw [h2, ht, List.drop_left]
      have htl : t.length = n := by rw [htt, List.length_take]; omega
      have hfb : fbody t = b.take ((enc n).length + n) := by
        unfold fbody
        rw [htl, ht, htt]
      have h4' : (b.drop ((enc n).length + n)).take 4 = b.drop ((enc n).length + n) := by
        rw [hd, List.take_of_length_le (by rw [List.length_drop]; omega)]
      unfold fr
      rw [hfb, h6, h4', List.take_append_drop]
theorem rtake_back {b d : List Nat} {k e a : Nat} (h : RTake b k e a d 0) : b = fr (rtext k e a d) ∧ rchk k e a d.length = 0 := by
  obtain ⟨t, c0, ⟨t1, s1, c1, hft, hif1⟩, hif⟩ := h
  split at hif
  · rename_i h1
    exact absurd hif.2.2.2.2.symm h1
  · rename_i h1
    obtain rfl : c0 = 0 := Classical.not_not.1 h1
    split at hif1
    · rename_i h2
      exact absurd hif1.2.symm h2
    · rename_i h2
      obtain rfl : c1 = 0 := Classical.not_not.1 h2
      split at hif1
      · cases hif1.2
      · rename_i h3
        obtain ⟨k1, e1, a1, d1, r1, c2, hta, hif⟩ := hif
        split at hif
        · rename_i h4
          exact absurd hif.2.2.2.2.symm h4
        · rename_i h4
          split at hif
          · rename_i h5
            exact absurd hif.2.2.2.2.symm h5
          · rename_i h5
            obtain ⟨rfl, rfl, rfl, rfl, _⟩ := hif
            have h6 : endC r1.length c2 = 0 := Classical.not_not.1 h4
            unfold endC at h6
            split at h6
            · omega
            · rename_i h7
              split at h6
              · rename_i h8
                refine ⟨?_, Classical.not_not.1 h5⟩
                rw [← tact_back hta (Classical.not_not.1 h7) (List.length_eq_zero_iff.1 h8), hif1.1]
                exact ft_whole hft h3
              · cases h6
end Go.Proofs.YtlckadlkgjfjcaaGreatDoor
