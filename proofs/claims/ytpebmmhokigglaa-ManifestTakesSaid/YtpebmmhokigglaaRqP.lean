/- Acts as they are recorded: taken by the program. · Acts as they are recorded: Take; what is alive. · Acts as they are recorded: what is alive; a kind's word. · Acts that came in. · Acts as they are recorded: there and back, the mathematics. · The contracts of package cell's Check, Same, May, Copy, Later, Word. · The contracts of package cell's Copy, Later, Word. · Slices of cells; the law's own Long. -/
import Derived.Test.YtpebmmhokigglaaRaP
import Derived.Test.YtpebmmhokigglaaRdP
import Derived.Test.YtpebmmhokigglaaDaP
import Derived.ProofKit
import Derived.Deep.Slices
import Derived.Deep.Grids
import Derived.ChangeSame
namespace Go.Proofs.Ytpebmmhokigglaa
open Go.RowKit

/-- What an act's text begins with: what is taken, what is left, an error's number. -/
def TAct (rest : List Nat) (k e a : Nat) (d rest' : List Nat) (c' : Nat) : Prop :=
  ∃ n1 r1 c1 n2 r2 c2 r3 c3, NumRel rest 0 n1 r1 c1 ∧ k = withinR n1 5 ∧ NumRel r1 (if k < 1 then (if withinC n1 c1 5 = 0 then 1 else withinC n1 c1 5) else withinC n1 c1 5) n2 r2 c2 ∧ e = withinR n2 1099511627776 ∧
    (if k = 1 then a = 0 ∧ r3 = r2 ∧ c3 = withinC n2 c2 1099511627776 else ∃ n3 c4, NumRel r2 (withinC n2 c2 1099511627776) n3 r3 c4 ∧ a = withinR n3 1048576 ∧ c3 = withinC n3 c4 1048576) ∧
    (if k = 2 then ∃ n4 r4 c5, NumRel r3 c3 n4 r4 c5 ∧ FixRel r4 (manyC n4 c5 64) (manyR n4 64 : Nat) d rest' c' else d = [] ∧ rest' = r3 ∧ c' = c3)
theorem TAct.unique {rest : List Nat} {k e a k' e' a' : Nat} {d d' r r' : List Nat} {c c' : Nat} (h : TAct rest k e a d r c) (h' : TAct rest k' e' a' d' r' c') : k = k' ∧ e = e' ∧ a = a' ∧ d = d' ∧ r = r' ∧ c = c' := by
  obtain ⟨n1, r1, c1, n2, r2, c2, r3, c3, p1, rfl, p2, rfl, p3, p4⟩ := h
  obtain ⟨m1, s1, b1, m2, s2, b2, s3, b3, q1, rfl, q2, rfl, q3, q4⟩ := h'
  obtain ⟨rfl, rfl, rfl⟩ := p1.unique q1
  obtain ⟨rfl, rfl, rfl⟩ := p2.unique q2
  obtain ⟨rfl, rfl, rfl⟩ : a = a' ∧ r3 = s3 ∧ c3 = b3 := by
    by_cases h1 : withinR n1 5 = 1
    · rw [if_pos h1] at p3 q3
      exact ⟨p3.1.trans q3.1.symm, p3.2.1.trans q3.2.1.symm, p3.2.2.trans q3.2.2.symm⟩
    · rw [if_neg h1] at p3 q3
      obtain ⟨n3, c4, x1, x2, x3⟩ := p3
      obtain ⟨m3, b4, y1, y2, y3⟩ := q3
      obtain ⟨rfl, rfl, rfl⟩ := x1.unique y1
      exact ⟨x2.trans y2.symm, rfl, x3.trans y3.symm⟩
  obtain ⟨rfl, rfl, rfl⟩ : d = d' ∧ r = r' ∧ c = c' := by
    by_cases h2 : withinR n1 5 = 2
    · rw [if_pos h2] at p4 q4
      obtain ⟨n4, r4, c5, x1, x2⟩ := p4
      obtain ⟨m4, s4, b5, y1, y2⟩ := q4
      obtain ⟨rfl, rfl, rfl⟩ := x1.unique y1
      exact x2.unique y2
    · rw [if_neg h2] at p4 q4
      exact ⟨p4.1.trans q4.1.symm, p4.2.1.trans q4.2.1.symm, p4.2.2.trans q4.2.2.symm⟩
  exact ⟨rfl, rfl, rfl, rfl, rfl, rfl⟩

/-- A reader behind what was done to it since w, and what was made behind w. -/
structure RdS (w W : World) (p : Nat) (rv : Value) (row : List Nat) (place c : Nat) : Prop where
  rd : Rd W p rv row place c
  gr : w.grownBy W (some p)
  lt : p < w.heap.size
section
variable {w W W' : World} {p : Nat} {rv : Value} {row : List Nat} {place c place' c' : Nat}
theorem RdS.step (h : RdS w W p rv row place c) (hr : Rd W' p rv row place' c') (hg : W.grownBy W' (some p)) : RdS w W' p rv row place' c' := ⟨hr, grownBy_trans h.gr hg (fun _ hj _ => hj), h.lt⟩
theorem RdS.old (h : RdS w W p rv row place c) (hb : Below W.heap.size W W') : RdS w W' p rv row place c := h.step (h.rd.below hb (Nat.le_refl _)) (grown_of_below hb _)
theorem RdS.set (h : RdS w W p rv row place c) {q : Nat} (hq : w.heap.size ≤ q) (i : Nat) (x : Value) : RdS w (W.setCell ⟨q, i, none⟩ x) p rv row place c := by
  have hl := h.lt
  have hg := grown_set W q i x
  refine ⟨h.rd.grown hg (fun e => by cases e; omega) ?_, ⟨hg.os.trans h.gr.os, hg.tape.trans h.gr.tape, hg.output.trans h.gr.output, Nat.le_trans h.gr.size hg.size, fun j hj hne => (hg.block j (Nat.lt_of_lt_of_le hj h.gr.size) (fun e => by cases e; omega)).trans (h.gr.block j hj hne)⟩, h.lt⟩
  cases hv : rv.ownBlock with
  | none => exact .inl rfl
  | some g =>
    right
    intro e
    cases e
    have := h.rd.off _ hv
    omega
end
/-- What takeAct answers. -/
def TActPost (p : Nat) (rv : Value) (row : List Nat) (w : World) (r : Ending) (w' : World) : Prop :=
  ∃ (k e a : Nat) (v : Value) (d : List Nat) (place' c' : Nat), r = .returned (.agg #[.int .i64 (k : Int), .int .i64 (e : Int), .int .i64 (a : Int), v]) ∧ TAct row k e a d (row.drop place') c' ∧ Owns w' w.heap.size 5 .u8 v d ∧ Rd w' p rv row place' c' ∧ w.grownBy w' (some p)

def actV (k e a : Nat) (v : Value) : Array Value := #[.int .i64 (k : Int), .int .i64 (e : Int), .int .i64 (a : Int), v]
theorem four_cells9 {w : World} {p : Nat} {c0 c1 c2 c3 : Value} {e : TypeId} (h : w.heap[p]? = some (.cells #[c0, c1, c2, c3] e (0, 0))) :
    w.cell? ⟨p, 0, none⟩ = some c0 ∧ w.cell? ⟨p, 1, none⟩ = some c1 ∧ w.cell? ⟨p, 2, none⟩ = some c2 ∧ w.cell? ⟨p, 3, none⟩ = some c3 ∧ ∀ i, w.frozen? ⟨p, i, none⟩ = false :=
  ⟨by rw [cell_of_row _ _ 0 _ _ _ h]; rfl, by rw [cell_of_row _ _ 1 _ _ _ h]; rfl, by rw [cell_of_row _ _ 2 _ _ _ h]; rfl, by rw [cell_of_row _ _ 3 _ _ _ h]; rfl, fun i => frozen_of_row _ _ i _ _ h⟩

theorem Owns.put9 {w : World} {base q : Nat} {e : TypeId} {v : Value} {l : List Nat} (h : Owns w base e .u8 v l) (hq : ∀ j, v.ownBlock = some j → j ≠ q) (i : Nat) (x : Value) : Owns (w.setCell ⟨q, i, none⟩ x) base e .u8 v l := by
  refine h.grown (row := some q) (grown_set w q i x) ?_
  cases hv : v.ownBlock with
  | none => exact .inl rfl
  | some j =>
    right
    intro he
    exact hq j hv (Option.some.inj he)

end Go.Proofs.Ytpebmmhokigglaa

namespace Go.Proofs.Ytpebmmhokigglaa
open Go.RowKit

/-- What the program's Take answers: the act, an error's number. -/
def RTake (b : List Nat) (k e a : Nat) (d : List Nat) (c : Nat) : Prop :=
  ∃ t c0, FO b t c0 ∧ if c0 ≠ 0 then k = 0 ∧ e = 0 ∧ a = 0 ∧ d = [] ∧ c = c0 else
    ∃ k1 e1 a1 d1 r1 c1, TAct t k1 e1 a1 d1 r1 c1 ∧
      if endC r1.length c1 ≠ 0 then k = 0 ∧ e = 0 ∧ a = 0 ∧ d = [] ∧ c = endC r1.length c1
      else if rchk k1 e1 a1 d1.length ≠ 0 then k = 0 ∧ e = 0 ∧ a = 0 ∧ d = [] ∧ c = rchk k1 e1 a1 d1.length else k = k1 ∧ e = e1 ∧ a = a1 ∧ d = d1 ∧ c = 0
def RTakePost (b : List Nat) (w : World) (r : Ending) (w' : World) : Prop :=
  ∃ (k e a : Nat) (v : Value) (d : List Nat) (c : Nat), r = .returned (.tuple #[.agg #[.int .i64 (k : Int), .int .i64 (e : Int), .int .i64 (a : Int), v], errV c]) ∧ RTake b k e a d c ∧ Owns w' w.heap.size 5 .u8 v d ∧ Below w.heap.size w w'

theorem below_four {w W : World} (h : Below w.heap.size w W) (a b c d : Value) : Below w.heap.size w ((((W.setCell ⟨w.heap.size, 0, none⟩ a).setCell ⟨w.heap.size, 1, none⟩ b).setCell ⟨w.heap.size, 2, none⟩ c).setCell ⟨w.heap.size, 3, none⟩ d) :=
  (((h.setCell (Nat.le_refl _) _).setCell (Nat.le_refl _) _).setCell (Nat.le_refl _) _).setCell (Nat.le_refl _) _
theorem four_set {w W : World} {T : TypeId} {x0 x1 x2 x3 : Value} (h : W.heap[w.heap.size]? = some (.cells #[x0, x1, x2, x3] T (0, 0))) (a b c d : Value) :
    ((((W.setCell ⟨w.heap.size, 0, none⟩ a).setCell ⟨w.heap.size, 1, none⟩ b).setCell ⟨w.heap.size, 2, none⟩ c).setCell ⟨w.heap.size, 3, none⟩ d).heap[w.heap.size]? = some (.cells #[a, b, c, d] T (0, 0)) :=
  heap_setCell_same _ w.heap.size 3 _ _ _ (heap_setCell_same _ w.heap.size 2 _ _ _ (heap_setCell_same _ w.heap.size 1 _ _ _ (heap_setCell_same _ w.heap.size 0 _ _ _ h)))

end Go.Proofs.Ytpebmmhokigglaa

namespace Go.Proofs.Ytpebmmhokigglaa
open Go.RowKit

theorem fo_fr {t t' : List Nat} {c : Nat} (ht : t.length ≤ 65536) (h : FO (fr t) t' c) : t' = t ∧ c = 0 := by
  obtain ⟨t1, s1, c1, hft, hif⟩ := h
  have h2 := ft_fr ht []
  rw [List.append_nil] at h2
  obtain ⟨rfl, rfl, rfl⟩ := hft.unique h2
  rw [if_neg (by decide), if_neg (by rw [fr_length]; omega)] at hif
  exact hif
theorem tact_one : TAct [1, 1] 1 1 0 [] [] 0 :=
  ⟨1, [1], 0, 1, [], 0, [], 0, .inr (.inl ⟨rfl, by unfold U64; decide, by rw [enc_small (by decide)]; rfl, rfl⟩), by decide, .inr (.inl ⟨by decide, by unfold U64; decide, by rw [enc_small (by decide)]; rfl, rfl⟩), by decide, by rw [if_pos rfl]; exact ⟨rfl, rfl, by decide⟩, by rw [if_neg (by decide)]; exact ⟨rfl, rfl, rfl⟩⟩
theorem rtake_one {k e a c : Nat} {d : List Nat} (h : RTake (fr [1, 1]) k e a d c) : k = 1 ∧ e = 1 ∧ c = 0 := by
  obtain ⟨t, c0, hfo, hif⟩ := h
  obtain ⟨rfl, rfl⟩ := fo_fr (by decide) hfo
  rw [if_neg (by decide)] at hif
  obtain ⟨k1, e1, a1, d1, r1, c1, hta, hif⟩ := hif
  obtain ⟨rfl, rfl, rfl, rfl, rfl, rfl⟩ := hta.unique tact_one
  rw [if_neg (by decide), if_neg (by decide)] at hif
  exact ⟨hif.1, hif.2.1, hif.2.2.2.2⟩
theorem rtext_one : rtext 1 1 0 [] = [1, 1] := by
  unfold rtext
  rw [if_neg (by decide), if_neg (by decide), enc_small (by decide)]
  rfl
theorem fr_one : (fr [1, 1]).length = 7 ∧ (fr [1, 1]).getD 1 0 = 1 ∧ (fr [1, 1]).getD 2 0 = 1 := by
  have h : fr [1, 1] = [2, 1, 1] ++ four (crcx 0 (fbody [1, 1])) := by
    unfold fr
    rw [show fbody [1, 1] = [2, 1, 1] by unfold fbody; rw [show ([1, 1] : List Nat).length = 2 from rfl, enc_small (by decide)]; rfl]
  refine ⟨by rw [fr_length]; unfold fsize; rw [show ([1, 1] : List Nat).length = 2 from rfl, enc_small (by decide)]; rfl, by rw [h]; rfl, by rw [h]; rfl⟩

/-- A kind's word. -/
def wordS (k : Int) : ByteArray := if k = 1 then ⟨#[115, 101, 97, 108]⟩ else if k = 2 then ⟨#[119, 114, 105, 116, 101]⟩ else if k = 3 then ⟨#[102, 105, 108, 108]⟩ else if k = 4 then ⟨#[116, 114, 105, 109]⟩ else if k = 5 then ⟨#[99, 117, 116]⟩ else ⟨#[]⟩
end Go.Proofs.Ytpebmmhokigglaa

namespace Go.Proofs.Ytpebmmhokigglaa
open Go.RowKit Go.ChangeShapes Go.WideShapes Go.Deep

section
variable {H : Type} {enc : TypeId × Value → H} {P : Program} {w : World} {base : Nat} {spare : Nat → Bool} {held : Bool}
theorem trod_structR4 {t : TypeId} {f0 f1 f2 f3 : Field} {fuel : Nat} {cs : List Value} {x : DataW H × List MemPlace} (ht : P.underlying t = some (.struct #[f0, f1, f2, f3])) (h : DataW.trod enc P w base spare held fuel t cs = some x) :
    ∃ y0 y1 y2 y3 n, cs.length = P.cellsOf t ∧ DataW.trod enc P w base spare held n f0.type ((cs.drop f0.offset).take (P.cellsOf f0.type)) = some y0 ∧
      DataW.trod enc P w base spare held n f1.type ((cs.drop f1.offset).take (P.cellsOf f1.type)) = some y1 ∧ DataW.trod enc P w base spare held n f2.type ((cs.drop f2.offset).take (P.cellsOf f2.type)) = some y2 ∧
      DataW.trod enc P w base spare held n f3.type ((cs.drop f3.offset).take (P.cellsOf f3.type)) = some y3 := by
  obtain ⟨xs, n, _, rfl, hl, hlen, hf⟩ := DataW.trod_struct ht h
  match xs, hlen with
  | [y0, y1, y2, y3], _ => exact ⟨y0, y1, y2, y3, n, hl, by simpa using hf 0 f0 rfl, by simpa using hf 1 f1 rfl, by simpa using hf 2 f2 rfl, by simpa using hf 3 f3 rfl⟩
end
theorem bytes_inR {H : Type} {enc : TypeId × Value → H} {W : World} {base : Nat} {held : Bool} {fuel : Nat} {v : Value} {x : DataW H × List MemPlace}
    (h : DataW.trod enc Try.prog W base (fun _ => true) held fuel 22 [v] = some x) : ∃ l, Reads W .u8 v l ∧ ∀ y ∈ l, y < 256 := by
  rcases open_ints Try.underlying22 Try.underlying5 (by kernel_rfl) h with ⟨hv, _⟩ | ⟨x2, l2, c2, zs, hv, _, hl2, hm2, hz, _, hcell, hwz⟩
  · rw [List.singleton_inj] at hv
    subst hv
    exact ⟨[], ⟨none, 0, rfl, by simp, by simp [maxLen], fun _ => rfl, .inl rfl⟩, by simp⟩
  · rw [List.singleton_inj] at hv
    subst hv
    obtain ⟨l3, hl3, hr3, hw3⟩ := reads_of_row (w := W) (k := .u8) (a := some x2) (len := l2) (cap := c2) (zs := zs) (.inr ⟨x2, rfl, hl2, hm2, by simpa using hz, hcell, hwz⟩) (fun n h => (wf_u8 h).1)
    exact ⟨l3, hr3, fun y hy => by have := wf_u8 (hw3 y hy); omega⟩
theorem int_inR {H : Type} {enc : TypeId × Value → H} {W : World} {base : Nat} {held : Bool} {fuel : Nat} {v : Value} {x : DataW H × List MemPlace}
    (h : DataW.trod enc Try.prog W base (fun _ => true) held fuel 3 [v] = some x) : ∃ n : Int, v = .int .i64 n ∧ -9223372036854775808 ≤ n ∧ n ≤ 9223372036854775807 := by
  obtain ⟨n, hv, _, hw⟩ := DataW.trod_int Try.underlying3 h
  rw [List.singleton_inj] at hv
  have := wf_i64 hw
  exact ⟨n, hv, this.1, this.2⟩
end Go.Proofs.Ytpebmmhokigglaa

namespace Go.Proofs.Ytpebmmhokigglaa
open Go.RowKit

theorem withinR_id {n most : Nat} (h : n ≤ most) (hm : most ≤ 4611686018427387904) : withinR n most = n ∧ withinC n 0 most = 0 := by
  have h1 := within_good (n := n) (c := 0) (most := most) (by omega)
  exact h1
/-- What is put is taken. -/
theorem tact_text {k e a : Nat} {d : List Nat} (h : rchk k e a d.length = 0) : TAct (rtext k e a d) k e a d [] 0 := by
  obtain ⟨z1, z2, z3, z4, z5, z6, z7, z8, z9, _⟩ := rchk_zero h
  have hk := withinR_id (n := k) (most := 5) (by omega) (by decide)
  have he := withinR_id (n := e) (most := 1099511627776) (by omega) (by decide)
  have ha := withinR_id (n := a) (most := 1048576) (by omega) (by decide)
  have hd := enc_len10 (u64_of_le (n := d.length) (by omega))
  refine ⟨k, enc e ++ ((if 1 < k then enc a else []) ++ if k = 2 then enc d.length ++ d else []), 0, e, (if 1 < k then enc a else []) ++ (if k = 2 then enc d.length ++ d else []), 0, if k = 2 then enc d.length ++ d else [], 0,
    .inr (.inl ⟨rfl, u64_of_le (by omega), by unfold rtext; simp, rfl⟩), hk.1.symm, ?_, he.1.symm, ?_, ?_⟩
  · rw [if_neg (show ¬ k < 1 by omega), hk.2]
    exact .inr (.inl ⟨rfl, u64_of_le (by omega), rfl, rfl⟩)
  · by_cases h1 : k = 1
    · rw [if_pos h1, if_neg (show ¬ 1 < k by omega), if_neg (show ¬ k = 2 by omega), he.2]
      have := z8 (by omega)
      exact ⟨by omega, rfl, rfl⟩
    · rw [if_neg h1, if_pos (show 1 < k by omega), he.2]
      exact ⟨a, 0, .inr (.inl ⟨rfl, u64_of_le (by omega), rfl, rfl⟩), ha.1.symm, ha.2.symm⟩
  · by_cases h2 : k = 2
    · rw [if_pos h2, if_pos h2]
      have hm := many_good (n := d.length) (c := 0) (most := 64) (by omega)
      refine ⟨d.length, d, 0, .inr (.inl ⟨rfl, u64_of_le (by omega), rfl, rfl⟩), ?_⟩
      rw [hm.1, hm.2]
      exact .inr (.inr ⟨rfl, by omega, by omega, by simp, by simp, rfl⟩)
    · rw [if_neg h2, if_neg h2]
      exact ⟨List.length_eq_zero_iff.1 (z9 (by omega)), rfl, rfl⟩
theorem FO.unique {b t t' : List Nat} {c c' : Nat} (h : FO b t c) (h' : FO b t' c') : t = t' ∧ c = c' := by
  obtain ⟨t1, s1, c1, hft, hif⟩ := h
  obtain ⟨t2, s2, c2, hft2, hif2⟩ := h'
  obtain ⟨rfl, rfl, rfl⟩ := hft.unique hft2
  split at hif
  · rename_i h1
    rw [if_pos h1] at hif2
    exact ⟨hif.1.trans hif2.1.symm, hif.2.trans hif2.2.symm⟩
  · rename_i h1
    rw [if_neg h1] at hif2
    split at hif
    · rename_i h2
      rw [if_pos h2] at hif2
      exact ⟨hif.1.trans hif2.1.symm, hif.2.trans hif2.2.symm⟩
    · rename_i h2
      rw [if_neg h2] at hif2
      exact ⟨hif.1.trans hif2.1.symm, hif.2.trans hif2.2.symm⟩
theorem RTake.unique {b : List Nat} {k e a k' e' a' c c' : Nat} {d d' : List Nat} (h : RTake b k e a d c) (h' : RTake b k' e' a' d' c') : k = k' ∧ e = e' ∧ a = a' ∧ d = d' ∧ c = c' := by
  obtain ⟨t, c0, hfo, hif⟩ := h
  obtain ⟨t', c0', hfo', hif'⟩ := h'
  obtain ⟨rfl, rfl⟩ := hfo.unique hfo'
  split at hif
  · rename_i h1
    rw [if_pos h1] at hif'
    obtain ⟨rfl, rfl, rfl, rfl, rfl⟩ := hif
    obtain ⟨rfl, rfl, rfl, rfl, rfl⟩ := hif'
    exact ⟨rfl, rfl, rfl, rfl, rfl⟩
  · rename_i h1
    rw [if_neg h1] at hif'
    obtain ⟨k1, e1, a1, d1, r1, c1, hta, hif⟩ := hif
    obtain ⟨k2, e2, a2, d2, r2, c2, hta', hif'⟩ := hif'
    obtain ⟨rfl, rfl, rfl, rfl, rfl, rfl⟩ := hta.unique hta'
    split at hif
    · rename_i h2
      rw [if_pos h2] at hif'
      obtain ⟨rfl, rfl, rfl, rfl, rfl⟩ := hif
      obtain ⟨rfl, rfl, rfl, rfl, rfl⟩ := hif'
      exact ⟨rfl, rfl, rfl, rfl, rfl⟩
    · rename_i h2
      rw [if_neg h2] at hif'
      split at hif
      · rename_i h3
        rw [if_pos h3] at hif'
        obtain ⟨rfl, rfl, rfl, rfl, rfl⟩ := hif
        obtain ⟨rfl, rfl, rfl, rfl, rfl⟩ := hif'
        exact ⟨rfl, rfl, rfl, rfl, rfl⟩
      · rename_i h3
        rw [if_neg h3] at hif'
        obtain ⟨rfl, rfl, rfl, rfl, rfl⟩ := hif
        obtain ⟨rfl, rfl, rfl, rfl, rfl⟩ := hif'
        exact ⟨rfl, rfl, rfl, rfl, rfl⟩
/-- Take of what Put wrote. -/
theorem rtake_text {k e a : Nat} {d : List Nat} (h : rchk k e a d.length = 0) : RTake (fr (rtext k e a d)) k e a d 0 := by
  obtain ⟨z1, z2, z3, z4, z5, z6, z7, z8, z9, _⟩ := rchk_zero h
  have hl : (rtext k e a d).length ≤ 65536 := Nat.le_trans (rtext_le (u64_of_le (by omega)) (u64_of_le (by omega)) (u64_of_le (by omega)) z7) (by decide)
  have h2 := ft_fr hl []
  rw [List.append_nil] at h2
  refine ⟨rtext k e a d, 0, ⟨_, _, _, h2, by rw [if_neg (by decide), if_neg (by rw [fr_length]; omega)]; exact ⟨rfl, rfl⟩⟩, ?_⟩
  rw [if_neg (by decide)]
  refine ⟨k, e, a, d, [], 0, tact_text h, ?_⟩
  rw [if_neg (by decide), if_neg (by rw [h]; decide)]
  exact ⟨rfl, rfl, rfl, rfl, rfl⟩
/-- A reader's errors stay. -/
theorem NumRel.err {rest r : List Nat} {c n c' : Nat} (h : NumRel rest c n r c') (hc : c' = 0) : c = 0 ∧ U64 n ∧ rest = enc n ++ r := by
  rcases h with ⟨h1, _, _, h4⟩ | ⟨h1, h2, h3, _⟩ | ⟨_, _, _, h4, _⟩
  · omega
  · exact ⟨h1, h2, h3⟩
  · omega
theorem withinC_err {n c most : Nat} (h : withinC n c most = 0) : c = 0 ∧ n ≤ most ∧ withinR n most = n := by
  unfold withinC at h
  split at h
  · split at h
    · cases h
    · omega
  · rename_i h1
    exact ⟨h, by omega, (within_good (c := c) h1).1⟩
/-- What is taken without an error has just these bytes. -/
theorem tact_back {t d r : List Nat} {k e a c : Nat} (h : TAct t k e a d r c) (hc : c = 0) (hr : r = []) : t = rtext k e a d := by
  obtain ⟨n1, r1, c1, n2, r2, c2, r3, c3, p1, rfl, p2, rfl, p3, p4⟩ := h
  have h4 : c3 = 0 ∧ (r3 = if withinR n1 5 = 2 then enc d.length ++ d else []) := by
    by_cases h2 : withinR n1 5 = 2
    · rw [if_pos h2] at p4
      obtain ⟨n4, r4, c5, x1, x2⟩ := p4
      rcases x2 with ⟨y1, _, _, y4⟩ | ⟨_, _, _, _, y5⟩ | ⟨y1, y2, y3, y4, y5, _⟩
      · omega
      · omega
      · have hmc : c5 = 0 ∧ manyR n4 64 = n4 := by
          unfold manyC at y1
          split at y1
          · split at y1
            · cases y1
            · omega
          · rename_i h9
            exact ⟨y1, (many_good (c := c5) h9).1⟩
        obtain ⟨q1, q2, q3⟩ := x1.err hmc.1
        rw [hmc.2] at y2 y3 y4 y5
        rw [hr] at y5
        have hlen : r4.length ≤ n4 := by
          have := congrArg List.length y5
          simp at this
          omega
        have hd : d = r4 := by rw [y4, Int.toNat_natCast, List.take_of_length_le hlen]
        refine ⟨q1, ?_⟩
        rw [if_pos h2, q3, hd, show n4 = r4.length by simp at y3; omega]
    · rw [if_neg h2] at p4
      rw [if_neg h2]
      exact ⟨by omega, by rw [← p4.2.1, hr]⟩
  obtain ⟨hc3, hr3⟩ := h4
  have h3 : withinC n2 c2 1099511627776 = 0 ∧ (r2 = (if 1 < withinR n1 5 then enc a else []) ++ r3 ∨ withinR n1 5 < 1) := by
    by_cases h1 : withinR n1 5 = 1
    · rw [if_pos h1] at p3
      exact ⟨by omega, .inl (by rw [if_neg (by omega), p3.2.1]; rfl)⟩
    · rw [if_neg h1] at p3
      obtain ⟨n3, c4, x1, x2, x3⟩ := p3
      obtain ⟨y1, y2, y3⟩ := withinC_err (x3.symm.trans hc3)
      obtain ⟨q1, q2, q3⟩ := x1.err y1
      refine ⟨q1, ?_⟩
      by_cases h9 : 1 < withinR n1 5
      · exact .inl (by rw [if_pos h9, q3, x2, y3])
      · exact .inr (by omega)
  obtain ⟨hc2, hr2⟩ := h3
  obtain ⟨y1, y2, y3⟩ := withinC_err hc2
  obtain ⟨q1, q2, q3⟩ := p2.err y1
  have hk : ¬ withinR n1 5 < 1 := by
    intro h9
    rw [if_pos h9] at q1
    split at q1
    · cases q1
    · rename_i h8
      exact h8 q1
  rw [if_neg hk] at q1
  obtain ⟨z1, z2, z3⟩ := withinC_err q1
  obtain ⟨s1, s2, s3⟩ := p1.err z1
  rcases hr2 with hr2 | hr2
  · rw [s3, q3, hr2, hr3, y3]
    unfold rtext
    rw [z3]
    simp
  · exact absurd hr2 hk
/-- Bytes that are one frame alone. -/
theorem ft_whole {b t : List Nat} {s : Nat} (h : FT b t s 0) (hs : ¬ s < b.length) : b = fr t := by
  rcases h with ⟨h1, _⟩ | ⟨n, hn, ⟨r, hp⟩, h⟩
  · cases h1
  · rcases h with ⟨h1, _⟩ | ⟨h1, _⟩ | ⟨h1, _⟩ | ⟨_, h2, h3, h4, h5, h6⟩
    · cases h1
    · cases h1
    · cases h1
    · have hlr : r.length = n + 4 := by
        have := congrArg List.length hp
        simp at this
        omega
      have ht : b.take ((enc n).length + n) = enc n ++ r.take n := by rw [← hp, List.take_length_add_append]
      have hd : b.drop ((enc n).length + n) = r.drop n := by rw [← hp, List.drop_length_add_append]
      have htt : t = r.take n := by rw [h2, ht, List.drop_left]
      have htl : t.length = n := by rw [htt, List.length_take]; omega
      have hfb : fbody t = b.take ((enc n).length + n) := by
        unfold fbody
        rw [htl, ht, htt]
      have h4' : (b.drop ((enc n).length + n)).take 4 = b.drop ((enc n).length + n) := by
        rw [hd, List.take_of_length_le (by rw [List.length_drop]; omega)]
      unfold fr
      rw [hfb, h6, h4', List.take_append_drop]
theorem rtake_back {b d : List Nat} {k e a : Nat} (h : RTake b k e a d 0) : b = fr (rtext k e a d) ∧ rchk k e a d.length = 0 := by
  obtain ⟨t, c0, ⟨t1, s1, c1, hft, hif1⟩, hif⟩ := h
  split at hif
  · rename_i h1
    exact absurd hif.2.2.2.2.symm h1
  · rename_i h1
    obtain rfl : c0 = 0 := Classical.not_not.1 h1
    split at hif1
    · rename_i h2
      exact absurd hif1.2.symm h2
    · rename_i h2
      obtain rfl : c1 = 0 := Classical.not_not.1 h2
      split at hif1
      · cases hif1.2
      · rename_i h3
        obtain ⟨k1, e1, a1, d1, r1, c2, hta, hif⟩ := hif
        split at hif
        · rename_i h4
          exact absurd hif.2.2.2.2.symm h4
        · rename_i h4
          split at hif
          · rename_i h5
            exact absurd hif.2.2.2.2.symm h5
          · rename_i h5
            obtain ⟨rfl, rfl, rfl, rfl, _⟩ := hif
            have h6 : endC r1.length c2 = 0 := Classical.not_not.1 h4
            unfold endC at h6
            split at h6
            · omega
            · rename_i h7
              split at h6
              · rename_i h8
                refine ⟨?_, Classical.not_not.1 h5⟩
                rw [← tact_back hta (Classical.not_not.1 h7) (List.length_eq_zero_iff.1 h8), hif1.1]
                exact ft_whole hft h3
              · cases h6
end Go.Proofs.Ytpebmmhokigglaa


