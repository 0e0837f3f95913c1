/- The contracts of the document's own reader: fail, End, Number. · The contracts of the document's own reader: Within, count, Fixed. · The contracts of the document's own reader: count, Fixed. · The contracts of the document's own reader: TextOf, ListOf. -/
import Derived.Test.YtojndpelilolkaaRdP
import Derived.Deep.RegionHeld3
import Derived.Deep.DrawnRows
import Derived.RegionTactic
namespace Go.Proofs.Ytojndpelilolkaa
open Go.RowKit

theorem bcell {W w1 : World} (hb : Below W.heap.size W w1) : (∀ b o, b < W.heap.size → w1.cell? ⟨b, o, none⟩ = W.cell? ⟨b, o, none⟩) ∧ (∀ b o, b < W.heap.size → w1.frozen? ⟨b, o, none⟩ = W.frozen? ⟨b, o, none⟩) :=
  ⟨fun b o h => hb.cell (p := ⟨b, o, none⟩) h, fun b o h => hb.frozen (p := ⟨b, o, none⟩) h⟩

/-- A block of two cells. -/
theorem blk2 {w : World} {p : Nat} {a b : Value} {t : TypeId} (h : w.heap[p]? = some (.cells #[a, b] t (0, 0))) :
    w.cell? ⟨p, 0, none⟩ = some a ∧ w.cell? ⟨p, 1, none⟩ = some b ∧ w.frozen? ⟨p, 0, none⟩ = false ∧ w.frozen? ⟨p, 1, none⟩ = false :=
  ⟨by rw [cell_of_row w p 0 _ _ _ h]; rfl, by rw [cell_of_row w p 1 _ _ _ h]; rfl, frozen_of_row w p 0 _ _ h, frozen_of_row w p 1 _ _ h⟩
/-- Two new blocks, behind whatever has been made since. -/
theorem new2 {w w1 : World} {o1 o2 : Obj} (hb : Below ((w.alloc o1).alloc o2).heap.size ((w.alloc o1).alloc o2) w1) : w1.heap[w.heap.size]? = some o1 ∧ w1.heap[w.heap.size + 1]? = some o2 := by
  constructor
  · rw [hb.block _ (by simp; omega), Below.heap_alloc _ _ _ (by simp), heap_alloc_new]
  · rw [hb.block _ (by simp)]
    have := heap_alloc_new (w.alloc o1) o2
    simpa using this

/-- A slice that reads, its cells in a block below B. -/
def RdU (w : World) (B : Nat) (v : Value) (l : List Nat) : Prop := Reads w .u8 v l ∧ ∃ ao n cap, v = .slice ao n cap ∧ (cap = 0 ∨ ∃ b off, ao = some ⟨b, off, none⟩ ∧ b < B)
theorem RdU.reads {w : World} {B : Nat} {v : Value} {l : List Nat} (h : RdU w B v l) : Reads w .u8 v l := h.1
theorem RdU.form {w : World} {B : Nat} {ao : Option Addr} {n cap : Nat} {l : List Nat} (h : RdU w B (.slice ao n cap) l) : cap = 0 ∨ ∃ b off, ao = some ⟨b, off, none⟩ ∧ b < B := by
  obtain ⟨ao', n', cap', hv, h2⟩ := h.2
  simp only [Value.slice.injEq] at hv
  obtain ⟨rfl, rfl, rfl⟩ := hv
  exact h2
theorem RdU.below {w w' : World} {B : Nat} {v : Value} {l : List Nat} (h : RdU w B v l) (hb : Below B w w') : RdU w' B v l := by
  refine ⟨?_, h.2⟩
  obtain ⟨⟨ao, cap, rfl, h1, h2, h3, h4⟩, h5⟩ := h
  refine ⟨ao, cap, rfl, h1, h2, h3, ?_⟩
  rcases h4 with h4 | ⟨b, off, rfl, hlt, hc⟩
  · exact .inl h4
  · by_cases hl : l = []
    · exact .inl hl
    · obtain ⟨ao', n', cap', hv, h6⟩ := h5
      simp only [Value.slice.injEq] at hv
      obtain ⟨rfl, rfl, rfl⟩ := hv
      rcases h6 with h6 | ⟨b', off', ha, hB⟩
      · have := List.length_pos_iff.2 hl; omega
      · simp only [Option.some.injEq, Addr.mk.injEq, and_true] at ha
        obtain ⟨rfl, rfl⟩ := ha
        exact .inr ⟨b, off, rfl, Nat.lt_of_lt_of_le hlt hb.size, fun i hi => (hb.cell (p := ⟨b, off + i, none⟩) hB).trans (hc i hi)⟩
theorem RdU.blk {w : World} {B b off n cap : Nat} {l : List Nat} (h : RdU w B (.slice (some ⟨b, off, none⟩) n cap) l) (hc : 0 < cap) : b < B := by
  rcases h.form with h | ⟨b', off', ha, hB⟩
  · omega
  · simp only [Option.some.injEq, Addr.mk.injEq, and_true] at ha
    obtain ⟨rfl, rfl⟩ := ha
    exact hB
theorem RdU.nil (w : World) (B : Nat) (ao : Option Addr) : RdU w B (.slice ao 0 0) [] := ⟨⟨ao, 0, rfl, by simp, by simp [maxLen], fun _ => rfl, .inl rfl⟩, _, _, _, rfl, .inl rfl⟩

/-- What is left behind n of them. -/
theorem drop_reads {w : World} {b off cap n : Nat} {l : List Nat} (h : Reads w .u8 (.slice (some ⟨b, off, none⟩) l.length cap) l) (hp : n < cap) (hle : n ≤ l.length) :
    Reads w .u8 (.slice (some ⟨b, off + n, none⟩) (l.length - n) (cap - n)) (l.drop n) := by
  obtain ⟨ao, cap', hv, h1, h2, h3, h4⟩ := h
  simp only [Value.slice.injEq, true_and] at hv
  obtain ⟨rfl, rfl⟩ := hv
  have hl : (l.drop n).length = l.length - n := by simp
  refine ⟨_, cap - n, by rw [hl], by omega, by omega, by simp, ?_⟩
  rcases h4 with rfl | ⟨b', off', ha, hb, hc⟩
  · left; simp
  · simp only [Option.some.injEq, Addr.mk.injEq, and_true] at ha
    obtain ⟨rfl, rfl⟩ := ha
    refine .inr ⟨b, off + n, rfl, hb, fun i hi => ?_⟩
    rw [hl] at hi
    have := hc (n + i) (by omega)
    rw [Nat.add_assoc, this]
    simp [List.getD]

/-- What the document's reader's Number hands back. -/
def RNumPost (B : Nat) (rest : List Nat) (c : Nat) (w : World) (e : Ending) (w' : World) : Prop :=
  ∃ (n : Nat) (ao : Option Addr) (cap : Nat) (rest' : List Nat) (c' : Nat), e = .returned (.tuple #[.int .u64 (n : Int), .agg #[.slice ao rest'.length cap, .int .i64 (c' : Int)]]) ∧
    NumRel rest c n rest' c' ∧ RdU w' B (.slice ao rest'.length cap) rest' ∧ Below w.heap.size w w'

theorem rnum_fin {B : Nat} {rest rest' : List Nat} {c c' n len cap : Nat} {ao : Option Addr} {N C : Int} {w w' : World} (hB : Below w.heap.size w w') (hBs : B ≤ w.heap.size) (hr : RdU w B (.slice ao len cap) rest') (hl : len = rest'.length) (hN : N = (n : Int)) (hC : C = (c' : Int)) (h : NumRel rest c n rest' c') :
    RNumPost B rest c w (.returned (.tuple #[.int .u64 N, .agg #[.slice ao len cap, .int .i64 C]])) w' := by
  subst hl hN hC
  exact ⟨n, ao, cap, rest', c', rfl, h, hr.below (hB.mono hBs), hB⟩

end Go.Proofs.Ytojndpelilolkaa

namespace Go.Proofs.Ytojndpelilolkaa
open Go.RowKit

/-- What Within of the document's reader hands back. -/
def RWithinPost (B : Nat) (rest : List Nat) (c most : Nat) (w : World) (e : Ending) (w' : World) : Prop :=
  ∃ (n : Nat) (ao : Option Addr) (cap : Nat) (rest' : List Nat) (c1 : Nat), e = .returned (.tuple #[.int .i64 ((withinR n most : Nat) : Int), .agg #[.slice ao rest'.length cap, .int .i64 ((withinC n c1 most : Nat) : Int)]]) ∧
    NumRel rest c n rest' c1 ∧ RdU w' B (.slice ao rest'.length cap) rest' ∧ Below w.heap.size w w'

theorem rwithin_fin {B : Nat} {rest rest' : List Nat} {c c1 n most cap : Nat} {ao : Option Addr} {N C : Int} {w w1 w' : World} (hB : Below w.heap.size w w') (hb1 : Below B w1 w') (hr : RdU w1 B (.slice ao rest'.length cap) rest') (hN : N = ((withinR n most : Nat) : Int)) (hC : C = ((withinC n c1 most : Nat) : Int)) (h : NumRel rest c n rest' c1) :
    RWithinPost B rest c most w (.returned (.tuple #[.int .i64 N, .agg #[.slice ao rest'.length cap, .int .i64 C]])) w' := by
  subst hN hC
  exact ⟨n, ao, cap, rest', c1, rfl, h, hr.below hb1, hB⟩

/-- The second of two new blocks, behind a struct's store into the first and a call. -/
theorem keep2 {w1 w2 : World} {p : Nat} {x y : Value} {o : Obj} (h : w1.heap[p + 1]? = some o) (hb : Below ((w1.setCell ⟨p, 0, none⟩ x).setCell ⟨p, 1, none⟩ y).heap.size ((w1.setCell ⟨p, 0, none⟩ x).setCell ⟨p, 1, none⟩ y) w2) : w2.heap[p + 1]? = some o := by
  have hlt := (Array.getElem?_eq_some_iff.1 h).1
  rw [hb.block (p + 1) (by simpa using hlt), heap_setCell_other _ _ _ _ (by simp), heap_setCell_other _ _ _ _ (by simp)]
  exact h

end Go.Proofs.Ytojndpelilolkaa

namespace Go.Proofs.Ytojndpelilolkaa
open Go.RowKit

def RManyPost (B : Nat) (rest : List Nat) (c : Nat) (most : Int) (w : World) (e : Ending) (w' : World) : Prop :=
  ∃ (n : Nat) (ao : Option Addr) (cap : Nat) (rest' : List Nat) (c1 : Nat), e = .returned (.tuple #[.int .i64 ((manyR n most : Nat) : Int), .agg #[.slice ao rest'.length cap, .int .i64 ((manyC n c1 most : Nat) : Int)]]) ∧
    NumRel rest c n rest' c1 ∧ RdU w' B (.slice ao rest'.length cap) rest' ∧ Below w.heap.size w w'

theorem rmany_fin {B : Nat} {rest rest' : List Nat} {c c1 n cap : Nat} {most : Int} {ao : Option Addr} {N C : Int} {w w1 w' : World} (hB : Below w.heap.size w w') (hb1 : Below B w1 w') (hr : RdU w1 B (.slice ao rest'.length cap) rest') (hN : N = ((manyR n most : Nat) : Int)) (hC : C = ((manyC n c1 most : Nat) : Int)) (h : NumRel rest c n rest' c1) :
    RManyPost B rest c most w (.returned (.tuple #[.int .i64 N, .agg #[.slice ao rest'.length cap, .int .i64 C]])) w' := by
  subst hN hC
  exact ⟨n, ao, cap, rest', c1, rfl, h, hr.below hb1, hB⟩

theorem NumRel.n_zero {rest : List Nat} {c n : Nat} {r : List Nat} {d : Nat} (h : NumRel rest c n r d) (hd : d ≠ 0) : n = 0 := by
  rcases h with ⟨_, h2, _, _⟩ | ⟨_, _, _, h4⟩ | ⟨_, h2, _, _, _⟩
  · exact h2
  · exact absurd h4 hd
  · exact h2

/-- What Fixed of the document's reader hands back. -/
def RFixPost (B : Nat) (rest : List Nat) (c : Nat) (many : Int) (w : World) (e : Ending) (w' : World) : Prop :=
  ∃ (ov : Value) (out : List Nat) (ao : Option Addr) (cap : Nat) (rest' : List Nat) (c' : Nat), e = .returned (.tuple #[ov, .agg #[.slice ao rest'.length cap, .int .i64 (c' : Int)]]) ∧
    FixRel rest c many out rest' c' ∧ RdU w' B ov out ∧ RdU w' B (.slice ao rest'.length cap) rest' ∧ Below w.heap.size w w'

theorem rfix_fin {B : Nat} {rest rest' out : List Nat} {c c' cap len : Nat} {many : Int} {ao : Option Addr} {ov : Value} {C : Int} {w w' : World} (hB : Below w.heap.size w w') (hBs : B ≤ w.heap.size) (ho : RdU w B ov out) (hr : RdU w B (.slice ao len cap) rest') (hl : len = rest'.length) (hC : C = (c' : Int)) (h : FixRel rest c many out rest' c') :
    RFixPost B rest c many w (.returned (.tuple #[ov, .agg #[.slice ao len cap, .int .i64 C]])) w' := by
  subst hC hl
  exact ⟨ov, out, ao, cap, rest', c', rfl, h, ho.below (hB.mono hBs), hr.below (hB.mono hBs), hB⟩

theorem take_reads {w : World} {b off cap n : Nat} {l : List Nat} (h : Reads w .u8 (.slice (some ⟨b, off, none⟩) l.length cap) l) (hle : n ≤ l.length) :
    Reads w .u8 (.slice (some ⟨b, off, none⟩) n cap) (l.take n) := by
  obtain ⟨ao, cap', hv, h1, h2, h3, h4⟩ := h
  simp only [Value.slice.injEq, true_and] at hv
  obtain ⟨rfl, rfl⟩ := hv
  have hl : (l.take n).length = n := by rw [List.length_take]; omega
  refine ⟨_, cap, by rw [hl], by omega, by omega, by simp, ?_⟩
  rcases h4 with rfl | ⟨b', off', ha, hb, hc⟩
  · left; simp
  · simp only [Option.some.injEq, Addr.mk.injEq, and_true] at ha
    obtain ⟨rfl, rfl⟩ := ha
    refine .inr ⟨b, off, rfl, hb, fun i hi => ?_⟩
    rw [hl] at hi
    rw [hc i (by omega)]
    simp [List.getD, hi]

end Go.Proofs.Ytojndpelilolkaa

namespace Go.Proofs.Ytojndpelilolkaa
open Go.RowKit

def RTextPost (B : Nat) (rest : List Nat) (c : Nat) (most : Int) (w : World) (e : Ending) (w' : World) : Prop :=
  ∃ (ov : Value) (out : List Nat) (ao : Option Addr) (cap : Nat) (rest' : List Nat) (c' n : Nat) (rest1 : List Nat) (c1 : Nat), e = .returned (.tuple #[ov, .agg #[.slice ao rest'.length cap, .int .i64 (c' : Int)]]) ∧
    NumRel rest c n rest1 c1 ∧ FixRel rest1 (manyC n c1 most) (manyR n most : Nat) out rest' c' ∧ RdU w' B ov out ∧ RdU w' B (.slice ao rest'.length cap) rest' ∧ Below w.heap.size w w'

def RListPost (B : Nat) (rest : List Nat) (c : Nat) (most : Int) (w : World) (e : Ending) (w' : World) : Prop :=
  ∃ (ov : Value) (out : List Nat) (ao : Option Addr) (cap : Nat) (rest' : List Nat) (c' n : Nat) (rest1 : List Nat) (c1 : Nat), e = .returned (.tuple #[ov, .agg #[.slice ao rest'.length cap, .int .i64 (c' : Int)]]) ∧
    NumRel rest c n rest1 c1 ∧ RunRel rest1 (manyC n c1 most) (manyR n most) out rest' c' ∧ Owns w' w.heap.size 68 .u64 ov out ∧ RdU w' B (.slice ao rest'.length cap) rest' ∧ Below w.heap.size w w'

/-- A block that was made before a call is as it was behind it. -/
theorem blk_below {w w1 : World} {p : Nat} {o : Obj} (h : w.heap[p]? = some o) (hb : Below w.heap.size w w1) : w1.heap[p]? = some o := (hb.block p (Array.getElem?_eq_some_iff.1 h).1).trans h

/-- A block of two cells, both written. -/
theorem set2 {w : World} {p : Nat} {x0 y0 x y : Value} {t : TypeId} (h : w.heap[p]? = some (.cells #[x0, y0] t (0, 0))) : ((w.setCell ⟨p, 0, none⟩ x).setCell ⟨p, 1, none⟩ y).heap[p]? = some (.cells #[x, y] t (0, 0)) := by
  have h1 := heap_setCell_same w p 0 _ _ x h
  have h2 := heap_setCell_same _ p 1 _ _ y h1
  simpa using h2

theorem acc_len {r acc s : List Nat} (h : r = encs acc ++ s) : acc.length ≤ r.length := by
  have h1 : acc.length ≤ (encs acc).length := by
    clear h
    induction acc with
    | nil => simp
    | cons x a ih =>
      have e : encs (x :: a) = enc x ++ encs a := by simp [encs]
      have := enc_pos x
      rw [e, List.length_append, List.length_cons]; omega
  rw [h, List.length_append]; omega

end Go.Proofs.Ytojndpelilolkaa
