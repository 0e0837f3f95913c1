/- The contracts of the document's own reader: fail, End, Number. -/
import Derived.Test.YtnhffeppbliabaaRdE
import Derived.Deep.RegionHeld3
import Derived.Deep.DrawnRows
import Derived.RegionTactic
namespace Go.Proofs.Ytnhffeppbliabaa
open Go.RowKit

theorem bcell {W w1 : World} (hb : Below W.heap.size W w1) : (∀ b o, b < W.heap.size → w1.cell? ⟨b, o, none⟩ = W.cell? ⟨b, o, none⟩) ∧ (∀ b o, b < W.heap.size → w1.frozen? ⟨b, o, none⟩ = W.frozen? ⟨b, o, none⟩) :=
  ⟨fun b o h => hb.cell (p := ⟨b, o, none⟩) h, fun b o h => hb.frozen (p := ⟨b, o, none⟩) h⟩

/-- A block of two cells. -/
theorem blk2 {w : World} {p : Nat} {a b : Value} {t : TypeId} (h : w.heap[p]? = some (.cells #[a, b] t (0, 0))) :
    w.cell? ⟨p, 0, none⟩ = some a ∧ w.cell? ⟨p, 1, none⟩ = some b ∧ w.frozen? ⟨p, 0, none⟩ = false ∧ w.frozen? ⟨p, 1, none⟩ = false :=
  ⟨by rw [cell_of_row w p 0 _ _ _ h]; rfl, by rw [cell_of_row w p 1 _ _ _ h]; rfl, frozen_of_row w p 0 _ _ h, frozen_of_row w p 1 _ _ h⟩
/-- Two new blocks, behind whatever has been made since. -/
theorem new2 {w w1 : World} {o1 o2 : Obj} (hb : Below ((w.alloc o1).alloc o2).heap.size ((w.alloc o1).alloc o2) w1) : w1.heap[w.heap.size]? = some o1 ∧ w1.heap[w.heap.size + 1]? = some o2 := by
  constructor
  · rw [hb.block _ (by simp; omega), Below.heap_alloc _ _ _ (by simp), heap_alloc_new]
  · rw [hb.block _ (by simp)]
    have := heap_alloc_new (w.alloc o1) o2
    simpa using this

/-- A slice that reads, its cells in a block below B. -/
def RdU (w : World) (B : Nat) (v : Value) (l : List Nat) : Prop := Reads w .u8 v l ∧ ∃ ao n cap, v = .slice ao n cap ∧ (cap = 0 ∨ ∃ b off, ao = some ⟨b, off, none⟩ ∧ b < B)
theorem RdU.reads {w : World} {B : Nat} {v : Value} {l : List Nat} (h : RdU w B v l) : Reads w .u8 v l := h.1
theorem RdU.form {w : World} {B : Nat} {ao : Option Addr} {n cap : Nat} {l : List Nat} (h : RdU w B (.slice ao n cap) l) : cap = 0 ∨ ∃ b off, ao = some ⟨b, off, none⟩ ∧ b < B := by
  obtain ⟨ao', n', cap', hv, h2⟩ := h.2
  simp only [Value.slice.injEq] at hv
  obtain ⟨rfl, rfl, rfl⟩ := hv
  exact h2
theorem RdU.below {w w' : World} {B : Nat} {v : Value} {l : List Nat} (h : RdU w B v l) (hb : Below B w w') : RdU w' B v l := by
  refine ⟨?_, h.2⟩
  obtain ⟨⟨ao, cap, rfl, h1, h2, h3, h4⟩, h5⟩ := h
  refine ⟨ao, cap, rfl, h1, h2, h3, ?_⟩
  rcases h4 with h4 | ⟨b, off, rfl, hlt, hc⟩
  · exact .inl h4
  · by_cases hl : l = []
    · exact .inl hl
    · obtain ⟨ao', n', cap', hv, h6⟩ := h5
      simp only [Value.slice.injEq] at hv
      obtain ⟨rfl, rfl, rfl⟩ := hv
      rcases h6 with h6 | ⟨b', off', ha, hB⟩
      · have := List.length_pos_iff.2 hl; omega
      · simp only [Option.some.injEq, Addr.mk.injEq, and_true] at ha
        obtain ⟨rfl, rfl⟩ := ha
        exact .inr ⟨b, off, rfl, Nat.lt_of_lt_of_le hlt hb.size, fun i hi => (hb.cell (p := ⟨b, off + i, none⟩) hB).trans (hc i hi)⟩
theorem RdU.blk {w : World} {B b off n cap : Nat} {l : List Nat} (h : RdU w B (.slice (some ⟨b, off, none⟩) n cap) l) (hc : 0 < cap) : b < B := by
  rcases h.form with h | ⟨b', off', ha, hB⟩
  · omega
  · simp only [Option.some.injEq, Addr.mk.injEq, and_true] at ha
    obtain ⟨rfl, rfl⟩ := ha
    exact hB
theorem RdU.nil (w : World) (B : Nat) (ao : Option Addr) : RdU w B (.slice ao 0 0) [] := ⟨⟨ao, 0, rfl, by simp, by simp [maxLen], fun _ => rfl, .inl rfl⟩, _, _, _, rfl, .inl rfl⟩

/-- What is left behind n of them. -/
theorem drop_reads {w : World} {b off cap n : Nat} {l : List Nat} (h : Reads w .u8 (.slice (some ⟨b, off, none⟩) l.length cap) l) (hp : n < cap) (hle : n ≤ l.length) :
    Reads w .u8 (.slice (some ⟨b, off + n, none⟩) (l.length - n) (cap - n)) (l.drop n) := by
  obtain ⟨ao, cap', hv, h1, h2, h3, h4⟩ := h
  simp only [Value.slice.injEq, true_and] at hv
  obtain ⟨rfl, rfl⟩ := hv
  have hl : (l.drop n).length = l.length - n := by simp
  refine ⟨_, cap - n, by rw [hl], by omega, by omega, by simp, ?_⟩
  rcases h4 with rfl | ⟨b', off', ha, hb, hc⟩
  · left; simp
  · simp only [Option.some.injEq, Addr.mk.injEq, and_true] at ha
    obtain ⟨rfl, rfl⟩ := ha
    refine .inr ⟨b, off + n, rfl, hb, fun i hi => ?_⟩
    rw [hl] at hi
    have := hc (n + i) (by omega)
    rw [Nat.add_assoc, this]
    simp [List.getD]

/-- What the document's reader's Number hands back. -/
def RNumPost (B : Nat) (rest : List Nat) (c : Nat) (w : World) (e : Ending) (w' : World) : Prop :=
  ∃ (n : Nat) (ao : Option Addr) (cap : Nat) (rest' : List Nat) (c' : Nat), e = .returned (.tuple #[.int .u64 (n : Int), .agg #[.slice ao rest'.length cap, .int .i64 (c' : Int)]]) ∧
    NumRel rest c n rest' c' ∧ RdU w' B (.slice ao rest'.length cap) rest' ∧ Below w.heap.size w w'

theorem rnum_fin {B : Nat} {rest rest' : List Nat} {c c' n len cap : Nat} {ao : Option Addr} {N C : Int} {w w' : World} (hB : Below w.heap.size w w') (hBs : B ≤ w.heap.size) (hr : RdU w B (.slice ao len cap) rest') (hl : len = rest'.length) (hN : N = (n : Int)) (hC : C = (c' : Int)) (h : NumRel rest c n rest' c') :
    RNumPost B rest c w (.returned (.tuple #[.int .u64 N, .agg #[.slice ao len cap, .int .i64 C]])) w' := by
  subst hl hN hC
  exact ⟨n, ao, cap, rest', c', rfl, h, hr.below (hB.mono hBs), hB⟩

end Go.Proofs.Ytnhffeppbliabaa
