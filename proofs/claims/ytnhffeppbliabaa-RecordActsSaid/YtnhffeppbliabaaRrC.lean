/- The contracts of the document's own reader: count, Fixed. -/
import Derived.Test.YtnhffeppbliabaaRrB
namespace Go.Proofs.Ytnhffeppbliabaa
open Go.RowKit

def RManyPost (B : Nat) (rest : List Nat) (c : Nat) (most : Int) (w : World) (e : Ending) (w' : World) : Prop :=
  ∃ (n : Nat) (ao : Option Addr) (cap : Nat) (rest' : List Nat) (c1 : Nat), e = .returned (.tuple #[.int .i64 ((manyR n most : Nat) : Int), .agg #[.slice ao rest'.length cap, .int .i64 ((manyC n c1 most : Nat) : Int)]]) ∧
    NumRel rest c n rest' c1 ∧ RdU w' B (.slice ao rest'.length cap) rest' ∧ Below w.heap.size w w'

theorem rmany_fin {B : Nat} {rest rest' : List Nat} {c c1 n cap : Nat} {most : Int} {ao : Option Addr} {N C : Int} {w w1 w' : World} (hB : Below w.heap.size w w') (hb1 : Below B w1 w') (hr : RdU w1 B (.slice ao rest'.length cap) rest') (hN : N = ((manyR n most : Nat) : Int)) (hC : C = ((manyC n c1 most : Nat) : Int)) (h : NumRel rest c n rest' c1) :
    RManyPost B rest c most w (.returned (.tuple #[.int .i64 N, .agg #[.slice ao rest'.length cap, .int .i64 C]])) w' := by
  subst hN hC
  exact ⟨n, ao, cap, rest', c1, rfl, h, hr.below hb1, hB⟩

theorem NumRel.n_zero {rest : List Nat} {c n : Nat} {r : List Nat} {d : Nat} (h : NumRel rest c n r d) (hd : d ≠ 0) : n = 0 := by
  rcases h with ⟨_, h2, _, _⟩ | ⟨_, _, _, h4⟩ | ⟨_, h2, _, _, _⟩
  · exact h2
  · exact absurd h4 hd
  · exact h2

/-- What Fixed of the document's reader hands back. -/
def RFixPost (B : Nat) (rest : List Nat) (c : Nat) (many : Int) (w : World) (e : Ending) (w' : World) : Prop :=
  ∃ (ov : Value) (out : List Nat) (ao : Option Addr) (cap : Nat) (rest' : List Nat) (c' : Nat), e = .returned (.tuple #[ov, .agg #[.slice ao rest'.length cap, .int .i64 (c' : Int)]]) ∧
    FixRel rest c many out rest' c' ∧ RdU w' B ov out ∧ RdU w' B (.slice ao rest'.length cap) rest' ∧ Below w.heap.size w w'

theorem rfix_fin {B : Nat} {rest rest' out : List Nat} {c c' cap len : Nat} {many : Int} {ao : Option Addr} {ov : Value} {C : Int} {w w' : World} (hB : Below w.heap.size w w') (hBs : B ≤ w.heap.size) (ho : RdU w B ov out) (hr : RdU w B (.slice ao len cap) rest') (hl : len = rest'.length) (hC : C = (c' : Int)) (h : FixRel rest c many out rest' c') :
    RFixPost B rest c many w (.returned (.tuple #[ov, .agg #[.slice ao len cap, .int .i64 C]])) w' := by
  subst hC hl
  exact ⟨ov, out, ao, cap, rest', c', rfl, h, ho.below (hB.mono hBs), hr.below (hB.mono hBs), hB⟩

theorem take_reads {w : World} {b off cap n : Nat} {l : List Nat} (h : Reads w .u8 (.slice (some ⟨b, off, none⟩) l.length cap) l) (hle : n ≤ l.length) :
    Reads w .u8 (.slice (some ⟨b, off, none⟩) n cap) (l.take n) := by
  obtain ⟨ao, cap', hv, h1, h2, h3, h4⟩ := h
  simp only [Value.slice.injEq, true_and] at hv
  obtain ⟨rfl, rfl⟩ := hv
  have hl : (l.take n).length = n := by rw [List.length_take]; omega
  refine ⟨_, cap, by rw [hl], by omega, by omega, by simp, ?_⟩
  rcases h4 with rfl | ⟨b', off', ha, hb, hc⟩
  · left; simp
  · simp only [Option.some.injEq, Addr.mk.injEq, and_true] at ha
    obtain ⟨rfl, rfl⟩ := ha
    refine .inr ⟨b, off, rfl, hb, fun i hi => ?_⟩
    rw [hl] at hi
    rw [hc i (by omega)]
    simp [List.getD, hi]

end Go.Proofs.Ytnhffeppbliabaa
