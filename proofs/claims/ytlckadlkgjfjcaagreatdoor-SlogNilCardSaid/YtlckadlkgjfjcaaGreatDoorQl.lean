/- An act of law 13 that came in. · The table of tens, out of a row's condition; and that the world behind start-up meets it. -/
import Derived.Test.YtlckadlkgjfjcaaGreatDoorDaP
import Derived.ProofKit
import Derived.OpenShut
import Derived.Deep.Slices
import Derived.Test.YtlckadlkgjfjcaaGreatDoorRows
import Derived.Test.YtlckadlkgjfjcaaGreatDoorScP
import Derived.Lib.LaidTab
import Derived.LaidMore
import Derived.Lay
import Derived.LaidSub
import Derived.MakeChecks
namespace Go.Proofs.YtlckadlkgjfjcaaGreatDoor
open Go.RowKit Go.ChangeShapes Go.WideShapes Go.Deep

theorem slice_form {H : Type} {enc : TypeId × Value → H} {W : World} {base fuel : Nat} {held : Bool} {t e : TypeId} (ht : Tryz.prog.underlying t = some (.slice e)) {c1 : Value} {x : DataW H × List MemPlace}
    (h : DataW.trod enc Tryz.prog W base (fun _ => true) held fuel t [c1] = some x) : ∃ (o : Option Addr) (n c : Nat), c1 = .slice o n c := by
  rcases open_slice ht h with ⟨hcs, _⟩ | ⟨x, l, c, m, n, D, Pl, hcs, _⟩
  · rw [List.singleton_inj] at hcs
    exact ⟨none, 0, 0, hcs⟩
  · rw [List.singleton_inj] at hcs
    exact ⟨_, _, _, hcs⟩
theorem int_form {H : Type} {enc : TypeId × Value → H} {W : World} {base fuel : Nat} {held : Bool} {c1 : Value} {x : DataW H × List MemPlace}
    (h : DataW.trod enc Tryz.prog W base (fun _ => true) held fuel 3 [c1] = some x) : ∃ k : Int, c1 = .int .i64 k := by
  obtain ⟨f, hv, _, _⟩ := DataW.trod_int Tryz.underlying3 h
  rw [List.singleton_inj] at hv
  exact ⟨f, hv⟩

set_option maxRecDepth 100000 in
theorem act13_of_trod {H : Type} {enc : TypeId × Value → H} {W : World} {base : Nat} {held : Bool} {cs : Array Value} {d : DataW H} {p : List MemPlace}
    (h : DataW.Trod enc Tryz.prog W base (fun _ => true) held 28 (.agg cs) d p) :
    ∃ (k u a ck : Int) (o1 o2 o3 : Option Addr) (n1 n2 n3 c1 c2 c3 : Nat), cs = #[.int .i64 k, .int .i64 u, .int .i64 a, .int .i64 ck, .slice o1 n1 c1, .slice o2 n2 c2, .slice o3 n3 c3] := by
  obtain ⟨fuel, hf0⟩ := h
  obtain ⟨xs, n, _, _, hl, hn, hf⟩ := DataW.trod_struct Tryz.underlying28 hf0
  have C7 : Tryz.prog.cellsOf 28 = 7 := by kernel_rfl
  have C2 : Tryz.prog.cellsOf 24 = 2 := by kernel_rfl
  have k1 : Tryz.prog.cellsOf 3 = 1 := by kernel_rfl
  have k2 : Tryz.prog.cellsOf 22 = 1 := by kernel_rfl
  have k3 : Tryz.prog.cellsOf 25 = 1 := by kernel_rfl
  have k4 : Tryz.prog.cellsOf 26 = 1 := by kernel_rfl
  obtain ⟨L, hL⟩ : ∃ L, L = (Value.agg cs).cells.toList := ⟨_, rfl⟩
  have hLc : L = cs.toList := hL
  rw [← hL] at hf hl
  rw [C7] at hl
  have hn' : xs.length = 6 := hn
  match xs, hn' with
  | [y0, y1, y2, y3, y4, y5], _ =>
    have f0 : DataW.trod enc Tryz.prog W base (fun _ => true) held n 3 ((L.drop 0).take (Tryz.prog.cellsOf 3)) = some y0 := hf 0 _ rfl
    have f1 : DataW.trod enc Tryz.prog W base (fun _ => true) held n 3 ((L.drop 1).take (Tryz.prog.cellsOf 3)) = some y1 := hf 1 _ rfl
    have f2 : DataW.trod enc Tryz.prog W base (fun _ => true) held n 3 ((L.drop 2).take (Tryz.prog.cellsOf 3)) = some y2 := hf 2 _ rfl
    have f3 : DataW.trod enc Tryz.prog W base (fun _ => true) held n 24 ((L.drop 3).take (Tryz.prog.cellsOf 24)) = some y3 := hf 3 _ rfl
    have f4 : DataW.trod enc Tryz.prog W base (fun _ => true) held n 25 ((L.drop 5).take (Tryz.prog.cellsOf 25)) = some y4 := hf 4 _ rfl
    have f5 : DataW.trod enc Tryz.prog W base (fun _ => true) held n 26 ((L.drop 6).take (Tryz.prog.cellsOf 26)) = some y5 := hf 5 _ rfl
    rw [k1] at f0
    rw [k1] at f1
    rw [k1] at f2
    rw [C2] at f3
    rw [k3] at f4
    rw [k4] at f5
    match L, hl with
    | [a0, a1, a2, a3, a4, a5, a6], _ =>
      simp only [List.drop_succ_cons, List.drop_zero, List.take_succ_cons, List.take_zero] at f0 f1 f2 f3 f4 f5
      obtain ⟨k, rfl⟩ := int_form f0
      obtain ⟨u, rfl⟩ := int_form f1
      obtain ⟨a, rfl⟩ := int_form f2
      obtain ⟨z0, z1, m, _, hcl, g0, g1⟩ := trod_struct2 Tryz.underlying24 f3
      simp only [k1, k2, List.drop_succ_cons, List.drop_zero, List.take_succ_cons, List.take_zero] at g0 g1
      obtain ⟨ck, rfl⟩ := int_form g0
      obtain ⟨o1, n1, c1, rfl⟩ := slice_form Tryz.underlying22 g1
      obtain ⟨o2, n2, c2, rfl⟩ := slice_form Tryz.underlying25 f4
      obtain ⟨o3, n3, c3, rfl⟩ := slice_form Tryz.underlying26 f5
      refine ⟨k, u, a, ck, o1, o2, o3, n1, n2, n3, c1, c2, c3, ?_⟩
      exact Array.toList_inj.1 hLc.symm

end Go.Proofs.YtlckadlkgjfjcaaGreatDoor

namespace Go.Proofs.YtlckadlkgjfjcaaGreatDoor
open Go.ChangeShapes Go.WideShapes Go.ChangeAt Go.RowKit

theorem own : ownKnob Tryz.prog.godebug = none := by kernel_rfl
/-- The listed variables. -/
def laid7 : List (String × DataW Unit) := [("math/bits.deBruijn32tab", Rows.laid_math_bits_deBruijn32tab), ("math/bits.deBruijn64tab", Rows.laid_math_bits_deBruijn64tab), ("internal/strconv.uint64pow10", Rows.laid_internal_strconv_uint64pow10), ("unicode/utf8.acceptRanges", Rows.laid_unicode_utf8_acceptRanges), ("strconv.ErrRange", Rows.laid_strconv_ErrRange), ("strconv.ErrSyntax", Rows.laid_strconv_ErrSyntax), ("unicode/utf8.first", Rows.laid_unicode_utf8_first)]
/-- The heap that the data themselves lay meets the condition. -/
theorem laid_met (os : Os) (args : Array Value) : laidMetH Tryz.prog laid7 ((World.laidAll Tryz.prog os laid7).forCall (fun _ _ => 0) ⟨#[], args, []⟩).memory := by
  rw [MakeChecks.laidMetH_plain _ _ _ (by kernel_rfl)]
  exact laidMet_laidAll _ (by kernel_rfl) (by kernel_rfl)
theorem pow10D : (Rows.laid_internal_strconv_uint64pow10 : DataW Unit) = Lib.tabData .u64 Lib.pow10Tab := by kernel_rfl
/-- WHAT THE CONDITION GIVES THE WALKS. -/
theorem tens_of_laid {W : World} (h : laidMetH Tryz.prog laid7 W) : Tens W := by
  rw [MakeChecks.laidMetH_plain _ _ _ (by kernel_rfl)] at h
  have h2 := h.filter fun x => x.1 == "internal/strconv.uint64pow10"
  have e : (laid7.filter fun x => x.1 == "internal/strconv.uint64pow10") = [("internal/strconv.uint64pow10", Rows.laid_internal_strconv_uint64pow10)] := by kernel_rfl
  rw [e] at h2
  rw [pow10D] at h2
  exact Lib.tabIs_of_head (g := 3) (t := 362) (e := 200) (n := 20) (by kernel_rfl) (by kernel_rfl) Tryz.underlying362 Tryz.underlying200 (by kernel_rfl) (by kernel_rfl) h2
end Go.Proofs.YtlckadlkgjfjcaaGreatDoor
