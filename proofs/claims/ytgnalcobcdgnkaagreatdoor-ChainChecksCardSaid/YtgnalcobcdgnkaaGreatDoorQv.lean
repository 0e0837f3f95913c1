/- Manifests, parts and digests that came in: the openers of the shells. · What the listed variables hold, out of a row's condition; and that the world behind start-up meets it. -/
import Derived.Test.YtgnalcobcdgnkaaGreatDoorQd
import Derived.OpenShut
import Derived.ProofKit
import Derived.Deep.Slices
import Derived.ChangeSame
import Derived.Test.YtgnalcobcdgnkaaGreatDoorRows
import Derived.Test.YtgnalcobcdgnkaaGreatDoorQp
import Derived.Lib.LaidTab
import Derived.LaidMore
namespace Go.Proofs.YtgnalcobcdgnkaaGreatDoor
open Go.RowKit Go.ChangeShapes Go.WideShapes Go.Deep

theorem pick_nat {R : Nat → Nat → Prop} (n : Nat) (h : ∀ i, i < n → ∃ l, R i l) : ∃ ls : List Nat, ls.length = n ∧ ∀ i, i < n → R i (ls.getD i 0) := by
  induction n with
  | zero => exact ⟨[], rfl, by omega⟩
  | succ n ih =>
    obtain ⟨ls, hl, hr⟩ := ih fun i hi => h i (by omega)
    obtain ⟨l, hlr⟩ := h n (by omega)
    refine ⟨ls ++ [l], by simp [hl], fun i hi => ?_⟩
    by_cases hin : i < n
    · rw [List.getD_eq_getElem?_getD, List.getElem?_append_left (by omega), ← List.getD_eq_getElem?_getD]
      exact hr i hin
    · obtain rfl : i = n := by omega
      rw [List.getD_eq_getElem?_getD, List.getElem?_append_right (by omega), hl]
      simpa using hlr
theorem pick_parts {R : Nat → PT → Prop} (n : Nat) (h : ∀ i, i < n → ∃ l, R i l) : ∃ ls : List PT, ls.length = n ∧ ∀ i, i < n → R i (ls.getD i (0, 0, 0, [])) := by
  induction n with
  | zero => exact ⟨[], rfl, by omega⟩
  | succ n ih =>
    obtain ⟨ls, hl, hr⟩ := ih fun i hi => h i (by omega)
    obtain ⟨l, hlr⟩ := h n (by omega)
    refine ⟨ls ++ [l], by simp [hl], fun i hi => ?_⟩
    by_cases hin : i < n
    · rw [List.getD_eq_getElem?_getD, List.getElem?_append_left (by omega), ← List.getD_eq_getElem?_getD]
      exact hr i hin
    · obtain rfl : i = n := by omega
      rw [List.getD_eq_getElem?_getD, List.getElem?_append_right (by omega), hl]
      simpa using hlr

section
variable {H : Type} {enc : TypeId × Value → H} {W : World} {base fuel : Nat} {held : Bool} {cs : List Value} {x : DataW H × List MemPlace}
/-- A digest's cells. -/
theorem dig_of_trod (h : DataW.trod enc Tryz.prog W base (fun _ => true) held fuel 34 cs = some x) : ∃ l, cs = vals .u8 l ∧ Dg l := by
  obtain ⟨xs, m, _, _, hlen, hn, hel⟩ := DataW.trod_array Tryz.underlying34 h
  have c1 : Tryz.prog.cellsOf 5 = 1 := by kernel_rfl
  have c2 : Tryz.prog.cellsOf 34 = 32 := by kernel_rfl
  rw [c2] at hlen
  rw [c1] at hel
  obtain ⟨l, hl, hr⟩ := pick_nat (R := fun i n => cs[i]? = some (.int .u8 (n : Int)) ∧ n < 256) 32 (by
    intro i hi
    obtain ⟨y, hy⟩ : ∃ y, xs[i]? = some y := ⟨_, List.getElem?_eq_getElem (by omega)⟩
    have hf' := (hel i hi).trans hy
    obtain ⟨z, hc, _, hw⟩ := DataW.trod_int Tryz.underlying5 hf'
    have hb := wf_u8 hw
    have h0 := congrArg (·[0]?) hc
    refine ⟨z.toNat, ?_, by omega⟩
    rw [Int.toNat_of_nonneg hb.1]
    simpa [List.getElem?_take, List.getElem?_drop] using h0)
  refine ⟨l, ?_, hl, ?_⟩
  · refine List.ext_getElem? fun i => ?_
    by_cases hi : i < 32
    · rw [(hr i hi).1, vals_get .u8 l i (by omega)]
    · rw [List.getElem?_eq_none (by omega), List.getElem?_eq_none (by rw [vals_length]; omega)]
  · intro y hy
    obtain ⟨i, hi, rfl⟩ := List.getElem_of_mem hy
    have := (hr i (by omega)).2
    simpa [List.getD, hi] using this
theorem int_of_trod (h : DataW.trod enc Tryz.prog W base (fun _ => true) held fuel 3 cs = some x) : ∃ n : Int, cs = [.int .i64 n] ∧ -9223372036854775808 ≤ n ∧ n ≤ 9223372036854775807 := by
  obtain ⟨f, hv, _, hw⟩ := DataW.trod_int Tryz.underlying3 h
  exact ⟨f, hv, wf_i64 hw⟩
theorem take_one_get {l : List Value} {o : Nat} {v : Value} (h : (l.drop o).take 1 = [v]) : l[o]? = some v := by
  have := congrArg (·[0]?) h
  simpa [List.getElem?_take, List.getElem?_drop] using this

set_option maxRecDepth 100000 in
/-- A part's cells. -/
theorem part_of_trod (h : DataW.trod enc Tryz.prog W base (fun _ => true) held fuel 67 cs = some x) : ∃ p : PT, cs = ptRow p ∧ Dg p.2.2.2 := by
  obtain ⟨xs, n, _, _, hl, hn, hf⟩ := DataW.trod_struct Tryz.underlying67 h
  have c1 : Tryz.prog.cellsOf 3 = 1 := by kernel_rfl
  have c2 : Tryz.prog.cellsOf 34 = 32 := by kernel_rfl
  have c3 : Tryz.prog.cellsOf 67 = 35 := by kernel_rfl
  rw [c3] at hl
  have hn' : xs.length = 4 := hn
  match xs, hn' with
  | [y0, y1, y2, y3], _ =>
    have f0 : DataW.trod enc Tryz.prog W base (fun _ => true) held n 3 ((cs.drop 0).take (Tryz.prog.cellsOf 3)) = some y0 := hf 0 _ rfl
    have f1 : DataW.trod enc Tryz.prog W base (fun _ => true) held n 3 ((cs.drop 1).take (Tryz.prog.cellsOf 3)) = some y1 := hf 1 _ rfl
    have f2 : DataW.trod enc Tryz.prog W base (fun _ => true) held n 3 ((cs.drop 2).take (Tryz.prog.cellsOf 3)) = some y2 := hf 2 _ rfl
    have f3 : DataW.trod enc Tryz.prog W base (fun _ => true) held n 34 ((cs.drop 3).take (Tryz.prog.cellsOf 34)) = some y3 := hf 3 _ rfl
    rw [c1] at f0
    rw [c1] at f1
    rw [c1] at f2
    rw [c2] at f3
    obtain ⟨a, ha, _⟩ := int_of_trod f0
    obtain ⟨b, hb, _⟩ := int_of_trod f1
    obtain ⟨c, hc, _⟩ := int_of_trod f2
    obtain ⟨l, hd, hg⟩ := dig_of_trod f3
    refine ⟨(a, b, c, l), ?_, hg⟩
    have e0 := take_one_get ha
    have e1 := take_one_get hb
    have e2 := take_one_get hc
    rw [List.take_of_length_le (by rw [List.length_drop]; omega)] at hd
    unfold ptRow
    simp only
    rw [← hd]
    refine List.ext_getElem? fun i => ?_
    match i with
    | 0 => rw [e0]; rfl
    | 1 => rw [e1]; rfl
    | 2 => rw [e2]; rfl
    | i + 3 =>
      rw [List.getElem?_append_right (by simp)]
      simp [Nat.add_comm]

set_option maxRecDepth 100000 in
theorem parts_of_trod {c1 : Value} (hf : DataW.trod enc Tryz.prog W base (fun _ => true) held fuel 41 [c1] = some x) :
    ∃ ps : List PT, PsAt W (fun _ => True) c1 ps := by
  rcases open_slice Tryz.underlying41 hf with ⟨hcs, _⟩ | ⟨x, l, c, m, n, D, Pl, hcs, hb, hl, hm, hmm, _, hi⟩
  · rw [List.singleton_inj] at hcs
    subst hcs
    exact ⟨[], ps_nil _ _⟩
  · rw [List.singleton_inj] at hcs
    subst hcs
    simp only [if_true] at hmm
    subst hmm
    have C2 : Tryz.prog.cellsOf 67 = 35 := by kernel_rfl
    rw [C2] at hi
    obtain ⟨ps, hlen, hps⟩ := pick_parts (R := fun i p => (∀ j u, (ptRow p)[j]? = some u → W.cell? ((x.add (i * 35)).add j) = some u) ∧ Dg p.2.2.2) l (by
      intro i hil
      obtain ⟨cs', hc, ht⟩ := hi i (by omega)
      obtain ⟨p, rfl, hg⟩ := part_of_trod ht
      obtain ⟨_, hlen, hat⟩ := World.cells?_some hc
      refine ⟨p, fun j u hu => ?_, hg⟩
      have hj : j < 35 := by have := (List.getElem?_eq_some_iff.1 hu).1; rw [ptRow_len hg] at this; exact this
      have := hat j hj
      rw [hu] at this
      exact this.trans rfl)
    have hdg : ∀ p ∈ ps, Dg p.2.2.2 := by
      intro p hp
      obtain ⟨i, hil, rfl⟩ := List.getElem_of_mem hp
      have := (hps i (by omega)).2
      rwa [show ps.getD i (0, 0, 0, []) = ps[i] by simp [List.getD, hil]] at this
    refine ⟨ps, ⟨some x, m, by rw [List.length_map, hlen], by rw [List.length_map]; omega, hm, by simp, ?_⟩, hdg⟩
    by_cases h0 : l = 0
    · exact .inl (by rw [List.map_eq_nil_iff]; exact List.length_eq_zero_iff.1 (by omega))
    · right
      have c0 := (hps 0 (by omega)).1 0 _ rfl
      obtain ⟨b, off, spot⟩ := x
      obtain rfl : spot = none := by simpa [Addr.add] using World.cell?_spot c0
      refine ⟨b, off, rfl, World.block_lt_of_cell? W _ c0, trivial, fun i r hr j u hu => ?_⟩
      obtain ⟨p, hp, rfl⟩ : ∃ p, ps[i]? = some p ∧ ptRow p = r := by simpa using hr
      have hil := (List.getElem?_eq_some_iff.1 hp).1
      have := (hps i (by omega)).1 j u (by rw [show ps.getD i (0, 0, 0, []) = p by simp [List.getD, hp]]; exact hu)
      rw [Addr.add_lit, Addr.add_lit] at this
      exact this
end

end Go.Proofs.YtgnalcobcdgnkaaGreatDoor

namespace Go.Proofs.YtgnalcobcdgnkaaGreatDoor
open Go.ChangeShapes Go.WideShapes Go.ChangeAt Go.RowKit

theorem own : ownKnob Tryz.prog.godebug = none := by kernel_rfl
theorem gConsts : Tryz.prog.globalNamed "holdfast/sha.constants" = some 1 := by kernel_rfl
theorem gFirst : Tryz.prog.globalNamed "holdfast/sha.first" = some 0 := by kernel_rfl
theorem tConsts : (Tryz.prog.globals[1]?).map (·.type) = some 118 := by kernel_rfl
theorem tFirst : (Tryz.prog.globals[0]?).map (·.type) = some 107 := by kernel_rfl

/-- The two listed variables. -/
def laid2 : List (String × DataW Unit) := [("holdfast/sha.constants", Rows.laid_holdfast_sha_constants), ("holdfast/sha.first", Rows.laid_holdfast_sha_first)]

/-- The heap behind the door's own run meets the condition. -/
theorem door_met (os : Os) (args : Array Value) : laidMetH Tryz.prog laid2 ((World.doorLaid Tryz.prog 400 os).forCall (fun _ _ => 0) ⟨#[], args, []⟩).memory :=
  laidMetH_of_parts3 (fuel := 8) (laidMet_of_run' 8 (by kernel_rfl) (by kernel_rfl)) (by kernel_rfl) (by kernel_rfl)

theorem constsD : (Rows.laid_holdfast_sha_constants : DataW Unit) = Lib.tabData .u32 (shaK.map fun n : Nat => (n : Int)) := by kernel_rfl
theorem firstD : (Rows.laid_holdfast_sha_first : DataW Unit) = Lib.tabData .u32 (shaH.map fun n : Nat => (n : Int)) := by kernel_rfl

/-- WHAT THE CONDITION GIVES THE WALKS. -/
theorem of_laid {W : World} (h : laidMetH Tryz.prog laid2 W) : Laid W := by
  rw [MakeChecks.laidMetH_plain _ _ _ (by kernel_rfl)] at h
  obtain ⟨ps, ⟨g0, t0, cs0, f0, p0, q0, hg0, ht0, hv0, hd0, ⟨g1, t1, cs1, f1, p1, q1, hg1, ht1, hv1, hd1, _, _⟩, _⟩, _, _⟩ := h
  obtain rfl := Option.some.inj (gConsts.symm.trans hg0)
  obtain rfl := Option.some.inj (gFirst.symm.trans hg1)
  obtain rfl := Option.some.inj (tConsts.symm.trans ht0)
  obtain rfl := Option.some.inj (tFirst.symm.trans ht1)
  rw [constsD] at hd0
  rw [firstD] at hd1
  have h0 := Lib.cells_of_tab Tryz.underlying118 Tryz.underlying95 (by kernel_rfl) (by kernel_rfl) hd0
  have h1 := Lib.cells_of_tab Tryz.underlying107 Tryz.underlying95 (by kernel_rfl) (by kernel_rfl) hd1
  obtain ⟨l0⟩ := cs0
  obtain ⟨l1⟩ := cs1
  simp only at h0 h1
  subst h0
  subst h1
  have hrow1 : ∃ t fr, W.heap[0]? = some (.cells (vals .u32 shaH).toArray t fr) := by
    unfold World.var? at hv1
    rw [hg1, Option.bind_some] at hv1
    split at hv1
    · rename_i cs t fr hh
      obtain rfl := Option.some.inj hv1
      exact ⟨t, fr, by rw [hh]; simp [vals]⟩
    · cases hv1
  have hrow0 : ∃ t fr, W.heap[1]? = some (.cells (vals .u32 shaK).toArray t fr) := by
    unfold World.var? at hv0
    rw [hg0, Option.bind_some] at hv0
    split at hv0
    · rename_i cs t fr hh
      obtain rfl := Option.some.inj hv0
      exact ⟨t, fr, by rw [hh]; simp [vals]⟩
    · cases hv0
  obtain ⟨t, fr, hk⟩ := hrow0
  refine ⟨?_, fun i hi => cell_of_row hk i hi, hrow1⟩
  have := (Array.getElem?_eq_some_iff.1 hk).1
  omega

end Go.Proofs.YtgnalcobcdgnkaaGreatDoor
