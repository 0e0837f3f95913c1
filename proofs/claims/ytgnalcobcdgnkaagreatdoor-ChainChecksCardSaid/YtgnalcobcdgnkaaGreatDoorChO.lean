/- Slices of manifests that came in: the opener of the shells. -/
import Derived.Test.YtgnalcobcdgnkaaGreatDoorQv
import Derived.Test.YtgnalcobcdgnkaaGreatDoorQx
namespace Go.Proofs.YtgnalcobcdgnkaaGreatDoor
open Go.RowKit Go.ChangeShapes Go.WideShapes Go.Deep

theorem pick_mvs {R : Nat → MV → Prop} (n : Nat) (h : ∀ i, i < n → ∃ l, R i l) : ∃ ls : List MV, ls.length = n ∧ ∀ i, i < n → R i (mvd ls i) := by
  induction n with
  | zero => exact ⟨[], rfl, by omega⟩
  | succ n ih =>
    obtain ⟨ls, hl, hr⟩ := ih fun i hi => h i (by omega)
    obtain ⟨l, hlr⟩ := h n (by omega)
    refine ⟨ls ++ [l], by simp [hl], fun i hi => ?_⟩
    unfold mvd at hr ⊢
    by_cases hin : i < n
    · rw [List.getD_eq_getElem?_getD, List.getElem?_append_left (by omega), ← List.getD_eq_getElem?_getD]
      exact hr i hin
    · obtain rfl : i = n := by omega
      rw [List.getD_eq_getElem?_getD, List.getElem?_append_right (by omega), hl]
      simpa using hlr

set_option maxRecDepth 100000 in
/-- A manifest's cells. -/
theorem manRow_of_trod {H : Type} {enc : TypeId × Value → H} {W : World} {base fuel : Nat} {held : Bool} {cs : List Value} {x : DataW H × List MemPlace}
    (hf0 : DataW.trod enc Tryz.prog W base (fun _ => true) held fuel 43 cs = some x) :
    ∃ (m : MF) (v : Value), cs = mfRow m v ∧ PsAt W (fun _ => True) v m.ps ∧ Dg m.prev := by
  obtain ⟨xs, n, _, _, hl, hn, hf⟩ := DataW.trod_struct Tryz.underlying43 hf0
  have c1 : Tryz.prog.cellsOf 3 = 1 := by kernel_rfl
  have c2 : Tryz.prog.cellsOf 34 = 32 := by kernel_rfl
  have c4 : Tryz.prog.cellsOf 41 = 1 := by kernel_rfl
  have c3 : Tryz.prog.cellsOf 43 = 37 := by kernel_rfl
  rw [c3] at hl
  have hn' : xs.length = 6 := hn
  match xs, hn' with
  | [y0, y1, y2, y3, y4, y5], _ =>
    have f0 : DataW.trod enc Tryz.prog W base (fun _ => true) held n 3 ((cs.drop 0).take (Tryz.prog.cellsOf 3)) = some y0 := hf 0 _ rfl
    have f1 : DataW.trod enc Tryz.prog W base (fun _ => true) held n 3 ((cs.drop 1).take (Tryz.prog.cellsOf 3)) = some y1 := hf 1 _ rfl
    have f2 : DataW.trod enc Tryz.prog W base (fun _ => true) held n 3 ((cs.drop 2).take (Tryz.prog.cellsOf 3)) = some y2 := hf 2 _ rfl
    have f3 : DataW.trod enc Tryz.prog W base (fun _ => true) held n 3 ((cs.drop 3).take (Tryz.prog.cellsOf 3)) = some y3 := hf 3 _ rfl
    have f4 : DataW.trod enc Tryz.prog W base (fun _ => true) held n 34 ((cs.drop 4).take (Tryz.prog.cellsOf 34)) = some y4 := hf 4 _ rfl
    have f5 : DataW.trod enc Tryz.prog W base (fun _ => true) held n 41 ((cs.drop 36).take (Tryz.prog.cellsOf 41)) = some y5 := hf 5 _ rfl
    rw [c1] at f0
    rw [c1] at f1
    rw [c1] at f2
    rw [c1] at f3
    rw [c2] at f4
    rw [c4] at f5
    obtain ⟨a0, h0, _⟩ := int_of_trod f0
    obtain ⟨a1, h1, _⟩ := int_of_trod f1
    obtain ⟨a2, h2, _⟩ := int_of_trod f2
    obtain ⟨a3, h3, _⟩ := int_of_trod f3
    obtain ⟨l, h4, hg⟩ := dig_of_trod f4
    obtain ⟨v, hv⟩ : ∃ v, (cs.drop 36).take 1 = [v] := by
      have : (cs.drop 36).length = 1 := by rw [List.length_drop]; omega
      match hq : cs.drop 36, this with
      | [v], _ => exact ⟨v, rfl⟩
    rw [hv] at f5
    obtain ⟨ps, hps⟩ := parts_of_trod f5
    refine ⟨⟨a0, a1, a2, a3, l, ps⟩, v, ?_, hps, hg⟩
    have e0 := take_one_get h0
    have e1 := take_one_get h1
    have e2 := take_one_get h2
    have e3 := take_one_get h3
    have e5 := take_one_get hv
    unfold mfRow
    simp only
    refine List.ext_getElem? fun i => ?_
    match i with
    | 0 => rw [e0]; rfl
    | 1 => rw [e1]; rfl
    | 2 => rw [e2]; rfl
    | 3 => rw [e3]; rfl
    | i + 4 =>
      rw [List.getElem?_append_right (by simp)]
      show cs[i + 4]? = (vals .u8 l ++ [v])[i]?
      by_cases hi : i < 32
      · rw [List.getElem?_append_left (by rw [vals_length, hg.1]; exact hi), ← h4, List.getElem?_take_of_lt hi, List.getElem?_drop, Nat.add_comm]
      · rw [List.getElem?_append_right (by rw [vals_length, hg.1]; omega), vals_length, hg.1]
        by_cases hi2 : i = 32
        · subst hi2; rw [e5]; rfl
        · rw [List.getElem?_eq_none (by omega), List.getElem?_eq_none (by simp; omega)]


set_option maxRecDepth 100000 in
/-- A slice of manifests that came in. -/
theorem mans_of_trod {H : Type} {enc : TypeId × Value → H} {W : World} {base : Nat} {held : Bool} {a : Option Addr} {len cap : Nat} {d : DataW H} {p : List MemPlace}
    (h : DataW.Trod enc Tryz.prog W base (fun _ => true) held 22 (.slice a len cap) d p) :
    ∃ rs : List MV, MsAt W (fun _ => True) (.slice a len cap) rs ∧ rs.length ≤ 9223372036854775807 := by
  obtain ⟨fuel, hf⟩ := h
  rcases open_slice Tryz.underlying22 hf with ⟨hcs, _⟩ | ⟨x, l, c, m, n, D, Pl, hcs, hb, hl, hm, hmm, _, hi⟩
  · simp [Value.cells] at hcs
    obtain ⟨rfl, rfl, rfl⟩ := hcs
    exact ⟨[], ms_nil _ _, by simp⟩
  · simp [Value.cells] at hcs
    obtain ⟨rfl, rfl, rfl⟩ := hcs
    simp only [if_true] at hmm
    subst hmm
    have C2 : Tryz.prog.cellsOf 43 = 37 := by kernel_rfl
    rw [C2] at hi
    obtain ⟨rs, hlen, hrs⟩ := pick_mvs (R := fun i r => (∀ j u, (mvRow r)[j]? = some u → W.cell? ((x.add (i * 37)).add j) = some u) ∧ PsAt W (fun _ => True) r.2 r.1.ps ∧ Dg r.1.prev) len (by
      intro i hil
      obtain ⟨cs', hc, ht⟩ := hi i (by omega)
      obtain ⟨mm, vv, rfl, hps, hg⟩ := manRow_of_trod ht
      obtain ⟨_, hlen, hat⟩ := World.cells?_some hc
      refine ⟨(mm, vv), fun j u hu => ?_, hps, hg⟩
      have hj : j < 37 := by have := (List.getElem?_eq_some_iff.1 hu).1; rw [mvRow_len hg] at this; exact this
      have := hat j hj
      unfold mvRow at hu
      rw [hu] at this
      exact this.trans rfl)
    have hall : ∀ r ∈ rs, PsAt W (fun _ => True) r.2 r.1.ps ∧ Dg r.1.prev := by
      intro r hr
      obtain ⟨i, hil, rfl⟩ := List.getElem_of_mem hr
      have := (hrs i (by omega)).2
      rwa [show mvd rs i = rs[i] by unfold mvd; simp [List.getD, hil]] at this
    refine ⟨rs, ⟨⟨some x, m, by rw [List.length_map, hlen], by rw [List.length_map]; omega, hm, by simp, ?_⟩, hall⟩, by unfold maxLen at hm; omega⟩
    by_cases h0 : len = 0
    · exact .inl (by rw [List.map_eq_nil_iff]; exact List.length_eq_zero_iff.1 (by omega))
    · right
      have c0 := (hrs 0 (by omega)).1 0 _ rfl
      obtain ⟨b, off, spot⟩ := x
      obtain rfl : spot = none := by simpa [Addr.add] using World.cell?_spot c0
      refine ⟨b, off, rfl, World.block_lt_of_cell? W _ c0, trivial, fun i r hr j u hu => ?_⟩
      obtain ⟨q, hq, rfl⟩ : ∃ q, rs[i]? = some q ∧ mvRow q = r := by simpa using hr
      have hil := (List.getElem?_eq_some_iff.1 hq).1
      have := (hrs i (by omega)).1 j u (by rw [show mvd rs i = q by unfold mvd; simp [List.getD, hq]]; exact hu)
      rw [Addr.add_lit, Addr.add_lit] at this
      exact this

end Go.Proofs.YtgnalcobcdgnkaaGreatDoor
