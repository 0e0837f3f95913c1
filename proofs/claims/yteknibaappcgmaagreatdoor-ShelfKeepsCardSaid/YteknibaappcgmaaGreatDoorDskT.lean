/- How acts that came in are opened. -/
import Derived.Test.YteknibaappcgmaaGreatDoorDdP
import Derived.ProofKit
import Derived.Deep.Slices
import Derived.Deep.Grids
import Derived.ChangeSame
namespace Go.Proofs.YteknibaappcgmaaGreatDoor
open Go.RowKit Go.ChangeShapes Go.WideShapes Go.Deep

section
variable {H : Type} {enc : TypeId × Value → H} {P : Program} {w : World} {base : Nat} {spare : Nat → Bool} {held : Bool}
theorem trod_struct6 {t : TypeId} {f0 f1 f2 f3 f4 f5 : Field} {fuel : Nat} {cs : List Value} {x : DataW H × List MemPlace} (ht : P.underlying t = some (.struct #[f0, f1, f2, f3, f4, f5])) (h : DataW.trod enc P w base spare held fuel t cs = some x) :
    ∃ y0 y1 y2 y3 y4 y5 n, cs.length = P.cellsOf t ∧ DataW.trod enc P w base spare held n f0.type ((cs.drop f0.offset).take (P.cellsOf f0.type)) = some y0 ∧
      DataW.trod enc P w base spare held n f1.type ((cs.drop f1.offset).take (P.cellsOf f1.type)) = some y1 ∧ DataW.trod enc P w base spare held n f2.type ((cs.drop f2.offset).take (P.cellsOf f2.type)) = some y2 ∧
      DataW.trod enc P w base spare held n f3.type ((cs.drop f3.offset).take (P.cellsOf f3.type)) = some y3 ∧ DataW.trod enc P w base spare held n f4.type ((cs.drop f4.offset).take (P.cellsOf f4.type)) = some y4 ∧
      DataW.trod enc P w base spare held n f5.type ((cs.drop f5.offset).take (P.cellsOf f5.type)) = some y5 := by
  obtain ⟨xs, n, _, rfl, hl, hlen, hf⟩ := DataW.trod_struct ht h
  match xs, hlen with
  | [y0, y1, y2, y3, y4, y5], _ => exact ⟨y0, y1, y2, y3, y4, y5, n, hl, by simpa using hf 0 f0 rfl, by simpa using hf 1 f1 rfl, by simpa using hf 2 f2 rfl, by simpa using hf 3 f3 rfl, by simpa using hf 4 f4 rfl, by simpa using hf 5 f5 rfl⟩
end

/-- Bytes that came in. -/
theorem bytes_in {H : Type} {enc : TypeId × Value → H} {W : World} {base : Nat} {held : Bool} {fuel : Nat} {v : Value} {x : DataW H × List MemPlace}
    (h : DataW.trod enc Tryz.prog W base (fun _ => true) held fuel 46 [v] = some x) : ∃ l, At W (fun j => j < W.heap.size) .u8 v l ∧ ∀ y ∈ l, y < 256 := by
  rcases open_ints Tryz.underlying46 Tryz.underlying5 (by kernel_rfl) h with ⟨hv, _⟩ | ⟨x2, l2, c2, zs, hv, _, hl2, hm2, hz, _, hcell, hwz⟩
  · rw [List.singleton_inj] at hv
    subst hv
    exact ⟨[], At.none_any _ _, by simp⟩
  · rw [List.singleton_inj] at hv
    subst hv
    obtain ⟨l3, hl3, hr3, hw3⟩ := reads_of_row (w := W) (k := .u8) (a := some x2) (len := l2) (cap := c2) (zs := zs) (.inr ⟨x2, rfl, hl2, hm2, by simpa using hz, hcell, hwz⟩) (fun n h => (wf_u8 h).1)
    exact ⟨l3, hr3.at', fun y hy => by have := wf_u8 (hw3 y hy); omega⟩
/-- Picks that came in. -/
theorem bools_in {H : Type} {enc : TypeId × Value → H} {W : World} {base : Nat} {held : Bool} {fuel : Nat} {v : Value} {x : DataW H × List MemPlace}
    (h : DataW.trod enc Tryz.prog W base (fun _ => true) held fuel 49 [v] = some x) : ∃ ks : List Bool, RowV W (fun j => j < W.heap.size) v (ks.map Value.bool) := by
  rcases open_bools Tryz.underlying49 Tryz.underlying4 (by kernel_rfl) h with ⟨hv, _⟩ | ⟨a, len, cap, Bf, hv, _, hl, hm, _, hcell⟩
  · rw [List.singleton_inj] at hv
    subst hv
    exact ⟨[], none, 0, rfl, by simp, by simp [maxLen], fun _ => rfl, .inl rfl⟩
  · rw [List.singleton_inj] at hv
    subst hv
    refine ⟨(List.range len).map Bf, some a, cap, by simp, by simpa using hl, hm, by simp, ?_⟩
    by_cases h0 : len = 0
    · subst h0; exact .inl rfl
    · have c0 := hcell 0 (by omega)
      obtain ⟨b, off, spot⟩ := a
      obtain rfl : spot = none := by simpa [Addr.add] using World.cell?_spot c0
      have hlt := World.block_lt_of_cell? W _ c0
      refine .inr ⟨b, off, rfl, hlt, hlt, fun i hi => ?_⟩
      have hil : i < len := by simpa using hi
      have := hcell i (by omega)
      rw [Addr.add_lit] at this
      rw [this]
      simp [hil]
/-- A text that came in. -/
theorem text_in {H : Type} {enc : TypeId × Value → H} {W : World} {base : Nat} {held : Bool} {fuel : Nat} {v : Value} {x : DataW H × List MemPlace}
    (h : DataW.trod enc Tryz.prog W base (fun _ => true) held fuel 9 [v] = some x) : ∃ n : Nm, v = nmV n ∧ n.length ≤ 9223372036854775807 := by
  obtain ⟨s, hv, _, hs⟩ := DataW.trod_string Tryz.underlying9 h
  rw [List.singleton_inj] at hv
  subst hv
  exact ⟨s.data.toList, nmV_of s, by show s.data.toList.length ≤ maxLen; rw [Array.length_toList]; exact hs⟩
theorem int_in {H : Type} {enc : TypeId × Value → H} {W : World} {base : Nat} {held : Bool} {fuel : Nat} {v : Value} {x : DataW H × List MemPlace}
    (h : DataW.trod enc Tryz.prog W base (fun _ => true) held fuel 3 [v] = some x) : ∃ n : Int, v = .int .i64 n ∧ -9223372036854775808 ≤ n ∧ n ≤ 9223372036854775807 := by
  obtain ⟨n, hv, _, hw⟩ := DataW.trod_int Tryz.underlying3 h
  rw [List.singleton_inj] at hv
  have := wf_i64 hw
  exact ⟨n, hv, this.1, this.2⟩

theorem pick_n {α : Type} {R : Nat → α → Prop} (n : Nat) (h : ∀ i, i < n → ∃ l, R i l) : ∃ ls : List α, ls.length = n ∧ ∀ i a, ls[i]? = some a → R i a := by
  induction n with
  | zero => exact ⟨[], rfl, by simp⟩
  | succ n ih =>
    obtain ⟨ls, hl, hr⟩ := ih fun i hi => h i (by omega)
    obtain ⟨l, hlr⟩ := h n (by omega)
    refine ⟨ls ++ [l], by simp [hl], fun i a hi => ?_⟩
    by_cases hin : i < n
    · rw [List.getElem?_append_left (by omega)] at hi
      exact hr i a hi
    · obtain rfl : i = n := by have := (List.getElem?_eq_some_iff.1 hi).1; simp at this; omega
      rw [List.getElem?_append_right (by omega), hl] at hi
      simp at hi
      rw [← hi]
      exact hlr

set_option maxRecDepth 100000 in
theorem actsD_of_trod {H : Type} {enc : TypeId × Value → H} {W : World} {base : Nat} {held : Bool} {a : Option Addr} {len cap : Nat} {d : DataW H} {p : List MemPlace}
    (h : DataW.Trod enc Tryz.prog W base (fun _ => true) held 83 (.slice a len cap) d p) :
    ∃ acts : List ActR, acts.length = len ∧ ActsAt W (fun j => j < W.heap.size) (.slice a len cap) acts := by
  obtain ⟨fuel, hf⟩ := h
  rcases open_slice Tryz.underlying83 hf with ⟨hcs, _⟩ | ⟨x, l, c, m, n, D, Pl, hcs, hb, hl, hm, hmm, _, hi⟩
  · simp [Value.cells] at hcs
    obtain ⟨rfl, rfl, rfl⟩ := hcs
    exact ⟨[], rfl, [], recAt_nil _ _ _, rfl, by simp⟩
  · simp [Value.cells] at hcs
    obtain ⟨rfl, rfl, rfl⟩ := hcs
    simp only [if_true] at hmm
    subst hmm
    have C6 : Tryz.prog.cellsOf 51 = 6 := by kernel_rfl
    have k1 : Tryz.prog.cellsOf 3 = 1 := by kernel_rfl
    have k2 : Tryz.prog.cellsOf 9 = 1 := by kernel_rfl
    have k3 : Tryz.prog.cellsOf 46 = 1 := by kernel_rfl
    have k4 : Tryz.prog.cellsOf 49 = 1 := by kernel_rfl
    rw [C6] at hi
    have each : ∀ i, i < len → ∃ q : ActR × Value × Value, (∀ j u, (actRow q.1 q.2.1 q.2.2)[j]? = some u → W.cell? (x.add (i * 6 + j)) = some u) ∧ ActAt W (fun j => j < W.heap.size) q.1 q.2.1 q.2.2 := by
      intro i hil
      obtain ⟨cs', hc, ht⟩ := hi i (by omega)
      obtain ⟨y0, y1, y2, y3, y4, y5, k, hcl, h0, h1, h2, h3, h4, h5⟩ := trod_struct6 Tryz.underlying51 ht
      rw [C6] at hcl
      match cs', hcl with
      | [c0, c1, c2, c3, c4, c5], _ =>
        simp only [k1, k2, k3, k4, List.drop_succ_cons, List.drop_zero, List.take_succ_cons, List.take_zero] at h0 h1 h2 h3 h4 h5
        obtain ⟨kind, rfl, hk⟩ := int_in h0
        obtain ⟨name, rfl, hn⟩ := text_in h1
        obtain ⟨to, rfl, hto⟩ := text_in h2
        obtain ⟨bs, hbs, h8⟩ := bytes_in h3
        obtain ⟨nn, rfl, hnn⟩ := int_in h4
        obtain ⟨ks, hks⟩ := bools_in h5
        refine ⟨(⟨kind, name, to, bs, nn, ks⟩, c3, c5), fun j u hj => ?_, ⟨hbs, h8, hks, hk, hnn, hn, hto⟩⟩
        obtain ⟨_, _, hat⟩ := World.cells?_some hc
        have hj6 : j < 6 := (List.getElem?_eq_some_iff.1 hj).1
        have := hat j hj6
        rw [Go.Deep.add_add] at this
        rw [this]
        exact hj
    obtain ⟨qs, hlen, hqs⟩ := pick_n len each
    refine ⟨qs.map (·.1), by simpa using hlen, qs.map (fun q => actRow q.1 q.2.1 q.2.2), ⟨some x, m, by simp [hlen], by simp [hlen]; omega, hm, by simp, ?_⟩, by simp, ?_⟩
    · by_cases h0 : len = 0
      · exact .inl (List.length_eq_zero_iff.1 (by simp [hlen, h0]))
      · right
        obtain ⟨q0, hq0⟩ : ∃ q0, qs[0]? = some q0 := ⟨_, List.getElem?_eq_getElem (by omega)⟩
        have c0 := (hqs 0 q0 hq0).1 0 _ rfl
        obtain ⟨b, off, spot⟩ := x
        obtain rfl : spot = none := by simpa [Addr.add] using World.cell?_spot c0
        have hlt := World.block_lt_of_cell? W _ c0
        refine ⟨b, off, rfl, by simpa [Addr.add] using hlt, by simpa [Addr.add] using hlt, fun i r hr j u hu => ?_⟩
        rw [List.getElem?_map] at hr
        obtain ⟨q, hq, rfl⟩ := Option.map_eq_some_iff.1 hr
        have := (hqs i q hq).1 j u hu
        rw [Addr.add_lit] at this
        rw [← this, Nat.add_assoc]
    · intro i a ha
      rw [List.getElem?_map] at ha
      obtain ⟨q, hq, rfl⟩ := Option.map_eq_some_iff.1 ha
      exact ⟨q.2.1, q.2.2, by rw [List.getElem?_map, hq]; rfl, (hqs i q hq).2⟩

set_option maxRecDepth 100000 in
theorem textD_of_trod {H : Type} {enc : TypeId × Value → H} {W : World} {base b0 : Nat} {held : Bool} {r : Reach} {v : Value} {d : DataW H} {p : List MemPlace} (hv : Value.okWide Tryz.prog W r b0 9 v)
    (h : DataW.Trod enc Tryz.prog W base (fun _ => true) held 9 v d p) : ∃ n : Nm, v = nmV n ∧ n.length ≤ 9223372036854775807 := by
  obtain ⟨s, rfl, _, _, hs⟩ := Go.ChangeMaps.open_string Tryz.underlying9 hv h
  exact ⟨s.data.toList, nmV_of s, by show s.data.toList.length ≤ maxLen; rw [Array.length_toList]; exact hs⟩
set_option maxRecDepth 100000 in
theorem boolsD_of_trod {H : Type} {enc : TypeId × Value → H} {W : World} {base : Nat} {held : Bool} {a : Option Addr} {len cap : Nat} {d : DataW H} {p : List MemPlace}
    (h : DataW.Trod enc Tryz.prog W base (fun _ => true) held 49 (.slice a len cap) d p) : ∃ ks : List Bool, ks.length = len ∧ RowV W (fun j => j < W.heap.size) (.slice a len cap) (ks.map Value.bool) := by
  obtain ⟨fuel, hf⟩ := h
  obtain ⟨ks, hk⟩ := bools_in (v := .slice a len cap) (by simpa [Value.cells] using hf)
  obtain ⟨ao, cp, hv, _⟩ := id hk
  refine ⟨ks, ?_, hk⟩
  simp only [Value.slice.injEq, List.length_map] at hv
  exact hv.2.1.symm

end Go.Proofs.YteknibaappcgmaaGreatDoor
