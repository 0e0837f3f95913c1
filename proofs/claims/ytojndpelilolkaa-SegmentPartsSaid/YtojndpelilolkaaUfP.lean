/- Law 08: acts and entries that came in. · Lists of acts that came in. · How cells that came in are opened: one cell, and a slice of them. -/
import Derived.Test.YtojndpelilolkaaUrP
import Derived.ProofKit
import Derived.Deep.Slices
import Derived.Deep.Grids
import Derived.Deep.Strs
import Derived.ChangeSame
import Derived.Test.YtojndpelilolkaaCgP
namespace Go.Proofs.Ytojndpelilolkaa
open Go.RowKit Go.ChangeShapes Go.WideShapes Go.Deep

instance : Inhabited UA := ⟨⟨0, 0, 0, []⟩⟩
def uaRow (a : UA) (bv : Value) : List Value := [.int .i64 a.kind, .int .i64 a.epoch, .int .i64 a.addr, bv]
structure UAAt (w : World) (B : Nat → Prop) (a : UA) (bv : Value) : Prop where
  data : At w B .u8 bv a.data
  byte : ∀ y ∈ a.data, y < 256
  kind : I64 a.kind
  epoch : I64 a.epoch
  addr : I64 a.addr
/-- A slice of acts. -/
def UAsAt (w : World) (B : Nat → Prop) (v : Value) (acts : List UA) : Prop :=
  ∃ rows : List (List Value), RecAt w B 4 v rows ∧ rows.length = acts.length ∧ ∀ (i : Nat) (a : UA), acts[i]? = some a → ∃ bv, rows[i]? = some (uaRow a bv) ∧ UAAt w B a bv
theorem UAsAt.kept {w w' : World} {B : Nat → Prop} {v : Value} {acts : List UA} (h : UAsAt w B v acts) (hk : Kept B w w') : UAsAt w' B v acts := by
  obtain ⟨rows, h1, h2, h3⟩ := h
  refine ⟨rows, h1.keep hk, h2, fun i a hi => ?_⟩
  obtain ⟨bv, h4, h5⟩ := h3 i a hi
  exact ⟨bv, h4, h5.data.keep hk, h5.byte, h5.kind, h5.epoch, h5.addr⟩
theorem UAsAt.val {w : World} {B : Nat → Prop} {v : Value} {acts : List UA} (h : UAsAt w B v acts) : ∃ ao cap, v = .slice ao acts.length cap ∧ acts.length ≤ cap ∧ cap ≤ maxLen ∧ (ao = none → cap = 0) := by
  obtain ⟨rows, h1, h2, _⟩ := h
  obtain ⟨ao, cap, hv, h3, h4, h5⟩ := RecAt.val h1
  rw [h2] at hv h3
  exact ⟨ao, cap, hv, h3, h4, h5⟩
theorem UAsAt.at {w : World} {B : Nat → Prop} {ao : Option Addr} {n cap : Nat} {acts : List UA} (h : UAsAt w B (.slice ao n cap) acts) {i : Nat} {a : UA} (hi : acts[i]? = some a) :
    ∃ b off bv, ao = some ⟨b, off, none⟩ ∧ b < w.heap.size ∧ B b ∧ w.cell? ⟨b, off + i * 4, none⟩ = some (.int .i64 a.kind) ∧ w.cell? ⟨b, off + i * 4 + 1, none⟩ = some (.int .i64 a.epoch) ∧ w.cell? ⟨b, off + i * 4 + 2, none⟩ = some (.int .i64 a.addr) ∧ w.cell? ⟨b, off + i * 4 + 3, none⟩ = some bv ∧ UAAt w B a bv := by
  obtain ⟨rows, h1, _, h3⟩ := h
  obtain ⟨bv, h4, h5⟩ := h3 i a hi
  obtain ⟨b, off, e, hb, hB, hc⟩ := RecAt.at h1 h4
  exact ⟨b, off, bv, e, hb, hB, hc 0 _ rfl, hc 1 _ rfl, hc 2 _ rfl, hc 3 _ rfl, h5⟩

section
variable {H : Type} {enc : TypeId × Value → H} {P : Program} {w : World} {base : Nat} {spare : Nat → Bool} {held : Bool}
theorem trod_structU4 {t : TypeId} {f0 f1 f2 f3 : Field} {fuel : Nat} {cs : List Value} {x : DataW H × List MemPlace} (ht : P.underlying t = some (.struct #[f0, f1, f2, f3])) (h : DataW.trod enc P w base spare held fuel t cs = some x) :
    ∃ y0 y1 y2 y3 n, cs.length = P.cellsOf t ∧ DataW.trod enc P w base spare held n f0.type ((cs.drop f0.offset).take (P.cellsOf f0.type)) = some y0 ∧
      DataW.trod enc P w base spare held n f1.type ((cs.drop f1.offset).take (P.cellsOf f1.type)) = some y1 ∧ DataW.trod enc P w base spare held n f2.type ((cs.drop f2.offset).take (P.cellsOf f2.type)) = some y2 ∧
      DataW.trod enc P w base spare held n f3.type ((cs.drop f3.offset).take (P.cellsOf f3.type)) = some y3 := by
  obtain ⟨xs, n, _, rfl, hl, hlen, hf⟩ := DataW.trod_struct ht h
  match xs, hlen with
  | [y0, y1, y2, y3], _ => exact ⟨y0, y1, y2, y3, n, hl, by simpa using hf 0 f0 rfl, by simpa using hf 1 f1 rfl, by simpa using hf 2 f2 rfl, by simpa using hf 3 f3 rfl⟩
end
/-- Bytes that came in. -/
theorem bytes_inU {H : Type} {enc : TypeId × Value → H} {W : World} {base : Nat} {held : Bool} {fuel : Nat} {v : Value} {x : DataW H × List MemPlace}
    (h : DataW.trod enc Try.prog W base (fun _ => true) held fuel 32 [v] = some x) : ∃ l, At W (fun j => j < W.heap.size) .u8 v l ∧ ∀ y ∈ l, y < 256 := by
  rcases open_ints Try.underlying32 Try.underlying5 (by kernel_rfl) h with ⟨hv, _⟩ | ⟨x2, l2, c2, zs, hv, _, hl2, hm2, hz, _, hcell, hwz⟩
  · rw [List.singleton_inj] at hv
    subst hv
    exact ⟨[], ⟨⟨none, 0, rfl, by simp, by simp [maxLen], fun _ => rfl, .inl rfl⟩, .inl rfl⟩, by simp⟩
  · rw [List.singleton_inj] at hv
    subst hv
    obtain ⟨l3, hl3, hr3, hw3⟩ := reads_of_row (w := W) (k := .u8) (a := some x2) (len := l2) (cap := c2) (zs := zs) (.inr ⟨x2, rfl, hl2, hm2, by simpa using hz, hcell, hwz⟩) (fun n h => (wf_u8 h).1)
    exact ⟨l3, hr3.at', fun y hy => by have := wf_u8 (hw3 y hy); omega⟩
theorem int_inU {H : Type} {enc : TypeId × Value → H} {W : World} {base : Nat} {held : Bool} {fuel : Nat} {v : Value} {x : DataW H × List MemPlace}
    (h : DataW.trod enc Try.prog W base (fun _ => true) held fuel 3 [v] = some x) : ∃ n : Int, v = .int .i64 n ∧ I64 n := by
  obtain ⟨n, hv, _, hw⟩ := DataW.trod_int Try.underlying3 h
  rw [List.singleton_inj] at hv
  have := wf_i64 hw
  exact ⟨n, hv, this.1, this.2⟩
theorem pick_nU {α : Type} {R : Nat → α → Prop} (n : Nat) (h : ∀ i, i < n → ∃ l, R i l) : ∃ ls : List α, ls.length = n ∧ ∀ i a, ls[i]? = some a → R i a := by
  induction n with
  | zero => exact ⟨[], rfl, by simp⟩
  | succ n ih =>
    obtain ⟨ls, hl, hr⟩ := ih fun i hi => h i (by omega)
    obtain ⟨l, hlr⟩ := h n (by omega)
    refine ⟨ls ++ [l], by simp [hl], fun i a hi => ?_⟩
    by_cases hin : i < n
    · rw [List.getElem?_append_left (by omega)] at hi
      exact hr i a hi
    · obtain rfl : i = n := by have := (List.getElem?_eq_some_iff.1 hi).1; simp at this; omega
      rw [List.getElem?_append_right (by omega), hl] at hi
      simp at hi
      rw [← hi]
      exact hlr
/-- A row of records that came in: what a row's records are, told one by one. -/
theorem recs_in {α : Type} {W : World} {k n m : Nat} {x : Addr} {row : α → List Value} {R : α → Prop} (_ : 0 < k) (hm : n ≤ m) (hmx : m ≤ maxLen) (hrow : ∀ a, 0 < (row a).length)
    (each : ∀ i, i < n → ∃ q : α, (∀ j u, (row q)[j]? = some u → W.cell? (x.add (i * k + j)) = some u) ∧ R q) :
    ∃ qs : List α, qs.length = n ∧ RecAt W (fun j => j < W.heap.size) k (.slice (some x) n m) (qs.map row) ∧ ∀ q ∈ qs, R q := by
  obtain ⟨qs, hlen, hqs⟩ := pick_nU n each
  refine ⟨qs, hlen, ⟨some x, m, by simp [hlen], by simp [hlen]; omega, hmx, by simp, ?_⟩, fun q hq => ?_⟩
  · by_cases h0 : n = 0
    · exact .inl (List.length_eq_zero_iff.1 (by simp [hlen, h0]))
    · right
      obtain ⟨q0, hq0⟩ : ∃ q0, qs[0]? = some q0 := ⟨_, List.getElem?_eq_getElem (by omega)⟩
      obtain ⟨u0, hu0⟩ : ∃ u0, (row q0)[0]? = some u0 := ⟨_, List.getElem?_eq_getElem (hrow q0)⟩
      have c0 := (hqs 0 q0 hq0).1 0 _ hu0
      obtain ⟨b, off, spot⟩ := x
      obtain rfl : spot = none := by simpa [Addr.add] using World.cell?_spot c0
      have hlt := World.block_lt_of_cell? W _ c0
      refine ⟨b, off, rfl, by simpa [Addr.add] using hlt, by simpa [Addr.add] using hlt, fun i r hr j u hu => ?_⟩
      rw [List.getElem?_map] at hr
      obtain ⟨q, hq, rfl⟩ := Option.map_eq_some_iff.1 hr
      have := (hqs i q hq).1 j u hu
      rw [Addr.add_lit] at this
      rw [← this, Nat.add_assoc]
  · obtain ⟨i, hi⟩ := List.getElem?_of_mem hq
    exact (hqs i q hi).2

set_option maxRecDepth 100000 in
theorem cell_inU {H : Type} {enc : TypeId × Value → H} {W : World} {base : Nat} {held : Bool} {fuel : Nat} {cs : List Value} {x : DataW H × List MemPlace}
    (h : DataW.trod enc Try.prog W base (fun _ => true) held fuel 41 cs = some x) : ∃ k v l, cs = [.int .i64 k, v] ∧ I64 k ∧ At W (fun j => j < W.heap.size) .u8 v l ∧ ∀ y ∈ l, y < 256 := by
  obtain ⟨y0, y1, n, _, hcl, h0, h1⟩ := trod_struct2 Try.underlying41 h
  have C2 : Try.prog.cellsOf 41 = 2 := by kernel_rfl
  have k1 : Try.prog.cellsOf 3 = 1 := by kernel_rfl
  have k2 : Try.prog.cellsOf 32 = 1 := by kernel_rfl
  rw [C2] at hcl
  match cs, hcl with
  | [c0, c1], _ =>
    simp only [k1, k2, List.drop_succ_cons, List.drop_zero, List.take_succ_cons, List.take_zero] at h0 h1
    obtain ⟨kind, rfl, hk⟩ := int_inU h0
    obtain ⟨l, hl, h8⟩ := bytes_inU h1
    exact ⟨kind, c1, l, rfl, hk, hl, h8⟩
end Go.Proofs.Ytojndpelilolkaa

namespace Go.Proofs.Ytojndpelilolkaa
open Go.RowKit Go.ChangeShapes Go.WideShapes Go.Deep

end Go.Proofs.Ytojndpelilolkaa

namespace Go.Proofs.Ytojndpelilolkaa
open Go.RowKit Go.ChangeShapes Go.WideShapes Go.Deep

theorem pick_cells {R : Nat → IC → Prop} (n : Nat) (h : ∀ i, i < n → ∃ l, R i l) : ∃ ls : List IC, ls.length = n ∧ ∀ i, i < n → R i (ls.getD i (0, [])) := by
  induction n with
  | zero => exact ⟨[], rfl, by omega⟩
  | succ n ih =>
    obtain ⟨ls, hl, hr⟩ := ih fun i hi => h i (by omega)
    obtain ⟨l, hlr⟩ := h n (by omega)
    refine ⟨ls ++ [l], by simp [hl], fun i hi => ?_⟩
    by_cases hin : i < n
    · rw [List.getD_eq_getElem?_getD, List.getElem?_append_left (by omega), ← List.getD_eq_getElem?_getD]
      exact hr i hin
    · obtain rfl : i = n := by omega
      rw [List.getD_eq_getElem?_getD, List.getElem?_append_right (by omega), hl]
      simpa using hlr

set_option maxRecDepth 100000 in
/-- The cells of a cell. -/
theorem cell_of {H : Type} {enc : TypeId × Value → H} {W : World} {base : Nat} {held : Bool} {fuel : Nat} {cs : List Value} {x : DataW H × List MemPlace}
    (h : DataW.trod enc Try.prog W base (fun _ => true) held fuel 41 cs = some x) : ∃ k v l, cs = [.int .i64 k, v] ∧ Reads W .u8 v l ∧ ∀ y ∈ l, y < 256 := by
  obtain ⟨y0, y1, n, _, hcl, h0, h1⟩ := trod_struct2 Try.underlying41 h
  have C2 : Try.prog.cellsOf 41 = 2 := by kernel_rfl
  have k1 : Try.prog.cellsOf 3 = 1 := by kernel_rfl
  have k2 : Try.prog.cellsOf 32 = 1 := by kernel_rfl
  rw [C2] at hcl
  match cs, hcl with
  | [c0, c1], _ =>
    simp only [k1, k2, List.drop_succ_cons, List.drop_zero, List.take_succ_cons, List.take_zero] at h0 h1
    obtain ⟨kind, e0, _, _⟩ := DataW.trod_int Try.underlying3 h0
    simp only [List.cons.injEq, and_true] at e0
    subst e0
    rcases open_ints Try.underlying32 Try.underlying5 (by kernel_rfl) h1 with ⟨hv, _⟩ | ⟨x2, l2, c2, zs, hv, _, hl2, hm2, hz, _, hcell, hwz⟩
    · rw [List.singleton_inj] at hv
      subst hv
      exact ⟨kind, _, [], rfl, ⟨none, 0, rfl, by simp, by simp [maxLen], fun _ => rfl, .inl rfl⟩, by simp⟩
    · rw [List.singleton_inj] at hv
      subst hv
      obtain ⟨l3, hl3, hr3, hw3⟩ := reads_of_row (w := W) (k := .u8) (a := some x2) (len := l2) (cap := c2) (zs := zs) (.inr ⟨x2, rfl, hl2, hm2, by simpa using hz, hcell, hwz⟩) (fun n h => (wf_u8 h).1)
      exact ⟨kind, _, l3, rfl, hr3, fun y hy => by have := wf_u8 (hw3 y hy); omega⟩

theorem cell_of_trod {H : Type} {enc : TypeId × Value → H} {W : World} {base : Nat} {held : Bool} {cs : Array Value} {d : DataW H} {p : List MemPlace}
    (h : DataW.Trod enc Try.prog W base (fun _ => true) held 41 (.agg cs) d p) : ∃ k v l, cs = #[.int .i64 k, v] ∧ Reads W .u8 v l ∧ ∀ y ∈ l, y < 256 := by
  obtain ⟨fuel, hf⟩ := h
  obtain ⟨k, v, l, hc, hr, hb⟩ := cell_of hf
  exact ⟨k, v, l, Array.toList_inj.1 hc, hr, hb⟩

set_option maxRecDepth 100000 in
theorem cells_of_trod {H : Type} {enc : TypeId × Value → H} {W : World} {base : Nat} {held : Bool} {a : Option Addr} {len cap : Nat} {d : DataW H} {p : List MemPlace}
    (h : DataW.Trod enc Try.prog W base (fun _ => true) held 22 (.slice a len cap) d p) :
    ∃ cs : List IC, cs.length = len ∧ CellsAt W (fun _ => True) (.slice a len cap) cs ∧ ∀ c ∈ cs, ∀ y ∈ c.2, y < 256 := by
  obtain ⟨fuel, hf⟩ := h
  rcases open_slice Try.underlying22 hf with ⟨hcs, _⟩ | ⟨x, l, c, m, n, D, Pl, hcs, hb, hl, hm, hmm, _, hi⟩
  · simp [Value.cells] at hcs
    obtain ⟨rfl, rfl, rfl⟩ := hcs
    exact ⟨[], rfl, cells_nil _ _, by simp⟩
  · simp [Value.cells] at hcs
    obtain ⟨rfl, rfl, rfl⟩ := hcs
    simp only [if_true] at hmm
    subst hmm
    have C2 : Try.prog.cellsOf 41 = 2 := by kernel_rfl
    rw [C2] at hi
    have each : ∀ i, i < len → ∃ c : IC, ∃ v, W.cell? (x.add (i * 2)) = some (.int .i64 c.1) ∧ W.cell? ((x.add (i * 2)).add 1) = some v ∧ Reads W .u8 v c.2 ∧ ∀ y ∈ c.2, y < 256 := by
      intro i hil
      obtain ⟨cs', hc, ht⟩ := hi i (by omega)
      obtain ⟨k, v, l, rfl, hr, h8⟩ := cell_of ht
      obtain ⟨_, _, hat⟩ := World.cells?_some hc
      have a0 := hat 0 (by decide)
      have a1 := hat 1 (by decide)
      simp only [List.getElem?_cons_zero, List.getElem?_cons_succ] at a0 a1
      exact ⟨(k, l), v, by simpa [Addr.add] using a0, a1, hr, h8⟩
    obtain ⟨cs, hlen, hcs⟩ := pick_cells len each
    refine ⟨cs, hlen, ⟨some x, m, by rw [hlen], by omega, hm, by simp, ?_⟩, ?_⟩
    · by_cases h0 : len = 0
      · exact .inl (List.length_eq_zero_iff.1 (by omega))
      · right
        obtain ⟨v0, c0, _⟩ := hcs 0 (by omega)
        obtain ⟨b, off, spot⟩ := x
        obtain rfl : spot = none := by simpa [Addr.add] using World.cell?_spot c0
        refine ⟨b, off, rfl, World.block_lt_of_cell? W _ c0, trivial, fun i hil => ?_⟩
        obtain ⟨v, h1, h2, h3, _⟩ := hcs i (by omega)
        exact ⟨v, by rw [← h1, Addr.add_lit], by rw [← h2, Addr.add_lit, Addr.add_lit], (h3.at').mono fun _ _ _ => trivial⟩
    · intro c hc y hy
      obtain ⟨i, hil, rfl⟩ := List.getElem_of_mem hc
      obtain ⟨v, _, _, _, h4⟩ := hcs i (by omega)
      have e : cs.getD i (0, []) = cs[i] := by simp [List.getD, hil]
      rw [e] at h4
      exact h4 y hy

set_option maxRecDepth 100000 in
theorem bytes_of_trod {H : Type} {enc : TypeId × Value → H} {W : World} {base : Nat} {held : Bool} {a : Option Addr} {len cap : Nat} {d : DataW H} {p : List MemPlace}
    (h : DataW.Trod enc Try.prog W base (fun _ => true) held 32 (.slice a len cap) d p) :
    ∃ l : List Nat, l.length = len ∧ Reads W .u8 (.slice a len cap) l ∧ ∀ y ∈ l, y < 256 := by
  obtain ⟨fuel, hf⟩ := h
  rcases open_ints Try.underlying32 Try.underlying5 (by kernel_rfl) hf with ⟨hv, _⟩ | ⟨x2, l2, c2, zs, hv, _, hl2, hm2, hz, _, hcell, hwz⟩
  · simp [Value.cells] at hv
    obtain ⟨rfl, rfl, rfl⟩ := hv
    exact ⟨[], rfl, ⟨none, 0, rfl, by simp, by simp [maxLen], fun _ => rfl, .inl rfl⟩, by simp⟩
  · simp [Value.cells] at hv
    obtain ⟨rfl, rfl, rfl⟩ := hv
    obtain ⟨l3, hl3, hr3, hw3⟩ := reads_of_row (w := W) (k := .u8) (a := some x2) (len := len) (cap := cap) (zs := zs) (.inr ⟨x2, rfl, hl2, hm2, by simpa using hz, hcell, hwz⟩) (fun n h => (wf_u8 h).1)
    exact ⟨l3, hl3, hr3, fun y hy => by have := wf_u8 (hw3 y hy); omega⟩

end Go.Proofs.Ytojndpelilolkaa
