/- Acts of layer 7: what a slice of them reads as, how one that came in is opened; Long. -/
import Derived.Test.YtmjpckodcafjiaaDskT
namespace Go.Proofs.Ytmjpckodcafjiaa
open Go.RowKit Go.ChangeShapes Go.WideShapes Go.Deep

structure Act7 where
  kind : Int
  name : Nm
  bytes : List Nat
  act : ActR
  keep : List Bool
instance : Inhabited Act7 := ⟨⟨0, [], [], default, []⟩⟩
def act7Row (a : Act7) (v : Value × Value × Value × Value) : List Value := [.int .i64 a.kind, nmV a.name, v.1, .int .i64 a.act.kind, nmV a.act.name, nmV a.act.to, v.2.1, .int .i64 a.act.n, v.2.2.1, v.2.2.2]
structure Act7At (w : World) (B : Nat → Prop) (a : Act7) (v : Value × Value × Value × Value) : Prop where
  bytes : At w B .u8 v.1 a.bytes
  byte : ∀ y ∈ a.bytes, y < 256
  act : ActAt w B a.act v.2.1 v.2.2.1
  keep : RowV w B v.2.2.2 (a.keep.map Value.bool)
  kind : -9223372036854775808 ≤ a.kind ∧ a.kind ≤ 9223372036854775807
  name : a.name.length ≤ 9223372036854775807
theorem Act7At.kept {w w' : World} {B : Nat → Prop} {a : Act7} {v : Value × Value × Value × Value} (h : Act7At w B a v) (hk : Kept B w w') : Act7At w' B a v := ⟨h.bytes.keep hk, h.byte, h.act.kept hk, h.keep.keep hk, h.kind, h.name⟩

def Acts7At (w : World) (B : Nat → Prop) (v : Value) (acts : List Act7) : Prop :=
  ∃ rows : List (List Value), RecAt w B 10 v rows ∧ rows.length = acts.length ∧ ∀ (i : Nat) (a : Act7), acts[i]? = some a → ∃ u, rows[i]? = some (act7Row a u) ∧ Act7At w B a u
theorem Acts7At.kept {w w' : World} {B : Nat → Prop} {v : Value} {acts : List Act7} (h : Acts7At w B v acts) (hk : Kept B w w') : Acts7At w' B v acts := by
  obtain ⟨rows, h1, h2, h3⟩ := h
  refine ⟨rows, h1.keep hk, h2, fun i a hi => ?_⟩
  obtain ⟨u, h4, h5⟩ := h3 i a hi
  exact ⟨u, h4, h5.kept hk⟩
theorem Acts7At.val {w : World} {B : Nat → Prop} {v : Value} {acts : List Act7} (h : Acts7At w B v acts) : ∃ ao cap, v = .slice ao acts.length cap ∧ acts.length ≤ cap ∧ cap ≤ maxLen ∧ (ao = none → cap = 0) := by
  obtain ⟨rows, h1, h2, _⟩ := h
  have := h1.val
  rw [h2] at this
  exact this
theorem Acts7At.at {w : World} {B : Nat → Prop} {ao : Option Addr} {n cap : Nat} {acts : List Act7} (h : Acts7At w B (.slice ao n cap) acts) {i : Nat} {a : Act7} (hi : acts[i]? = some a) :
    ∃ b off bv dv dk kv, ao = some ⟨b, off, none⟩ ∧ w.cell? ⟨b, off + i * 10, none⟩ = some (.int .i64 a.kind) ∧ w.cell? ⟨b, off + i * 10 + 1, none⟩ = some (nmV a.name) ∧ w.cell? ⟨b, off + i * 10 + 2, none⟩ = some bv ∧
      w.cell? ⟨b, off + i * 10 + 3, none⟩ = some (.int .i64 a.act.kind) ∧ w.cell? ⟨b, off + i * 10 + 4, none⟩ = some (nmV a.act.name) ∧ w.cell? ⟨b, off + i * 10 + 5, none⟩ = some (nmV a.act.to) ∧ w.cell? ⟨b, off + i * 10 + 6, none⟩ = some dv ∧
      w.cell? ⟨b, off + i * 10 + 7, none⟩ = some (.int .i64 a.act.n) ∧ w.cell? ⟨b, off + i * 10 + 8, none⟩ = some dk ∧ w.cell? ⟨b, off + i * 10 + 9, none⟩ = some kv ∧ Act7At w B a (bv, dv, dk, kv) := by
  obtain ⟨rows, h1, h2, h3⟩ := h
  obtain ⟨⟨bv, dv, dk, kv⟩, h4, h5⟩ := h3 i a hi
  obtain ⟨b, off, ha, _, _, hc⟩ := h1.at h4
  exact ⟨b, off, bv, dv, dk, kv, ha, hc 0 _ rfl, hc 1 _ rfl, hc 2 _ rfl, hc 3 _ rfl, hc 4 _ rfl, hc 5 _ rfl, hc 6 _ rfl, hc 7 _ rfl, hc 8 _ rfl, hc 9 _ rfl, h5⟩

section
variable {H : Type} {enc : TypeId × Value → H} {P : Program} {w : World} {base : Nat} {spare : Nat → Bool} {held : Bool}
theorem trod_struct5 {t : TypeId} {f0 f1 f2 f3 f4 : Field} {fuel : Nat} {cs : List Value} {x : DataW H × List MemPlace} (ht : P.underlying t = some (.struct #[f0, f1, f2, f3, f4])) (h : DataW.trod enc P w base spare held fuel t cs = some x) :
    ∃ y0 y1 y2 y3 y4 n, cs.length = P.cellsOf t ∧ DataW.trod enc P w base spare held n f0.type ((cs.drop f0.offset).take (P.cellsOf f0.type)) = some y0 ∧
      DataW.trod enc P w base spare held n f1.type ((cs.drop f1.offset).take (P.cellsOf f1.type)) = some y1 ∧ DataW.trod enc P w base spare held n f2.type ((cs.drop f2.offset).take (P.cellsOf f2.type)) = some y2 ∧
      DataW.trod enc P w base spare held n f3.type ((cs.drop f3.offset).take (P.cellsOf f3.type)) = some y3 ∧ DataW.trod enc P w base spare held n f4.type ((cs.drop f4.offset).take (P.cellsOf f4.type)) = some y4 := by
  obtain ⟨xs, n, _, rfl, hl, hlen, hf⟩ := DataW.trod_struct ht h
  match xs, hlen with
  | [y0, y1, y2, y3, y4], _ => exact ⟨y0, y1, y2, y3, y4, n, hl, by simpa using hf 0 f0 rfl, by simpa using hf 1 f1 rfl, by simpa using hf 2 f2 rfl, by simpa using hf 3 f3 rfl, by simpa using hf 4 f4 rfl⟩
end

set_option maxRecDepth 100000 in
theorem acts7D_of_trod {H : Type} {enc : TypeId × Value → H} {W : World} {base : Nat} {held : Bool} {a : Option Addr} {len cap : Nat} {d : DataW H} {p : List MemPlace}
    (h : DataW.Trod enc Try.prog W base (fun _ => true) held 22 (.slice a len cap) d p) :
    ∃ acts : List Act7, acts.length = len ∧ Acts7At W (fun j => j < W.heap.size) (.slice a len cap) acts := by
  obtain ⟨fuel, hf⟩ := h
  rcases open_slice Try.underlying22 hf with ⟨hcs, _⟩ | ⟨x, l, c, m, n, D, Pl, hcs, hb, hl, hm, hmm, _, hi⟩
  · simp [Value.cells] at hcs
    obtain ⟨rfl, rfl, rfl⟩ := hcs
    exact ⟨[], rfl, [], recAt_nil _ _ _, rfl, by simp⟩
  · simp [Value.cells] at hcs
    obtain ⟨rfl, rfl, rfl⟩ := hcs
    simp only [if_true] at hmm
    subst hmm
    have C10 : Try.prog.cellsOf 41 = 10 := by kernel_rfl
    have C6 : Try.prog.cellsOf 39 = 6 := by kernel_rfl
    have k1 : Try.prog.cellsOf 3 = 1 := by kernel_rfl
    have k2 : Try.prog.cellsOf 9 = 1 := by kernel_rfl
    have k3 : Try.prog.cellsOf 37 = 1 := by kernel_rfl
    have k4 : Try.prog.cellsOf 23 = 1 := by kernel_rfl
    rw [C10] at hi
    have each : ∀ i, i < len → ∃ q : Act7 × (Value × Value × Value × Value), (∀ j u, (act7Row q.1 q.2)[j]? = some u → W.cell? (x.add (i * 10 + j)) = some u) ∧ Act7At W (fun j => j < W.heap.size) q.1 q.2 := by
      intro i hil
      obtain ⟨cs', hc, ht⟩ := hi i (by omega)
      obtain ⟨y0, y1, y2, y3, y4, k, hcl, h0, h1, h2, h3, h4⟩ := trod_struct5 Try.underlying41 ht
      rw [C10] at hcl
      match cs', hcl with
      | [c0, c1, c2, c3, c4, c5, c6, c7, c8, c9], _ =>
        simp only [k1, k2, k3, k4, C6, List.drop_succ_cons, List.drop_zero, List.take_succ_cons, List.take_zero] at h0 h1 h2 h3 h4
        obtain ⟨kind, rfl, hk⟩ := int_in h0
        obtain ⟨name, rfl, hn⟩ := text_in h1
        obtain ⟨bs, hbs, h8⟩ := bytes_in h2
        obtain ⟨ks, hks⟩ := bools_in h4
        obtain ⟨z0, z1, z2, z3, z4, z5, k', hcl', g0, g1, g2, g3, g4, g5⟩ := trod_struct6 Try.underlying39 h3
        simp only [k1, k2, k3, k4, List.drop_succ_cons, List.drop_zero, List.take_succ_cons, List.take_zero] at g0 g1 g2 g3 g4 g5
        obtain ⟨dkind, rfl, hdk⟩ := int_in g0
        obtain ⟨dname, rfl, hdn⟩ := text_in g1
        obtain ⟨dto, rfl, hdto⟩ := text_in g2
        obtain ⟨dbs, hdbs, hd8⟩ := bytes_in g3
        obtain ⟨dnn, rfl, hdnn⟩ := int_in g4
        obtain ⟨dks, hdks⟩ := bools_in g5
        refine ⟨(⟨kind, name, bs, ⟨dkind, dname, dto, dbs, dnn, dks⟩, ks⟩, (c2, c6, c8, c9)), fun j u hj => ?_, ⟨hbs, h8, ⟨hdbs, hd8, hdks, hdk, hdnn, hdn, hdto⟩, hks, hk, hn⟩⟩
        obtain ⟨_, _, hat⟩ := World.cells?_some hc
        have hj10 : j < 10 := (List.getElem?_eq_some_iff.1 hj).1
        have := hat j hj10
        rw [Go.Deep.add_add] at this
        rw [this]
        exact hj
    obtain ⟨qs, hlen, hqs⟩ := pick_n len each
    refine ⟨qs.map (·.1), by simpa using hlen, qs.map (fun q => act7Row q.1 q.2), ⟨some x, m, by simp [hlen], by simp [hlen]; omega, hm, by simp, ?_⟩, by simp, ?_⟩
    · by_cases h0 : len = 0
      · exact .inl (List.length_eq_zero_iff.1 (by simp [hlen, h0]))
      · right
        obtain ⟨q0, hq0⟩ : ∃ q0, qs[0]? = some q0 := ⟨_, List.getElem?_eq_getElem (by omega)⟩
        have c0 := (hqs 0 q0 hq0).1 0 _ rfl
        obtain ⟨b, off, spot⟩ := x
        obtain rfl : spot = none := by simpa [Addr.add] using World.cell?_spot c0
        have hlt := World.block_lt_of_cell? W _ c0
        refine ⟨b, off, rfl, by simpa [Addr.add] using hlt, by simpa [Addr.add] using hlt, fun i r hr j u hu => ?_⟩
        rw [List.getElem?_map] at hr
        obtain ⟨q, hq, rfl⟩ := Option.map_eq_some_iff.1 hr
        have := (hqs i q hq).1 j u hu
        rw [Addr.add_lit] at this
        rw [← this, Nat.add_assoc]
    · intro i a ha
      rw [List.getElem?_map] at ha
      obtain ⟨q, hq, rfl⟩ := Option.map_eq_some_iff.1 ha
      exact ⟨q.2, by rw [List.getElem?_map, hq]; rfl, (hqs i q hq).2⟩

/-- A slice of one record, laid anew. -/
theorem rec_lone {w : World} {Y : Nat} {r : List Value} {k : Nat} {e : TypeId} {m : Nat × Nat} (h : w.heap[Y]? = some (.cells r.toArray e m)) : RecAt w (fun j => j = Y) k (.slice (some ⟨Y, 0, none⟩) 1 1) [r] := by
  refine ⟨some ⟨Y, 0, none⟩, 1, rfl, by simp, by simp [maxLen], by simp, .inr ⟨Y, 0, rfl, (Array.getElem?_eq_some_iff.1 h).1, rfl, fun i r' hi j u hu => ?_⟩⟩
  cases i with
  | zero =>
    obtain rfl : r = r' := by simpa using hi
    rw [cell_of_row _ _ _ _ _ _ h]
    simpa using hu
  | succ i => simp at hi
def longB7 (a : Act7) : Bool := decide (60 < a.name.length) || decide (60 < a.keep.length) || (decide (300 < a.bytes.length) && decide (a.bytes.length ≤ 65536)) || decide (66000 < a.bytes.length)
def longA7 (a : Act7) : Bool := longB7 a || longD [a.act] 1
def longD7 (acts : List Act7) (most : Int) : Bool := acts.any longA7 || decide (most < (acts.length : Int))
theorem any_take7 {acts : List Act7} {k : Nat} {a : Act7} (h : acts[k]? = some a) : (acts.take (k + 1)).any longA7 = ((acts.take k).any longA7 || longA7 a) := by
  rw [take_snoc h, List.any_append]; simp
theorem longD7_hit {acts : List Act7} {most : Int} {k : Nat} {a : Act7} (h : acts[k]? = some a) (ha : longA7 a = true) : longD7 acts most = true := by
  unfold longD7
  rw [Bool.or_eq_true]
  left
  rw [List.any_eq_true]
  exact ⟨a, List.mem_of_getElem? h, ha⟩


end Go.Proofs.Ytmjpckodcafjiaa
