/- A map of cells by addresses in memory: look-ups, stores, its length; the unit's block. -/
import Derived.Test.YtmjpckodcafjiaaUnM
import Derived.Test.YtmjpckodcafjiaaCelH
import Derived.Test.YtmjpckodcafjiaaFrm
import Derived.StringKeys
namespace Go.Proofs.Ytmjpckodcafjiaa
open Go.RowKit
open Go.Maps (Keyed)

abbrev hvU : Value → Option (DataW Value × List MemPlace) := fun v => some (.held v, [])
def entI (f : Int × Value) : Lit × DataW Value := (.int .i64 f.1, .held f.2)
def I64 (n : Int) : Prop := -9223372036854775808 ≤ n ∧ n ≤ 9223372036854775807
theorem keyed_int : Keyed Try.prog 3 := Maps.int_keyed Try.underlying3
theorem key_i {n : Int} (hn : I64 n) : keyOf Try.prog 3 (.int .i64 n) = some (.int .i64 n) :=
  Maps.keyOf_int_mk Try.underlying3 (by
    obtain ⟨h1, h2⟩ := hn
    simp [Lit.wf, IntKind.min, IntKind.max, IntKind.signed, IntKind.bits]
    omega)

theorem insert_entI (n : Int) (v : Value) : ∀ es : Im Value, DataW.insert (.int .i64 n, .held v) (es.map entI) = (iins n v es).map entI
  | [] => rfl
  | x :: r => by
    unfold iins
    simp only [List.map_cons, DataW.insert]
    have e : Lit.before (.int .i64 n) (entI x).1 = decide (n < x.1) := rfl
    rw [e]
    by_cases h : n < x.1
    · rw [if_pos (by simpa using h), if_pos h]; rfl
    · rw [if_neg (by simpa using h), if_neg h, List.map_cons, insert_entI n v r]
theorem same_i (a b : Int) : Lit.sameKey (.int .i64 a) (.int .i64 b) = (a == b) := by
  show decide (IntKind.i64 = IntKind.i64 ∧ a = b) = _
  rw [Bool.eq_iff_iff, decide_eq_true_iff, beq_iff_eq]
  exact ⟨fun h => h.2, fun h => ⟨rfl, h⟩⟩
theorem filter_entI (n : Int) (es : Im Value) : (es.map entI).filter (fun p => !p.1.sameKey (.int .i64 n)) = (idel es n).map entI := by
  unfold idel
  rw [List.filter_map]
  congr 1
  refine List.filter_congr fun x _ => ?_
  show (!Lit.sameKey (.int .i64 x.1) (.int .i64 n)) = _
  rw [same_i]
theorem put_entI (es : Im Value) (n : Int) (v : Value) : DataW.put (.map (es.map entI)) (.int .i64 n) (.held v) = .map ((iput es n v).map entI) := by
  unfold DataW.put iput
  simp only
  rw [filter_entI, insert_entI]
theorem del_entI (es : Im Value) (n : Int) : DataW.del (.map (es.map entI)) (.int .i64 n) = .map ((idel es n).map entI) := by
  unfold DataW.del
  simp only
  rw [filter_entI]
theorem atKey_entI (es : Im Value) (n : Int) (z : Value) : DataW.atKey (.map (es.map entI)) (.int .i64 n) (.held z) = .held ((iget es n).getD z) := by
  unfold DataW.atKey iget
  simp only
  rw [List.find?_map]
  have e : ((fun p : Lit × DataW Value => p.1.sameKey (.int .i64 n)) ∘ entI) = fun f : Int × Value => f.1 == n := funext fun f => same_i f.1 n
  rw [e]
  cases es.find? (fun f => f.1 == n) <;> rfl

/-- The map at block b holds these entries. -/
def MapU (w : World) (b : Nat) (es : Im Value) : Prop := w.ownsMap Try.prog 3 hvU b es.length (.map (es.map entI))
theorem MapU.zero (w : World) : (zeroValue 77).run Try.prog w = .ok (.agg #[.int .i64 0, .slice none 0 0]) w := by kernel_rfl
theorem MapU.lt {w : World} {b : Nat} {es : Im Value} (h : MapU w b es) : b < w.heap.size := World.ownsMap.lt h
theorem MapU.look {w : World} {b : Nat} {es : Im Value} (h : MapU w b es) {n : Int} (hn : I64 n) :
    (Instr.lookup 110 (.map (some b)) (.int .i64 n) false).run Try.prog w = .ok ((iget es n).getD (.agg #[.int .i64 0, .slice none 0 0])) w := by
  obtain ⟨v, ps, hr, hd⟩ := World.ownsMap.lookup h keyed_int Try.underlying110 (MapU.zero w) (zd := .held (.agg #[.int .i64 0, .slice none 0 0])) (zp := []) rfl (key_i hn)
  rw [atKey_entI] at hd
  have e : v = (iget es n).getD (.agg #[.int .i64 0, .slice none 0 0]) := by cases hd; rfl
  rw [hr, e]
theorem MapU.len {w : World} {b : Nat} {es : Im Value} (h : MapU w b es) (ty : TypeId) : (Builtin.len_ #[110] ty #[.map (some b)]).run Try.prog w = .ok (.int .i64 (es.length : Int)) w := by
  have := World.ownsMap.len h Try.underlying110 ty
  rw [this]
  simp [Maps.size]
theorem MapU.keep {w w' : World} {b : Nat} {es : Im Value} (h : MapU w b es) (hk : w'.heap[b]? = w.heap[b]?) : MapU w' b es := by
  obtain ⟨e, c, hb, r⟩ := h
  exact ⟨e, c, hk.trans hb, r⟩
theorem tightU {w : World} {b n : Nat} {es : Im Value} (h : w.ownsMap Try.prog 3 hvU b n (.map (es.map entI))) : MapU w b es := by
  obtain ⟨e, c, hb, F, _, hD⟩ := h
  refine ⟨e, c, hb, F, ?_, hD⟩
  have := congrArg Maps.size hD
  simp [Maps.size, length_sorted] at this
  omega
theorem mapU_made (w : World) : MapU (w.alloc (.map #[] 0)) w.heap.size [] := World.ownsMap_made w _ _ _

/-- What stands at an address in memory reads as a cell. -/
def CellR (w : World) (B : Nat → Prop) (v : Value) (c : IC) : Prop := ∃ dv, v = .agg #[.int .i64 c.1, dv] ∧ At w B .u8 dv c.2
/-- A unit at block u, its map at block m: what it reads as; its data lies in blocks of which B holds. -/
structure Un (w : World) (B : Nat → Prop) (u m : Nat) (U : US) : Prop where
  box : w.heap[u]? = some (.cells #[.int .i64 U.epoch, .int .i64 U.low, .map (some m)] 112 (0, 0))
  map : ∃ es, MapU w m es ∧ IZip (CellR w B) es U.cells
  ok : UOk U
  ne : u ≠ m
  nu : ¬ B u
  nm : ¬ B m
theorem CellR.keep {w w' : World} {B : Nat → Prop} {v : Value} {c : IC} (h : CellR w B v c) (hk : Kept B w w') : CellR w' B v c := by
  obtain ⟨dv, rfl, h⟩ := h
  exact ⟨dv, rfl, h.keep hk⟩
theorem CellR.mono {w : World} {B C : Nat → Prop} {v : Value} {c : IC} (h : CellR w B v c) (hc : ∀ j, j < w.heap.size → B j → C j) : CellR w C v c := by
  obtain ⟨dv, rfl, h⟩ := h
  exact ⟨dv, rfl, h.mono hc⟩
section
variable {w w' : World} {B : Nat → Prop} {u m : Nat} {U : US}
theorem Un.ult (h : Un w B u m U) : u < w.heap.size := (Array.getElem?_eq_some_iff.1 h.box).1
theorem Un.mlt (h : Un w B u m U) : m < w.heap.size := by obtain ⟨es, h1, _⟩ := h.map; exact h1.lt
theorem Un.keep (h : Un w B u m U) (hk : Kept B w w') (hu : w'.heap[u]? = w.heap[u]?) (hm : w'.heap[m]? = w.heap[m]?) : Un w' B u m U := by
  obtain ⟨es, h1, h2⟩ := h.map
  exact ⟨hu.trans h.box, ⟨es, h1.keep hm, h2.mono fun _ _ hr => hr.keep hk⟩, h.ok, h.ne, h.nu, h.nm⟩
theorem Un.more (h : Un w B u m U) {C : Nat → Prop} (hc : ∀ j, j < w.heap.size → B j → C j) (hu : ¬ C u) (hm : ¬ C m) : Un w C u m U := by
  obtain ⟨es, h1, h2⟩ := h.map
  exact ⟨h.box, ⟨es, h1, h2.mono fun _ _ hr => hr.mono hc⟩, h.ok, h.ne, hu, hm⟩
theorem Un.old (h : Un w B u m U) (hb : Below w.heap.size w w') : Un w' B u m U := h.keep (kept_new hb B) (hb.block u h.ult) (hb.block m h.mlt)
theorem Un.c (h : Un w B u m U) : w.cell? ⟨u, 0, none⟩ = some (.int .i64 U.epoch) ∧ w.cell? ⟨u, 1, none⟩ = some (.int .i64 U.low) ∧ w.cell? ⟨u, 2, none⟩ = some (.map (some m)) ∧ ∀ i, w.frozen? ⟨u, i, none⟩ = false :=
  ⟨by rw [cell_of_row _ _ 0 _ _ _ h.box]; rfl, by rw [cell_of_row _ _ 1 _ _ _ h.box]; rfl, by rw [cell_of_row _ _ 2 _ _ _ h.box]; rfl, fun i => frozen_of_row _ _ i _ _ h.box⟩
end

set_option maxRecDepth 100000 in
theorem new_unit (w : World) : Calls Try.prog 22 #[] w fun e w' => e = .returned (.pointer (some ⟨w.heap.size + 1, 0, none⟩)) ∧ Un w' (fun _ => False) (w.heap.size + 1) w.heap.size unew ∧ Below w.heap.size w w' := by
  have hmm := @run_makeMap Try.prog
  go_enter Try.func22, Try.ntmps22
  go_wp2
  go_ret
  have hb1 : Below w.heap.size w (w.alloc (.map #[] 0)) := (Below.refl _ _).alloc (Nat.le_refl _) _
  have hb2 : Below (w.alloc (.map #[] 0)).heap.size (w.alloc (.map #[] 0)) ((w.alloc (.map #[] 0)).alloc (.cells #[.int .i64 0, .int .i64 0, .map (some w.heap.size)] 112)) := (Below.refl _ _).alloc (Nat.le_refl _) _
  have hsz : (w.alloc (.map #[] 0)).heap.size = w.heap.size + 1 := by simp
  refine ⟨rfl, ⟨?_, ⟨[], (mapU_made w).keep (hb2.block _ (by rw [hsz]; omega)), .nil⟩, unew_ok, by omega, id, id⟩, hb1.trans (hb2.mono hb1.size)⟩
  have := heap_alloc_new (w.alloc (.map #[] 0)) (.cells #[.int .i64 0, .int .i64 0, .map (some w.heap.size)] 112)
  rw [hsz] at this
  exact this

set_option maxRecDepth 100000 in
theorem uwithin_any (n most : Int) (w : World) : Calls Try.prog 68 #[.int .i64 n, .int .i64 most] w fun e w' => e = .returned (.bool (decide (0 ≤ n) && decide (n ≤ most))) ∧ w' = w := by
  by_cases h0 : 0 ≤ n
  · have p0 : decide (0 ≤ n) = true := decide_eq_true h0
    rw [p0, Bool.true_and]
    go_enter Try.func68, Try.ntmps68
    go_wp2
    go_ret
    exact ⟨rfl, rfl⟩
  · have p0 : decide (0 ≤ n) = false := decide_eq_false h0
    rw [p0, Bool.false_and]
    go_enter Try.func68, Try.ntmps68
    go_wp2
    go_ret
    exact ⟨rfl, rfl⟩

end Go.Proofs.Ytmjpckodcafjiaa
