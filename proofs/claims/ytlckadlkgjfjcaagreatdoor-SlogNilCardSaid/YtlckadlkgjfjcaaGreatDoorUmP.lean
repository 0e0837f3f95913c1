/- Rows of cells by addresses: mathematics of layer 8. · A map of cells by addresses in memory: look-ups, stores, its length; the unit's block. -/
import Derived.Test.YtlckadlkgjfjcaaGreatDoorBase
import Derived.Test.YtlckadlkgjfjcaaGreatDoorCgP
import Derived.Test.YtlckadlkgjfjcaaGreatDoorDaP
import Derived.StringKeys
namespace Go.Proofs.YtlckadlkgjfjcaaGreatDoor

/-- A row of what stands at addresses. -/
abbrev Im (α : Type) := List (Int × α)
section
variable {α β : Type}
def iget (l : Im α) (n : Int) : Option α := (l.find? fun f => f.1 == n).map (·.2)
def ihas (l : Im α) (n : Int) : Bool := l.any fun f => f.1 == n
def idel (l : Im α) (n : Int) : Im α := l.filter fun f => !(f.1 == n)
def iins (n : Int) (t : α) : Im α → Im α
  | [] => [(n, t)]
  | x :: r => if n < x.1 then (n, t) :: x :: r else x :: iins n t r
def iput (l : Im α) (n : Int) (t : α) : Im α := iins n t (idel l n)
/-- Addresses rise. -/
def IRise (l : Im α) : Prop := l.Pairwise fun a b => a.1 < b.1
theorem ihas_get (l : Im α) (n : Int) : ihas l n = (iget l n).isSome := by
  unfold ihas iget
  rw [Option.isSome_map, Bool.eq_iff_iff, List.find?_isSome, List.any_eq_true]
theorem iget_mem {l : Im α} (h : IRise l) {f : Int × α} (hf : f ∈ l) : iget l f.1 = some f.2 := by
  induction l with
  | nil => cases hf
  | cons x r ih =>
    have h2 := List.pairwise_cons.1 h
    unfold iget at ih ⊢
    rw [List.find?_cons]
    rcases List.mem_cons.1 hf with rfl | hf
    · simp
    · have h3 := h2.1 f hf
      have e : (x.1 == f.1) = false := by rw [beq_eq_false_iff_ne]; omega
      rw [e]
      exact ih h2.2 hf
theorem iget_some {l : Im α} {n : Int} {t : α} (h : iget l n = some t) : (n, t) ∈ l := by
  unfold iget at h
  obtain ⟨x, hx, rfl⟩ := Option.map_eq_some_iff.1 h
  have h1 := List.mem_of_find?_eq_some hx
  have h2 := List.find?_some hx
  have e : x.1 = n := by simpa using h2
  subst e
  exact h1
theorem mem_iins {n : Int} {t : α} {y : Int × α} : ∀ {l : Im α}, y ∈ iins n t l ↔ y = (n, t) ∨ y ∈ l
  | [] => by simp [iins]
  | x :: r => by
    unfold iins
    split
    · simp
    · rw [List.mem_cons, mem_iins (l := r), List.mem_cons]
      constructor
      · rintro (h | h | h)
        · exact .inr (.inl h)
        · exact .inl h
        · exact .inr (.inr h)
      · rintro (h | h | h)
        · exact .inr (.inl h)
        · exact .inl h
        · exact .inr (.inr h)
theorem IRise.ins {n : Int} {t : α} : ∀ {l : Im α}, IRise l → (∀ x ∈ l, x.1 ≠ n) → IRise (iins n t l)
  | [], _, _ => by unfold iins IRise; simp
  | x :: r, h, hn => by
    have h2 := List.pairwise_cons.1 h
    unfold iins
    split
    · rename_i hx
      refine List.pairwise_cons.2 ⟨fun y hy => ?_, h⟩
      rcases List.mem_cons.1 hy with rfl | hy
      · exact hx
      · exact Int.lt_trans hx (h2.1 y hy)
    · rename_i hx
      have h3 := hn x (by simp)
      refine List.pairwise_cons.2 ⟨fun y hy => ?_, IRise.ins h2.2 fun y hy => hn y (by simp [hy])⟩
      rcases mem_iins.1 hy with rfl | hy
      · show x.1 < n; omega
      · exact h2.1 y hy
theorem IRise.filter {l : Im α} (h : IRise l) (p : Int × α → Bool) : IRise (l.filter p) := List.Pairwise.filter _ h
theorem IRise.put {l : Im α} (h : IRise l) (n : Int) (t : α) : IRise (iput l n t) := (IRise.filter h _).ins fun x hx => by
  have := (List.mem_filter.1 hx).2
  simpa using this
theorem mem_iput {l : Im α} {n : Int} {t : α} {y : Int × α} (h : y ∈ iput l n t) : y = (n, t) ∨ y ∈ l := by
  rcases mem_iins.1 h with h | h
  · exact .inl h
  · exact .inr (List.mem_filter.1 h).1

/-- Two rows of the same addresses; what stands at them is told by R. -/
inductive IZip (R : α → β → Prop) : Im α → Im β → Prop
  | nil : IZip R [] []
  | cons {n : Int} {a : α} {b : β} {l : Im α} {m : Im β} : R a b → IZip R l m → IZip R ((n, a) :: l) ((n, b) :: m)
theorem IZip.length {R : α → β → Prop} {l : Im α} {m : Im β} (h : IZip R l m) : l.length = m.length := by
  induction h with
  | nil => rfl
  | cons _ _ ih => simp [ih]
theorem IZip.mono {R S : α → β → Prop} {l : Im α} {m : Im β} (h : IZip R l m) (hs : ∀ a b, R a b → S a b) : IZip S l m := by
  induction h with
  | nil => exact .nil
  | cons h _ ih => exact .cons (hs _ _ h) ih
theorem IZip.keys {R : α → β → Prop} {l : Im α} {m : Im β} (h : IZip R l m) : l.map (·.1) = m.map (·.1) := by
  induction h with
  | nil => rfl
  | cons _ _ ih => simp [ih]
theorem IZip.filter {R : α → β → Prop} {l : Im α} {m : Im β} (h : IZip R l m) (p : Int → Bool) : IZip R (l.filter fun f => p f.1) (m.filter fun f => p f.1) := by
  induction h with
  | nil => exact .nil
  | @cons k a b l m hr _ ih =>
    cases hk : p k
    · simp only [List.filter_cons, hk]; exact ih
    · simp only [List.filter_cons, hk, if_true]; exact .cons hr ih
theorem IZip.ins {R : α → β → Prop} {l : Im α} {m : Im β} (h : IZip R l m) (n : Int) {a : α} {b : β} (hr : R a b) : IZip R (iins n a l) (iins n b m) := by
  induction h with
  | nil => exact .cons hr .nil
  | @cons k a' b' l m hr' h' ih =>
    unfold iins
    by_cases hk : n < k
    · simp only [hk, if_true]; exact .cons hr (.cons hr' h')
    · simp only [hk]; exact .cons hr' ih
theorem IZip.put {R : α → β → Prop} {l : Im α} {m : Im β} (h : IZip R l m) (n : Int) {a : α} {b : β} (hr : R a b) : IZip R (iput l n a) (iput m n b) := (h.filter fun k => !(k == n)).ins n hr
theorem IZip.get {R : α → β → Prop} {l : Im α} {m : Im β} (h : IZip R l m) (n : Int) : (iget l n = none ∧ iget m n = none) ∨ ∃ a b, iget l n = some a ∧ iget m n = some b ∧ R a b := by
  induction h with
  | nil => exact .inl ⟨rfl, rfl⟩
  | @cons k a' b' l m hr' h' ih =>
    unfold iget at ih ⊢
    rw [List.find?_cons, List.find?_cons]
    cases hk : k == n
    · exact ih
    · exact .inr ⟨a', b', rfl, rfl, hr'⟩
theorem IZip.rise {R : α → β → Prop} {l : Im α} {m : Im β} (h : IZip R l m) (hm : IRise m) : IRise l := by
  have e := h.keys
  have h1 : (m.map (·.1)).Pairwise (fun a b : Int => a < b) := List.pairwise_map.2 hm
  rw [← e] at h1
  exact List.pairwise_map.1 h1
end

/-! ### A unit -/
/-- A cell that came in: its kind, its bytes. -/
def okU (c : IC) : Prop := (c.1 = 1 ∨ c.1 = 2) ∧ chk c.1 c.2.length = 0 ∧ ∀ y ∈ c.2, y < 256
structure US where
  epoch : Int
  low : Int
  cells : Im IC
/-- What holds of every unit. -/
structure UOk (U : US) : Prop where
  epoch : 0 ≤ U.epoch ∧ U.epoch ≤ 1099511627776
  low : 0 ≤ U.low ∧ U.low ≤ 1048576
  at' : ∀ f ∈ U.cells, U.low ≤ f.1 ∧ f.1 ≤ 1048575 ∧ okU f.2
  rise : IRise U.cells
def unew : US := ⟨0, 0, []⟩
theorem unew_ok : UOk unew := ⟨by decide, by decide, fun f hf => (by cases hf), List.Pairwise.nil⟩
/-- The tail: behind the last one, or the low mark. -/
def utail (U : US) : Int := match U.cells.getLast? with | none => U.low | some f => f.1 + 1
/-- The cell at an address. -/
def uat (U : US) (a : Int) : IC := if a < U.low then (3, []) else (iget U.cells a).getD (0, [])
/-- An error's number of an epoch. -/
def ucur (U : US) (e : Int) : Nat := if e < U.epoch then 6 else if U.epoch < e then 7 else 0
def useal (U : US) (e : Int) : Int × US × Nat := if e < 0 ∨ 1099511627776 < e then (0, U, 1) else if e ≤ U.epoch then (0, U, 6) else (utail { U with epoch := e }, { U with epoch := e }, 0)
def uwrite (U : US) (e a : Int) (d : List Nat) : US × Nat :=
  if a < 0 ∨ 1048575 < a then (U, 1) else if 64 < d.length then (U, 3) else if ucur U e ≠ 0 then (U, ucur U e)
  else if (uat U a).1 = 3 then (U, 9) else if (uat U a).1 = 0 then ({ U with cells := iput U.cells a (1, d) }, 0) else (U, 8)
def ufill (U : US) (e a : Int) : US × Nat :=
  if a < 0 ∨ 1048575 < a then (U, 1) else if ucur U e ≠ 0 then (U, ucur U e)
  else if (uat U a).1 = 3 then (U, 9) else if (uat U a).1 = 1 then (U, 8) else ({ U with cells := iput U.cells a (2, []) }, 0)
def uread (U : US) (e a : Int) : IC × Nat := if a < 0 ∨ 1048575 < a then ((0, []), 1) else if ucur U e ≠ 0 then ((0, []), ucur U e) else (uat U a, 0)
def utrim (U : US) (e b : Int) : US × Nat :=
  if b < 0 ∨ 1048576 < b then (U, 1) else if ucur U e ≠ 0 then (U, ucur U e)
  else ({ U with low := max U.low b, cells := U.cells.filter fun f => !decide (f.1 < max U.low b) }, 0)
def ucut (U : US) (e b : Int) : Int × US × Nat :=
  if b < 0 ∨ 1048576 < b then (0, U, 1) else if ucur U e ≠ 0 then (0, U, ucur U e) else if b < U.low then (0, U, 9)
  else ((U.cells.length : Int) - ((U.cells.filter fun f => !decide (b ≤ f.1)).length : Int), { U with cells := U.cells.filter fun f => !decide (b ≤ f.1) }, 0)

theorem uat_kind {U : US} (h : UOk U) {a : Int} (ha : (uat U a).1 = 0) : U.low ≤ a ∧ iget U.cells a = none := by
  unfold uat at ha
  split at ha
  · simp at ha
  · rename_i hl
    refine ⟨by omega, ?_⟩
    cases hg : iget U.cells a with
    | none => rfl
    | some c =>
      rw [hg] at ha
      have := (h.at' _ (iget_some hg)).2.2.1
      simp at ha
      rcases this with h1 | h1
      · rw [h1] at ha; cases ha
      · rw [h1] at ha; cases ha
theorem UOk.putD {U : US} (h : UOk U) {a : Int} (h1 : a ≤ 1048575) (hl : U.low ≤ a) {c : IC} (hc : okU c) : UOk { U with cells := iput U.cells a c } :=
  ⟨h.epoch, h.low, fun f hf => by
    rcases mem_iput hf with rfl | hf
    · exact ⟨hl, h1, hc⟩
    · exact h.at' f hf, h.rise.put a c⟩
theorem utrim_ok {U : US} (h : UOk U) (e b : Int) : UOk (utrim U e b).1 := by
  unfold utrim
  split
  · exact h
  · split
    · exact h
    · rename_i h1 _
      have hl := h.low
      refine ⟨h.epoch, ⟨by simp only; omega, by simp only; omega⟩, fun f hf => ?_, IRise.filter h.rise _⟩
      have h3 := List.mem_filter.1 hf
      have h4 := h.at' f h3.1
      have h5 := h3.2
      simp only [Bool.not_eq_true', decide_eq_false_iff_not] at h5
      exact ⟨by simp only; omega, h4.2⟩
theorem ucut_ok {U : US} (h : UOk U) (e b : Int) : UOk (ucut U e b).2.1 := by
  unfold ucut
  split
  · exact h
  · split
    · exact h
    · split
      · exact h
      · exact ⟨h.epoch, h.low, fun f hf => h.at' f (List.mem_filter.1 hf).1, IRise.filter h.rise _⟩
end Go.Proofs.YtlckadlkgjfjcaaGreatDoor

namespace Go.Proofs.YtlckadlkgjfjcaaGreatDoor
open Go.RowKit
open Go.Maps (Keyed)

abbrev hvU : Value → Option (DataW Value × List MemPlace) := fun v => some (.held v, [])
def entI (f : Int × Value) : Lit × DataW Value := (.int .i64 f.1, .held f.2)
def I64 (n : Int) : Prop := -9223372036854775808 ≤ n ∧ n ≤ 9223372036854775807
theorem keyed_int : Keyed Tryz.prog 3 := Maps.int_keyed Tryz.underlying3
theorem key_i {n : Int} (hn : I64 n) : keyOf Tryz.prog 3 (.int .i64 n) = some (.int .i64 n) :=
  Maps.keyOf_int_mk Tryz.underlying3 (by
    obtain ⟨h1, h2⟩ := hn
    simp [Lit.wf, IntKind.min, IntKind.max, IntKind.signed, IntKind.bits]
    omega)

theorem insert_entI (n : Int) (v : Value) : ∀ es : Im Value, DataW.insert (.int .i64 n, .held v) (es.map entI) = (iins n v es).map entI
  | [] => rfl
  | x :: r => by
    unfold iins
    simp only [List.map_cons, DataW.insert]
    have e : Lit.before (.int .i64 n) (entI x).1 = decide (n < x.1) := rfl
    rw [e]
    by_cases h : n < x.1
    · rw [if_pos (by simpa using h), if_pos h]; rfl
    · rw [if_neg (by simpa using h), if_neg h, List.map_cons, insert_entI n v r]
theorem same_i (a b : Int) : Lit.sameKey (.int .i64 a) (.int .i64 b) = (a == b) := by
  show decide (IntKind.i64 = IntKind.i64 ∧ a = b) = _
  rw [Bool.eq_iff_iff, decide_eq_true_iff, beq_iff_eq]
  exact ⟨fun h => h.2, fun h => ⟨rfl, h⟩⟩
theorem filter_entI (n : Int) (es : Im Value) : (es.map entI).filter (fun p => !p.1.sameKey (.int .i64 n)) = (idel es n).map entI := by
  unfold idel
  rw [List.filter_map]
  congr 1
  refine List.filter_congr fun x _ => ?_
  show (!Lit.sameKey (.int .i64 x.1) (.int .i64 n)) = _
  rw [same_i]
theorem put_entI (es : Im Value) (n : Int) (v : Value) : DataW.put (.map (es.map entI)) (.int .i64 n) (.held v) = .map ((iput es n v).map entI) := by
  unfold DataW.put iput
  simp only
  rw [filter_entI, insert_entI]
theorem del_entI (es : Im Value) (n : Int) : DataW.del (.map (es.map entI)) (.int .i64 n) = .map ((idel es n).map entI) := by
  unfold DataW.del
  simp only
  rw [filter_entI]
theorem atKey_entI (es : Im Value) (n : Int) (z : Value) : DataW.atKey (.map (es.map entI)) (.int .i64 n) (.held z) = .held ((iget es n).getD z) := by
  unfold DataW.atKey iget
  simp only
  rw [List.find?_map]
  have e : ((fun p : Lit × DataW Value => p.1.sameKey (.int .i64 n)) ∘ entI) = fun f : Int × Value => f.1 == n := funext fun f => same_i f.1 n
  rw [e]
  cases es.find? (fun f => f.1 == n) <;> rfl

/-- The map at block b holds these entries. -/
def MapU (w : World) (b : Nat) (es : Im Value) : Prop := w.ownsMap Tryz.prog 3 hvU b es.length (.map (es.map entI))
theorem MapU.zero (w : World) : (zeroValue 24).run Tryz.prog w = .ok (.agg #[.int .i64 0, .slice none 0 0]) w := by kernel_rfl
theorem MapU.lt {w : World} {b : Nat} {es : Im Value} (h : MapU w b es) : b < w.heap.size := World.ownsMap.lt h
theorem MapU.look {w : World} {b : Nat} {es : Im Value} (h : MapU w b es) {n : Int} (hn : I64 n) :
    (Instr.lookup 168 (.map (some b)) (.int .i64 n) false).run Tryz.prog w = .ok ((iget es n).getD (.agg #[.int .i64 0, .slice none 0 0])) w := by
  obtain ⟨v, ps, hr, hd⟩ := World.ownsMap.lookup h keyed_int Tryz.underlying168 (MapU.zero w) (zd := .held (.agg #[.int .i64 0, .slice none 0 0])) (zp := []) rfl (key_i hn)
  rw [atKey_entI] at hd
  have e : v = (iget es n).getD (.agg #[.int .i64 0, .slice none 0 0]) := by cases hd; rfl
  rw [hr, e]
theorem MapU.len {w : World} {b : Nat} {es : Im Value} (h : MapU w b es) (ty : TypeId) : (Builtin.len_ #[168] ty #[.map (some b)]).run Tryz.prog w = .ok (.int .i64 (es.length : Int)) w := by
  have := World.ownsMap.len h Tryz.underlying168 ty
  rw [this]
  simp [Maps.size]
theorem MapU.keep {w w' : World} {b : Nat} {es : Im Value} (h : MapU w b es) (hk : w'.heap[b]? = w.heap[b]?) : MapU w' b es := by
  obtain ⟨e, c, hb, r⟩ := h
  exact ⟨e, c, hk.trans hb, r⟩
theorem tightU {w : World} {b n : Nat} {es : Im Value} (h : w.ownsMap Tryz.prog 3 hvU b n (.map (es.map entI))) : MapU w b es := by
  obtain ⟨e, c, hb, F, _, hD⟩ := h
  refine ⟨e, c, hb, F, ?_, hD⟩
  have := congrArg Maps.size hD
  simp [Maps.size, length_sorted] at this
  omega
theorem mapU_made (w : World) : MapU (w.alloc (.map #[] 0)) w.heap.size [] := World.ownsMap_made w _ _ _

/-- What stands at an address in memory reads as a cell. -/
def CellR (w : World) (B : Nat → Prop) (v : Value) (c : IC) : Prop := ∃ dv, v = .agg #[.int .i64 c.1, dv] ∧ At w B .u8 dv c.2
/-- A unit at block u, its map at block m: what it reads as; its data lies in blocks of which B holds. -/
structure Un (w : World) (B : Nat → Prop) (u m : Nat) (U : US) : Prop where
  box : w.heap[u]? = some (.cells #[.int .i64 U.epoch, .int .i64 U.low, .map (some m)] 170 (0, 0))
  map : ∃ es, MapU w m es ∧ IZip (CellR w B) es U.cells
  ok : UOk U
  ne : u ≠ m
  nu : ¬ B u
  nm : ¬ B m
theorem CellR.keep {w w' : World} {B : Nat → Prop} {v : Value} {c : IC} (h : CellR w B v c) (hk : Kept B w w') : CellR w' B v c := by
  obtain ⟨dv, rfl, h⟩ := h
  exact ⟨dv, rfl, h.keep hk⟩
theorem CellR.mono {w : World} {B C : Nat → Prop} {v : Value} {c : IC} (h : CellR w B v c) (hc : ∀ j, j < w.heap.size → B j → C j) : CellR w C v c := by
  obtain ⟨dv, rfl, h⟩ := h
  exact ⟨dv, rfl, h.mono hc⟩
section
variable {w w' : World} {B : Nat → Prop} {u m : Nat} {U : US}
theorem Un.ult (h : Un w B u m U) : u < w.heap.size := (Array.getElem?_eq_some_iff.1 h.box).1
theorem Un.mlt (h : Un w B u m U) : m < w.heap.size := by obtain ⟨es, h1, _⟩ := h.map; exact h1.lt
theorem Un.keep (h : Un w B u m U) (hk : Kept B w w') (hu : w'.heap[u]? = w.heap[u]?) (hm : w'.heap[m]? = w.heap[m]?) : Un w' B u m U := by
  obtain ⟨es, h1, h2⟩ := h.map
  exact ⟨hu.trans h.box, ⟨es, h1.keep hm, h2.mono fun _ _ hr => hr.keep hk⟩, h.ok, h.ne, h.nu, h.nm⟩
theorem Un.more (h : Un w B u m U) {C : Nat → Prop} (hc : ∀ j, j < w.heap.size → B j → C j) (hu : ¬ C u) (hm : ¬ C m) : Un w C u m U := by
  obtain ⟨es, h1, h2⟩ := h.map
  exact ⟨h.box, ⟨es, h1, h2.mono fun _ _ hr => hr.mono hc⟩, h.ok, h.ne, hu, hm⟩
theorem Un.old (h : Un w B u m U) (hb : Below w.heap.size w w') : Un w' B u m U := h.keep (kept_new hb B) (hb.block u h.ult) (hb.block m h.mlt)
theorem Un.c (h : Un w B u m U) : w.cell? ⟨u, 0, none⟩ = some (.int .i64 U.epoch) ∧ w.cell? ⟨u, 1, none⟩ = some (.int .i64 U.low) ∧ w.cell? ⟨u, 2, none⟩ = some (.map (some m)) ∧ ∀ i, w.frozen? ⟨u, i, none⟩ = false :=
  ⟨by rw [cell_of_row _ _ 0 _ _ _ h.box]; rfl, by rw [cell_of_row _ _ 1 _ _ _ h.box]; rfl, by rw [cell_of_row _ _ 2 _ _ _ h.box]; rfl, fun i => frozen_of_row _ _ i _ _ h.box⟩
end

set_option maxRecDepth 100000 in
theorem new_unit (w : World) : Calls Tryz.prog 136 #[] w fun e w' => e = .returned (.pointer (some ⟨w.heap.size + 1, 0, none⟩)) ∧ Un w' (fun _ => False) (w.heap.size + 1) w.heap.size unew ∧ Below w.heap.size w w' := by
  have hmm := @run_makeMap Tryz.prog
  go_enter Tryz.func136, Tryz.ntmps136
  go_wp2
  go_ret
  have hb1 : Below w.heap.size w (w.alloc (.map #[] 0)) := (Below.refl _ _).alloc (Nat.le_refl _) _
  have hb2 : Below (w.alloc (.map #[] 0)).heap.size (w.alloc (.map #[] 0)) ((w.alloc (.map #[] 0)).alloc (.cells #[.int .i64 0, .int .i64 0, .map (some w.heap.size)] 170)) := (Below.refl _ _).alloc (Nat.le_refl _) _
  have hsz : (w.alloc (.map #[] 0)).heap.size = w.heap.size + 1 := by simp
  refine ⟨rfl, ⟨?_, ⟨[], (mapU_made w).keep (hb2.block _ (by rw [hsz]; omega)), .nil⟩, unew_ok, by omega, id, id⟩, hb1.trans (hb2.mono hb1.size)⟩
  have := heap_alloc_new (w.alloc (.map #[] 0)) (.cells #[.int .i64 0, .int .i64 0, .map (some w.heap.size)] 170)
  rw [hsz] at this
  exact this

set_option maxRecDepth 100000 in
theorem uwithin_any (n most : Int) (w : World) : Calls Tryz.prog 227 #[.int .i64 n, .int .i64 most] w fun e w' => e = .returned (.bool (decide (0 ≤ n) && decide (n ≤ most))) ∧ w' = w := by
  by_cases h0 : 0 ≤ n
  · have p0 : decide (0 ≤ n) = true := decide_eq_true h0
    rw [p0, Bool.true_and]
    go_enter Tryz.func227, Tryz.ntmps227
    go_wp2
    go_ret
    exact ⟨rfl, rfl⟩
  · have p0 : decide (0 ≤ n) = false := decide_eq_false h0
    rw [p0, Bool.false_and]
    go_enter Tryz.func227, Tryz.ntmps227
    go_wp2
    go_ret
    exact ⟨rfl, rfl⟩

end Go.Proofs.YtlckadlkgjfjcaaGreatDoor
