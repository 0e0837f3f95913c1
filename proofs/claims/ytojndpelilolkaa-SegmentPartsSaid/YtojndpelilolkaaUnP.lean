/- A unit's small calls: asked, takes, at, Epoch, Low; and those of no unit. · A range over a unit's cells; the tail. · A cell is stored into a unit; Write, Fill. · Calls at no unit; Tail; the chapter's example. · A unit's Fill, Seal, Read. · Cells dropped from a unit's map: maps.DeleteFunc at it, drop. · A unit's drop, Trim, Cut, Read. · A unit's Trim, Cut, Read. -/
import Derived.Test.YtojndpelilolkaaUmP
import Derived.Maps.RangeWalk
import Derived.Test.YtojndpelilolkaaDaP
import Derived.Test.YtojndpelilolkaaIsA
import Derived.Lib.SlBytesConst
namespace Go.Proofs.Ytojndpelilolkaa
open Go.RowKit

theorem cellR_zero (w : World) (B : Nat → Prop) (k : Int) : CellR w B (.agg #[.int .i64 k, .slice none 0 0]) (k, []) := ⟨_, rfl, ⟨none, 0, rfl, by simp, by simp [maxLen], fun _ => rfl, .inl rfl⟩, .inl rfl⟩
theorem zip_cell {w : World} {B : Nat → Prop} {es : Im Value} {l : Im IC} (hz : IZip (CellR w B) es l) (n : Int) : CellR w B ((iget es n).getD (.agg #[.int .i64 0, .slice none 0 0])) ((iget l n).getD (0, [])) := by
  rcases hz.get n with ⟨h1, h2⟩ | ⟨a, b, h1, h2, h⟩
  · rw [h1, h2]; exact cellR_zero w B 0
  · rw [h1, h2]; exact h

section
variable {w : World} {B : Nat → Prop} {u m : Nat} {U : US}
/-- What is wrong with a call of that epoch at a number that may be from 0 to most. -/
def utakes (U : US) (e n most : Int) : Nat := if n < 0 ∨ most < n then 1 else ucur U e
theorem cellR_new {w : World} {B : Nat → Prop} {k : Int} {x : Value} {d : List Nat} (hx : At w B .u8 x d) (o : Obj) :
    CellR (w.alloc o) B (.agg #[.int .i64 k, x]) (k, d) ∧ Below w.heap.size w (w.alloc o) := by
  have hb : Below w.heap.size w (w.alloc o) := (Below.refl _ _).alloc (Nat.le_refl _) _
  exact ⟨⟨x, rfl, hx.keep (kept_new hb B)⟩, hb⟩
end

end Go.Proofs.Ytojndpelilolkaa

namespace Go.Proofs.Ytojndpelilolkaa
open Go.RowKit

/-- The next entry of a range over a map of cells. -/
theorem wpList_nextU (w : World) {ops : Array Oper} {rest : List Oper} {o : Oper} {a : Act} {Q : Exit → Act → World → Prop} (hg : o.guard = none) (it : Operand) (hop : o.op = Op.next it false) (b r n : Nat) (es : Im Value) (left : Lit → Bool) (cnt : Nat)
    (hit : a.eval it = .pointer (some ⟨r, 0, none⟩)) (h : w.ranges Try.prog 3 hvU b r n (.map (es.map entI)) left cnt)
    (hDone : cnt = 0 → (∀ kl, left kl = false) → wpList Try.prog ops Q rest (a.put o.dst (.tuple #[.bool false])) w)
    (hMore : ∀ (x : Int) (c : Value) (w' : World) (cnt' : Nat), I64 x → left (.int .i64 x) = true → iget es x = some c → w'.ranges Try.prog 3 hvU b r n (.map (es.map entI)) (fun z => left z && !z.sameKey (.int .i64 x)) cnt' → cnt' < cnt →
      w.grownBy w' (some r) → w'.heap.size = w.heap.size → (Instr.entry (.pointer (some ⟨r, 0, none⟩))).run Try.prog w' = .ok (.tuple #[.int .i64 x, c]) w' → wpList Try.prog ops Q rest (a.put o.dst (.tuple #[.bool true, .int .i64 x, c])) w') :
    wpList Try.prog ops Q (o :: rest) a w := by
  refine wpList_next_ranges w hg it hop 3 keyed_int hvU (Value.int .i64) (id : Value → Value) (fun key kl hkey => by obtain ⟨x, rfl, _⟩ := Maps.keyOf_int_inv Try.underlying3 hkey; exact ⟨x, rfl⟩) (fun v y _ => ⟨v, rfl⟩) b r n _ left cnt hit h hDone ?_
  intro x c kl y w' cnt' hkey hlk hv hat hrg hlt hgr hsz hen
  obtain ⟨x', ex, rfl, hwx⟩ := Maps.keyOf_int_inv Try.underlying3 hkey
  cases ex
  have hc : y = (.held c, []) := by
    have : some (DataW.held c, ([] : List MemPlace)) = some y := hv
    exact (Option.some.inj this).symm
  subst hc
  have hat' : ∀ z : Value, DataW.held ((iget es x).getD z) = DataW.held c := fun z => by rw [← atKey_entI]; exact hat _
  have hget : iget es x = some c := by
    cases hg : iget es x with
    | none =>
      have a1 := hat' (.bool true)
      have a2 := hat' (.bool false)
      rw [hg] at a1 a2
      have a3 := a1.trans a2.symm
      cases a3
    | some u =>
      have a1 := hat' (.bool true)
      rw [hg] at a1
      have : u = c := by injection a1
      rw [this]
  refine hMore x c w' cnt' ?_ hlk hget hrg hlt hgr hsz hen
  simp [Lit.wf, IntKind.min, IntKind.max, IntKind.signed, IntKind.bits] at hwx
  exact ⟨by omega, by omega⟩
theorem hasU (es : Im Value) (n : Int) : Maps.has (.map (es.map entI)) (.int .i64 n) = ihas es n := by
  rw [Maps.has_eq]
  unfold ihas
  rw [List.any_map]
  refine congrArg (List.any es) (funext fun f => same_i f.1 n)

theorem utail_eq {U : US} (h : UOk U) {t : Int} (_ : U.low ≤ t) (h1 : ∀ f ∈ U.cells, f.1 + 1 ≤ t) (h2 : t = U.low ∨ ∃ f ∈ U.cells, t = f.1 + 1) : utail U = t := by
  unfold utail
  cases hg : U.cells.getLast? with
  | none =>
    have e : U.cells = [] := List.getLast?_eq_none_iff.1 hg
    rcases h2 with h2 | ⟨f, hf, _⟩
    · exact h2.symm
    · rw [e] at hf; cases hf
  | some x =>
    obtain ⟨r, hr⟩ := List.getLast?_eq_some_iff.1 hg
    have hx : x ∈ U.cells := by rw [hr]; simp
    have h3 := h1 x hx
    have h4 : ∀ f ∈ U.cells, f.1 ≤ x.1 := fun f hf => by
      have hR := h.rise
      unfold IRise at hR
      rw [hr] at hR hf
      rcases List.mem_append.1 hf with hf | hf
      · exact Int.le_of_lt ((List.pairwise_append.1 hR).2.2 f hf x (by simp))
      · rw [List.mem_singleton.1 hf]; exact Int.le_refl _
    have h5 := (h.at' x hx).1
    simp only
    rcases h2 with h2 | ⟨f, hf, h2⟩
    · omega
    · have := h4 f hf; omega

section
variable {w : World} {B : Nat → Prop} {u m : Nat} {U : US}
end

end Go.Proofs.Ytojndpelilolkaa

namespace Go.Proofs.Ytojndpelilolkaa
open Go.RowKit

theorem IRise.len {α : Type} : ∀ {l : Im α} {lo hi : Int} (_ : IRise l) (_ : ∀ f ∈ l, lo ≤ f.1 ∧ f.1 ≤ hi), lo ≤ hi + 1 → (l.length : Int) ≤ hi + 1 - lo
  | [], lo, hi, _, _, h => by simp; omega
  | x :: r, lo, hi, h, hr, _ => by
    have h2 := List.pairwise_cons.1 h
    have hx := hr x (by simp)
    have h3 := IRise.len (l := r) (lo := x.1 + 1) (hi := hi) h2.2 (fun f hf => ⟨by have := h2.1 f hf; omega, (hr f (by simp [hf])).2⟩) (by omega)
    simp only [List.length_cons]
    omega
theorem UOk.len {U : US} (h : UOk U) : U.cells.length ≤ 1048576 := by
  have h1 := IRise.len (lo := 0) (hi := 1048575) h.rise (fun f hf => ⟨by have := h.at' f hf; have := h.low; omega, (h.at' f hf).2.1⟩) (by omega)
  omega

section
variable {w : World} {B : Nat → Prop} {u m : Nat} {U : US}
theorem ufield (k : Int) (ao : Option Addr) (l cap : Nat) (w : World) : (Instr.field 41 (.agg #[.int .i64 k, .slice ao l cap]) 0).run Try.prog w = .ok (.int .i64 k) w := by kernel_rfl
end
end Go.Proofs.Ytojndpelilolkaa

namespace Go.Proofs.Ytojndpelilolkaa
open Go.RowKit

theorem reads_lit8 (w : World) (e : TypeId) (k : IntKind) (l : List Nat) (cs : Array Value) (fr : Nat × Nat) (hc : cs.toList = vals k l) (hm : l.length ≤ maxLen) :
    Reads (w.alloc (.cells cs e fr)) k (.slice (some ⟨w.heap.size, 0, none⟩) l.length l.length) l :=
  ⟨_, _, rfl, Nat.le_refl _, hm, by simp, .inr ⟨w.heap.size, 0, rfl, by simp, fun i hi => by
    rw [Nat.zero_add, World.cell?_alloc_mark, ← Array.getElem?_toList, hc, vals_get k l i hi]⟩⟩
abbrev nilU : Value := .pointer none
abbrev err4 : Value := .iface 70 (.int .i64 4)
def utailc (U : US) (e : Int) : Int × Nat := if ucur U e ≠ 0 then (0, ucur U e) else (utail U, 0)
section
variable {w : World} {B : Nat → Prop} {u m : Nat} {U : US}
end

/-! ### The chapter's example -/
def U8a : US := ⟨0, 0, [(3, (1, [97]))]⟩
theorem al8_put : uwrite unew 0 3 [97] = (U8a, 0) := by rfl
theorem al8_again : uwrite U8a 0 3 [98] = (U8a, 8) := by rfl
theorem al8_tail : utailc U8a 0 = (4, 0) := by rfl

end Go.Proofs.Ytojndpelilolkaa

namespace Go.Proofs.Ytojndpelilolkaa
open Go.RowKit

section
variable {w : World} {B : Nat → Prop} {u m : Nat} {U : US}
end

end Go.Proofs.Ytojndpelilolkaa

namespace Go.Proofs.Ytojndpelilolkaa
open Go.RowKit

/-- What is there while some are still left to be looked at. -/
def FkU (p : Int → Bool) (es : Im Value) (left : Lit → Bool) : Im Value := es.filter fun f => left (.int .i64 f.1) || !p f.1
theorem fkU_start {p : Int → Bool} {es : Im Value} {left : Lit → Bool} (h : ∀ f ∈ es, left (.int .i64 f.1) = true) : FkU p es left = es := List.filter_eq_self.2 fun f hf => by rw [h f hf]; rfl
theorem fkU_end {p : Int → Bool} {es : Im Value} {left : Lit → Bool} (h : ∀ l, left l = false) : FkU p es left = es.filter fun f => !p f.1 := List.filter_congr fun f _ => by rw [h]; rfl
theorem fkU_stays {p : Int → Bool} {es : Im Value} {left : Lit → Bool} {x : Int} (hp : p x = false) : FkU p es (fun z => left z && !z.sameKey (.int .i64 x)) = FkU p es left := List.filter_congr fun f _ => by
  simp only [same_i]
  by_cases hx : f.1 = x
  · rw [hx, hp]; simp
  · rw [show (f.1 == x) = false from beq_eq_false_iff_ne.2 hx]; simp
theorem fkU_struck {p : Int → Bool} {es : Im Value} {left : Lit → Bool} {x : Int} (hp : p x = true) : FkU p es (fun z => left z && !z.sameKey (.int .i64 x)) = idel (FkU p es left) x := by
  unfold FkU idel
  rw [List.filter_filter]
  refine List.filter_congr fun f _ => ?_
  simp only [same_i]
  by_cases hx : f.1 = x
  · rw [hx, hp]; simp
  · rw [show (f.1 == x) = false from beq_eq_false_iff_ne.2 hx]; simp
theorem fkU_get {p : Int → Bool} {es : Im Value} {left : Lit → Bool} {x : Int} {c : Value} (h : iget (FkU p es left) x = some c) : (x, c) ∈ es := (List.mem_filter.1 (iget_some h)).1

theorem below_grown2 {w w' : World} (h : Below w.heap.size w w') (row : Option Nat) : w.grownBy w' row := ⟨h.os, h.tape, h.output, h.size, fun j hj _ => h.block j hj⟩

end Go.Proofs.Ytojndpelilolkaa

namespace Go.Proofs.Ytojndpelilolkaa
open Go.RowKit

theorem one_cell {w : World} {b : Nat} {x : Value} {T : TypeId} (h : w.heap[b]? = some (.cells #[x] T (0, 0))) : w.cell? ⟨b, 0, none⟩ = some x := by rw [cell_of_row _ _ 0 _ _ _ h]; rfl

end Go.Proofs.Ytojndpelilolkaa

namespace Go.Proofs.Ytojndpelilolkaa
open Go.RowKit

section
variable {w : World} {B : Nat → Prop} {u m : Nat} {U : US}
/-- What Read answers. -/
def UReadPost (w : World) (r : IC × Nat) (e : Ending) (w' : World) : Prop := ∃ dv, e = .returned (.tuple #[.agg #[.int .i64 r.1.1, dv], errV r.2]) ∧ Owns w' w.heap.size 5 .u8 dv r.1.2 ∧ Below w.heap.size w w'
end

end Go.Proofs.Ytojndpelilolkaa
