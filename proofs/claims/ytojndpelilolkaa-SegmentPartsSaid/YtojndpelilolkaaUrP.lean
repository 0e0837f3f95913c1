/- The document's own unit: what it reads as, its tail, a cell of it, its epoch. · The document's own unit: Seal. · The document's own unit: a cell put in. · The document's own unit: Write. · The document's own unit: Fill. · The document's own unit: Read. · The document's own unit: Trim. · The document's own unit: Cut. · The document's own unit: two rows compared. · The document's own unit: Check. · Law 08: entries and units as the document's. · Law 08: a unit as the document's; two of the document's compared. · Law 08: what an act does, and what Do keeps at hand. -/
import Derived.Test.YtojndpelilolkaaUjP
import Derived.Test.YtojndpelilolkaaStepR
namespace Go.Proofs.Ytojndpelilolkaa
open Go.RowKit

def dRow (f : Int × IC) : List Value := [.int .i64 f.1, .int .i64 f.2.1, .string (S8 f.2.2)]
def docU (U : US) (lv : Value) : Value := .agg #[.int .i64 U.epoch, .int .i64 U.low, lv]
/-- A document's unit that reads as U. -/
def DocU (w : World) (B : Nat → Prop) (lv : Value) (U : US) : Prop := RecAt w B 3 lv (U.cells.map dRow)
theorem DocU.val {w : World} {B : Nat → Prop} {lv : Value} {U : US} (h : DocU w B lv U) : ∃ ao cap, lv = .slice ao U.cells.length cap := by
  obtain ⟨ao, cap, hv, _⟩ := RecAt.val h
  exact ⟨ao, cap, by rw [hv, List.length_map]⟩
theorem DocU.at' {w : World} {B : Nat → Prop} {ao : Option Addr} {n cap : Nat} {U : US} (h : DocU w B (.slice ao n cap) U) {i : Nat} {f : Int × IC} (hi : U.cells[i]? = some f) :
    ∃ b off, ao = some ⟨b, off, none⟩ ∧ b < w.heap.size ∧ B b ∧ w.cell? ⟨b, off + i * 3, none⟩ = some (.int .i64 f.1) ∧ w.cell? ⟨b, off + i * 3 + 1, none⟩ = some (.int .i64 f.2.1) ∧ w.cell? ⟨b, off + i * 3 + 2, none⟩ = some (.string (S8 f.2.2)) := by
  obtain ⟨b, off, h1, h2, h3, h4⟩ := RecAt.at h (i := i) (r := dRow f) (by rw [List.getElem?_map, hi]; rfl)
  exact ⟨b, off, h1, h2, h3, h4 0 _ rfl, h4 1 _ rfl, h4 2 _ rfl⟩

section
variable {w : World} {B : Nat → Prop} {U : US} {lv : Value}
theorem iget_snoc {l : Im IC} {k : Nat} {f : Int × IC} {a : Int} (h : iget (l.take k) a = none) (hf : l[k]? = some f) (hne : f.1 ≠ a) : iget (l.take (k + 1)) a = none := by
  rw [take_snocU hf]
  unfold iget at h ⊢
  rw [Option.map_eq_none_iff, List.find?_eq_none] at h ⊢
  intro x hx
  rcases List.mem_append.1 hx with hx | hx
  · exact h x hx
  · obtain rfl : x = f := by simpa using hx
    simpa using hne
def dCell (c : IC) : Value := .agg #[.int .i64 c.1, .string (S8 c.2)]
end
end Go.Proofs.Ytojndpelilolkaa

namespace Go.Proofs.Ytojndpelilolkaa
open Go.RowKit

theorem DocU.grown {w w' : World} {B : Nat → Prop} {lv : Value} {U : US} (h : DocU w B lv U) (hb : Below w.heap.size w w') : DocU w' B lv U := RecAt.keep h (kept_new hb _)
theorem allocU_at {w : World} (o : Obj) {Y : Nat} (h : Y = w.heap.size) : (w.alloc o).heap[Y]? = some o := by subst h; exact heap_alloc_new _ _
/-- Three stores into one box. -/
def tri (W : World) (p : Nat) (a b c : Value) : World := ((W.setCell ⟨p, 0, none⟩ a).setCell ⟨p, 1, none⟩ b).setCell ⟨p, 2, none⟩ c
theorem fr_tri (W : World) (p : Nat) (a b c : Value) : Fr (fun j => j = p) W (tri W p a b c) :=
  ((fr_set W p 0 a).trans (fr_set _ p 1 b) (fun _ _ h => h) (fun _ _ h => h)).trans (fr_set _ p 2 c) (fun _ _ h => h) (fun _ _ h => h)
theorem tri_blk {W : World} {p : Nat} {x0 x1 x2 : Value} {T : TypeId} (h : W.heap[p]? = some (.cells #[x0, x1, x2] T (0, 0))) (a b c : Value) : (tri W p a b c).heap[p]? = some (.cells #[a, b, c] T (0, 0)) := by
  unfold tri
  have h1 := heap_setCell_same W p 0 _ _ a h
  have h2 := heap_setCell_same _ p 1 _ _ b h1
  exact heap_setCell_same _ p 2 _ _ c h2
section
variable {w W W' : World} {U U' : US} {lv lv' : Value}
end
section
variable {w : World} {B : Nat → Prop} {U : US} {lv : Value}
end
end Go.Proofs.Ytojndpelilolkaa

namespace Go.Proofs.Ytojndpelilolkaa
open Go.RowKit

/-- What `with` has made of the first k rows. -/
def WithR (a : Int) (c : IC) (l : Im IC) (k : Nat) (dn : Bool) (o : Im IC) : Prop := (if dn then o ++ l.drop k else o ++ iins a c (l.drop k)) = iins a c l ∧ o.length = k + dn.toNat
theorem withR_new (a : Int) (c : IC) (l : Im IC) : WithR a c l 0 false [] := ⟨rfl, by simp⟩
theorem drop_consU {l : Im IC} {k : Nat} {f : Int × IC} (hf : l[k]? = some f) : l.drop k = f :: l.drop (k + 1) := by
  obtain ⟨h, e⟩ := List.getElem?_eq_some_iff.1 hf
  rw [List.drop_eq_getElem_cons h, e]
theorem WithR.put {a : Int} {c : IC} {l : Im IC} {k : Nat} {o : Im IC} {f : Int × IC} (h : WithR a c l k false o) (hf : l[k]? = some f) (ha : a < f.1) : WithR a c l (k + 1) true (o ++ [(a, c)] ++ [f]) := by
  refine ⟨?_, by have := h.2; simp at this ⊢; omega⟩
  have := h.1
  rw [drop_consU hf] at this
  simp only [Bool.false_eq_true, if_false, iins, if_pos ha] at this
  simp only [if_true]
  rw [← this]
  simp
theorem WithR.skip {a : Int} {c : IC} {l : Im IC} {k : Nat} {o : Im IC} {f : Int × IC} (h : WithR a c l k false o) (hf : l[k]? = some f) (ha : ¬ a < f.1) : WithR a c l (k + 1) false (o ++ [f]) := by
  refine ⟨?_, by have := h.2; simp at this ⊢; omega⟩
  have := h.1
  rw [drop_consU hf] at this
  simp only [Bool.false_eq_true, if_false, iins, if_neg ha] at this
  simp only [Bool.false_eq_true, if_false]
  rw [← this]
  simp
theorem WithR.on {a : Int} {c : IC} {l : Im IC} {k : Nat} {o : Im IC} {f : Int × IC} (h : WithR a c l k true o) (hf : l[k]? = some f) : WithR a c l (k + 1) true (o ++ [f]) := by
  refine ⟨?_, by have := h.2; simp at this ⊢; omega⟩
  have := h.1
  rw [drop_consU hf] at this
  simp only [if_true] at this ⊢
  rw [← this]
  simp
section
variable {g bs : Nat} {W W' : World} {ep lw ck : Int} {sl : Value} {cb : ByteArray}
end
section
variable {w : World} {B : Nat → Prop} {U : US} {lv : Value}
end
end Go.Proofs.Ytojndpelilolkaa

namespace Go.Proofs.Ytojndpelilolkaa
open Go.RowKit

/-- What an operation of the document's answers. -/
def DPostU (B : Nat → Prop) (w : World) (x : US × Nat) (r : Ending) (w' : World) : Prop :=
  ∃ lv', r = .returned (.tuple #[docU x.1 lv', .int .i64 (x.2 : Int)]) ∧ DocU w' (fun j => B j ∨ w.heap.size ≤ j) lv' x.1 ∧ Below w.heap.size w w'
theorem DocU.wide {w : World} {B C : Nat → Prop} {lv : Value} {U : US} (h : DocU w B lv U) (hc : ∀ j, B j → C j) : DocU w C lv U := RecAt.mono h fun j _ hj => hc j hj
section
variable {w W : World} {B : Nat → Prop} {U : US} {lv : Value}
theorem dpost_same {w' : World} (h : DocU w B lv U) (hb : Below w.heap.size w w') (k : Nat) : DPostU B w (U, k) (.returned (.tuple #[docU U lv, .int .i64 (k : Int)])) w' :=
  ⟨lv, rfl, (h.grown hb).wide fun _ hj => .inl hj, hb⟩
theorem ufieldD (k : Int) (s : ByteArray) (w : World) : (Instr.field 45 (.agg #[.int .i64 k, .string s]) 0).run Try.prog w = .ok (.int .i64 k) w := by kernel_rfl

end
end Go.Proofs.Ytojndpelilolkaa

namespace Go.Proofs.Ytojndpelilolkaa
open Go.RowKit

theorem iput_same {l : Im IC} (h : IRise l) {a : Int} {t : IC} (hg : iget l a = some t) : iput l a t = l := by
  induction l with
  | nil => simp [iget] at hg
  | cons x r ih =>
    have h2 := List.pairwise_cons.1 h
    by_cases hx : x.1 = a
    · have hgx := iget_mem h (List.mem_cons_self (a := x) (l := r))
      rw [hx, hg] at hgx
      have ht : t = x.2 := by simpa using hgx
      have hr : idel r a = r := List.filter_eq_self.2 fun y hy => by
        have := h2.1 y hy
        have e : (y.1 == a) = false := by rw [beq_eq_false_iff_ne]; omega
        simp [e]
      have e1 : idel (x :: r) a = r := by
        have e : (x.1 == a) = true := by rw [beq_iff_eq]; exact hx
        unfold idel at hr ⊢
        rw [List.filter_cons, e]
        exact hr
      unfold iput
      rw [e1]
      cases r with
      | nil => unfold iins; rw [ht, ← hx]
      | cons y r2 =>
        have := h2.1 y List.mem_cons_self
        unfold iins
        rw [if_pos (by omega), ht, ← hx]
    · have hgr : iget r a = some t := by
        unfold iget at hg ⊢
        have e : (x.1 == a) = false := by rw [beq_eq_false_iff_ne]; exact hx
        rw [List.find?_cons, e] at hg
        exact hg
      have hm := h2.1 _ (iget_some hgr)
      have e1 : idel (x :: r) a = x :: idel r a := by
        have e : (x.1 == a) = false := by rw [beq_eq_false_iff_ne]; exact hx
        unfold idel
        rw [List.filter_cons, e]
        rfl
      have := ih h2.2 hgr
      unfold iput at this ⊢
      rw [e1]
      unfold iins
      simp only at hm
      rw [if_neg (by omega), this]
theorem fill_same {U : US} (h : UOk U) {a : Int} (h3 : (uat U a).1 ≠ 3) (h1 : (uat U a).1 ≠ 1) (h0 : (uat U a).1 ≠ 0) : ({ U with cells := iput U.cells a (2, []) } : US) = U := by
  unfold uat at h3 h1 h0
  by_cases hl : a < U.low
  · rw [if_pos hl] at h3; exact absurd rfl h3
  rw [if_neg hl] at h3 h1 h0
  cases hg : iget U.cells a with
  | none => rw [hg] at h0; exact absurd rfl h0
  | some t =>
    rw [hg, Option.getD_some] at h1
    have hok := (h.at' _ (iget_some hg)).2.2
    have h2 : t.1 = 2 := by rcases hok.1 with h9 | h9
                            · exact absurd h9 h1
                            · exact h9
    have hz := hok.2.1
    simp only at hz
    have ht : t = (2, []) := by
      obtain ⟨k, dd⟩ := t
      simp only at h2 hz
      subst h2
      have := chk_zero hz
      cases dd with
      | nil => rfl
      | cons y r => simp at this
    rw [iput_same h.rise (by rw [hg, ht])]
section
variable {w W : World} {B : Nat → Prop} {U : US} {lv : Value}
end
end Go.Proofs.Ytojndpelilolkaa

namespace Go.Proofs.Ytojndpelilolkaa
open Go.RowKit

section
variable {w W W' : World} {U : US} {lv : Value}
end
section
variable {w : World} {B : Nat → Prop} {U : US} {lv : Value}
end
end Go.Proofs.Ytojndpelilolkaa

namespace Go.Proofs.Ytojndpelilolkaa
open Go.RowKit

section
variable {w W : World} {B : Nat → Prop} {U : US} {lv : Value}
end
end Go.Proofs.Ytojndpelilolkaa

namespace Go.Proofs.Ytojndpelilolkaa
open Go.RowKit

/-- What Cut of the document's answers. -/
def CPostU (B : Nat → Prop) (w : World) (x : Int × US × Nat) (r : Ending) (w' : World) : Prop :=
  ∃ lv', r = .returned (.tuple #[.int .i64 x.1, docU x.2.1 lv', .int .i64 (x.2.2 : Int)]) ∧ DocU w' (fun j => B j ∨ w.heap.size ≤ j) lv' x.2.1 ∧ Below w.heap.size w w'
theorem DPostU.cut {B : Nat → Prop} {w w' : World} {U : US} {v : Value} {k : Nat} (n : Int) (h : DPostU B w (U, k) (.returned (.tuple #[docU U v, .int .i64 (k : Int)])) w') : CPostU B w (n, U, k) (.returned (.tuple #[.int .i64 n, docU U v, .int .i64 (k : Int)])) w' := by
  obtain ⟨lv', e, h1, h2⟩ := h
  have : v = lv' := by simpa [docU] using e
  subst this
  exact ⟨v, rfl, h1, h2⟩
theorem CPostU.drew {B : Nat → Prop} {w w' : World} {x : Int × US × Nat} {r : Ending} (h : CPostU B w x r w') : CPostU B w x r w'.drew := by
  obtain ⟨lv', e, h1, h2⟩ := h
  exact ⟨lv', e, DocU.grown h1 ⟨rfl, rfl, rfl, Nat.le_refl _, fun _ _ => rfl⟩, h2.drew⟩
theorem cpost_same {w w' : World} {B : Nat → Prop} {U : US} {lv : Value} (h : DocU w B lv U) (hb : Below w.heap.size w w') (k : Nat) : CPostU B w (0, U, k) (.returned (.tuple #[.int .i64 0, docU U lv, .int .i64 (k : Int)])) w' := (dpost_same h hb k).cut 0
section
variable {w W : World} {B : Nat → Prop} {U : US} {lv : Value}
end
end Go.Proofs.Ytojndpelilolkaa

namespace Go.Proofs.Ytojndpelilolkaa
open Go.RowKit

set_option maxRecDepth 100000 in
theorem eq_in_cell (d : Nat) (k1 k2 : Int) (s1 s2 : ByteArray) (w : World) :
    (Op.equalIn (d + 2) 45 (.agg #[.int .i64 k1, .string s1]) (.agg #[.int .i64 k2, .string s2])).run Try.prog w = .ok (k1 == k2 && s1.toList == s2.toList) w := by
  have ht : Try.prog.underlying 45 = some (.struct (Try.prog.fieldsOf 45)) := by kernel_rfl
  have hp : Try.prog.stoodInHeld 45 = false := by kernel_rfl
  have h1 : Try.prog.underlying 3 = some (.int .i64) := Try.underlying3
  have h2 : Try.prog.underlying 9 = some .string := Try.underlying9
  obtain ⟨L, hL⟩ : ∃ L, L = (Try.prog.fieldsOf 45).toList := ⟨_, rfl⟩
  have hm : (L.map fun f => (f.name, f.type, f.offset)) = [("Kind", 3, 0), ("Data", 9, 1)] := by rw [hL]; kernel_rfl
  obtain ⟨f0, f1, hf, n0, hf0, g0, n1, hf1, g1⟩ : ∃ f0 f1, L = [f0, f1] ∧ f0.name = "Kind" ∧ f0.type = 3 ∧ f0.offset = 0 ∧ f1.name = "Data" ∧ f1.type = 9 ∧ f1.offset = 1 := by
    rcases L with _ | ⟨f0, _ | ⟨f1, _ | ⟨f2, r⟩⟩⟩
    · have := congrArg List.length hm; simp at this
    · have := congrArg List.length hm; simp at this
    · simp only [List.map_cons, List.map_nil, List.cons.injEq, Prod.mk.injEq, and_true] at hm
      exact ⟨f0, f1, rfl, hm.1.1, hm.1.2.1, hm.1.2.2, hm.2.1, hm.2.2.1, hm.2.2.2⟩
    · have := congrArg List.length hm
      simp at this
  rw [hL] at hf
  clear hm hL
  have hn0 : ¬ f0.name = "_" := by rw [n0]; decide
  have hn1 : ¬ f1.name = "_" := by rw [n1]; decide
  clear n0 n1
  rw [run_equalIn_agg _ _ _ _ _ ht hp, hf]
  go_simp
  by_cases e1 : k1 = k2
  · by_cases e2 : s1.toList = s2.toList
    · simp [e1, e2]
    · simp [e1, e2]
  · simp [e1]

section
variable {w : World} {B B2 : Nat → Prop} {U : US} {lv lv2 : Value}
end
end Go.Proofs.Ytojndpelilolkaa

namespace Go.Proofs.Ytojndpelilolkaa
open Go.RowKit

section
variable {w : World} {B : Nat → Prop} {U : US} {lv : Value}
end
end Go.Proofs.Ytojndpelilolkaa

namespace Go.Proofs.Ytojndpelilolkaa
open Go.RowKit

/-- A slice of entries, in blocks of which B holds. -/
def EntAt (w : World) (B : Nat → Prop) (v : Value) (l : Im IC) : Prop :=
  ∃ rows : List (List Value), RecAt w B 3 v rows ∧ rows.length = l.length ∧ ∀ (i : Nat) (f : Int × IC), l[i]? = some f → ∃ dv, rows[i]? = some (eRow f dv) ∧ At w B .u8 dv f.2.2
section
variable {w w' : World} {B : Nat → Prop} {v : Value} {l : Im IC} {base : Nat}
theorem EntAt.keep (h : EntAt w B v l) (hk : Kept B w w') : EntAt w' B v l := by
  obtain ⟨rows, h1, h2, h3⟩ := h
  exact ⟨rows, h1.keep hk, h2, fun i f hf => by
    obtain ⟨dv, h4, h5⟩ := h3 i f hf
    exact ⟨dv, h4, h5.keep hk⟩⟩
theorem EntAt.mono (h : EntAt w B v l) {C : Nat → Prop} (hc : ∀ j, j < w.heap.size → B j → C j) : EntAt w C v l := by
  obtain ⟨rows, h1, h2, h3⟩ := h
  exact ⟨rows, h1.mono hc, h2, fun i f hf => by
    obtain ⟨dv, h4, h5⟩ := h3 i f hf
    exact ⟨dv, h4, h5.mono hc⟩⟩
theorem EntAt.val (h : EntAt w B v l) : ∃ ao cap, v = .slice ao l.length cap ∧ l.length ≤ cap ∧ cap ≤ maxLen ∧ (ao = none → cap = 0) := by
  obtain ⟨rows, h1, h2, _⟩ := h
  obtain ⟨ao, cap, hv, h3, h4, h5⟩ := RecAt.val h1
  rw [h2] at hv h3
  exact ⟨ao, cap, hv, h3, h4, h5⟩
theorem EntAt.at {ao : Option Addr} {n cap : Nat} (h : EntAt w B (.slice ao n cap) l) {i : Nat} {f : Int × IC} (hi : l[i]? = some f) :
    ∃ b off dv, ao = some ⟨b, off, none⟩ ∧ b < w.heap.size ∧ B b ∧ w.cell? ⟨b, off + i * 3, none⟩ = some (.int .i64 f.1) ∧ w.cell? ⟨b, off + i * 3 + 1, none⟩ = some (.int .i64 f.2.1) ∧ w.cell? ⟨b, off + i * 3 + 2, none⟩ = some dv ∧ At w B .u8 dv f.2.2 := by
  obtain ⟨rows, h1, _, h3⟩ := h
  obtain ⟨dv, h4, h5⟩ := h3 i f hi
  obtain ⟨b, off, e, hb, hB, hc⟩ := RecAt.at h1 h4
  exact ⟨b, off, dv, e, hb, hB, hc 0 _ rfl, hc 1 _ rfl, hc 2 _ rfl, h5⟩
end
end Go.Proofs.Ytojndpelilolkaa

namespace Go.Proofs.Ytojndpelilolkaa
open Go.RowKit

/-- Are two units the same? -/
def sameUS (U M : US) : Bool := decide (U.epoch = M.epoch) && (decide (U.low = M.low) && decide (U.cells = M.cells))
theorem sameUS_self (U : US) : sameUS U U = true := by simp [sameUS]
theorem sameUS_eq {U M : US} (h : sameUS U M = true) : U = M := by
  obtain ⟨e, l, c⟩ := U
  obtain ⟨e', l', c'⟩ := M
  simp [sameUS] at h
  obtain ⟨rfl, rfl, rfl⟩ := h
  rfl
/-- All bytes are bytes. -/
def U256 (U : US) : Prop := ∀ f ∈ U.cells, ∀ y ∈ f.2.2, y < 256
theorem UOk.bytes {U : US} (h : UOk U) : U256 U := fun f hf => (h.at' f hf).2.2.2.2
theorem ent_beq {f g : Int × IC} (hf : ∀ y ∈ f.2.2, y < 256) (hg : ∀ y ∈ g.2.2, y < 256) : (!(f.1 == g.1 && (f.2.1 == g.2.1 && (S8 f.2.2).toList == (S8 g.2.2).toList))) = !decide (f = g) := by
  obtain ⟨a, k, d⟩ := f
  obtain ⟨a', k', d'⟩ := g
  have h := str_beq hf hg
  simp only at h ⊢
  unfold S8
  rw [h]
  congr 1
  rw [Bool.eq_iff_iff]
  simp

section
variable {w : World} {B B2 : Nat → Prop} {U M : US} {lv lv2 : Value}
variable {u m : Nat}
end
end Go.Proofs.Ytojndpelilolkaa

namespace Go.Proofs.Ytojndpelilolkaa
open Go.RowKit

/-- An act. -/
structure UA where
  kind : Int
  epoch : Int
  addr : Int
  data : List Nat
/-- What an act makes of a unit. -/
def ustep (U : US) (a : UA) : US :=
  if ((IntKind.u64.wrap a.kind).tmod 8 == 0) = true then (useal U a.epoch).2.1
  else if ((IntKind.u64.wrap a.kind).tmod 8 == 1) = true then (uwrite U a.epoch a.addr a.data).1
  else if ((IntKind.u64.wrap a.kind).tmod 8 == 2) = true then (uwrite U a.epoch a.addr a.data).1
  else if ((IntKind.u64.wrap a.kind).tmod 8 == 3) = true then (ufill U a.epoch a.addr).1
  else if ((IntKind.u64.wrap a.kind).tmod 8 == 4) = true then U
  else if ((IntKind.u64.wrap a.kind).tmod 8 == 5) = true then (utrim U a.epoch a.addr).1
  else if ((IntKind.u64.wrap a.kind).tmod 8 == 6) = true then (ucut U a.epoch a.addr).2.1
  else U
theorem ustep_ok {U : US} (h : UOk U) {a : UA} (ha : ∀ y ∈ a.data, y < 256) : UOk (ustep U a) := by
  unfold ustep
  repeat' split
  · exact useal_ok h _
  · exact uwrite_ok h _ _ ha
  · exact uwrite_ok h _ _ ha
  · exact ufill_ok h _ _
  · exact h
  · exact utrim_ok h _ _
  · exact ucut_ok h _ _
  · exact h

/-- Two stores into one box. -/
def two (W : World) (p : Nat) (a b : Value) : World := (W.setCell ⟨p, 0, none⟩ a).setCell ⟨p, 1, none⟩ b
theorem fr_two (W : World) (p : Nat) (a b : Value) : Fr (fun j => j = p) W (two W p a b) := (fr_set W p 0 a).trans (fr_set _ p 1 b) (fun _ _ h => h) (fun _ _ h => h)
theorem two_blk {W : World} {p : Nat} {x0 x1 : Value} {T : TypeId} (h : W.heap[p]? = some (.cells #[x0, x1] T (0, 0))) (a b : Value) : (two W p a b).heap[p]? = some (.cells #[a, b] T (0, 0)) :=
  heap_setCell_same _ p 1 _ _ b (heap_setCell_same W p 0 _ _ a h)

/-- Blocks of a call's old things, and of what was made between s + 1 and t. -/
def Kb (n s t : Nat) (B : Nat → Prop) : Nat → Prop := fun j => B j ∧ j < n ∨ s + 1 < j ∧ j < t
section
variable {w W W' : World} {B BD : Nat → Prop} {u m s t : Nat} {U M U' M' : US} {lv lv' : Value} {acts : Array Value} {ov : Value} {own : List Nat} {xk : Int} {xs : ByteArray} {ck : Int} {cd : Value}
theorem three_cells {w : World} {p : Nat} {c0 c1 c2 : Value} {e : TypeId} (h : w.heap[p]? = some (.cells #[c0, c1, c2] e (0, 0))) :
    w.cell? ⟨p, 0, none⟩ = some c0 ∧ w.cell? ⟨p, 1, none⟩ = some c1 ∧ w.cell? ⟨p, 2, none⟩ = some c2 ∧ ∀ i, w.frozen? ⟨p, i, none⟩ = false :=
  ⟨by rw [cell_of_row _ _ 0 _ _ _ h]; rfl, by rw [cell_of_row _ _ 1 _ _ _ h]; rfl, by rw [cell_of_row _ _ 2 _ _ _ h]; rfl, fun i => frozen_of_row _ _ i _ _ h⟩
theorem four_cells {w : World} {p : Nat} {c0 c1 c2 c3 : Value} {e : TypeId} (h : w.heap[p]? = some (.cells #[c0, c1, c2, c3] e (0, 0))) :
    w.cell? ⟨p, 0, none⟩ = some c0 ∧ w.cell? ⟨p, 1, none⟩ = some c1 ∧ w.cell? ⟨p, 2, none⟩ = some c2 ∧ w.cell? ⟨p, 3, none⟩ = some c3 :=
  ⟨by rw [cell_of_row _ _ 0 _ _ _ h]; rfl, by rw [cell_of_row _ _ 1 _ _ _ h]; rfl, by rw [cell_of_row _ _ 2 _ _ _ h]; rfl, by rw [cell_of_row _ _ 3 _ _ _ h]; rfl⟩
theorem two_cells {w : World} {p : Nat} {c0 c1 : Value} {e : TypeId} (h : w.heap[p]? = some (.cells #[c0, c1] e (0, 0))) :
    w.cell? ⟨p, 0, none⟩ = some c0 ∧ w.cell? ⟨p, 1, none⟩ = some c1 ∧ ∀ i, w.frozen? ⟨p, i, none⟩ = false :=
  ⟨by rw [cell_of_row _ _ 0 _ _ _ h]; rfl, by rw [cell_of_row _ _ 1 _ _ _ h]; rfl, fun i => frozen_of_row _ _ i _ _ h⟩
end

section
variable {w W W' : World} {B BD : Nat → Prop} {u m s t : Nat} {U M U' M' : US} {lv lv' : Value} {acts : Array Value} {ov : Value} {own : List Nat} {xk : Int} {xs : ByteArray} {ck : Int} {cd : Value}
end
end Go.Proofs.Ytojndpelilolkaa
