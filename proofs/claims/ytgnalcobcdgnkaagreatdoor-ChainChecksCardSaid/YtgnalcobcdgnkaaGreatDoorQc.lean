/- A range over a function whose iterator keeps state of its own in cells: what a round may turn, and what the iterator may, told by blocks. · Parts of a text: a slice of slices that each read as bytes. -/
import Derived.RangeFuncNested
import Derived.RangeFuncBound
import Derived.RangeFuncCalls
import Derived.RangeFuncLeaves
import Derived.Shelf.Abstract
import Derived.Shelf.RegionOpen
import Derived.WalkKit
import Derived.OwnWalkIn
import Derived.TacticsInMore
import Derived.LoopNIn
import Derived.LoopIn
import Derived.Test.YtgnalcobcdgnkaaGreatDoorDaP
namespace Go.Proofs.YtgnalcobcdgnkaaGreatDoor
open Go.RowKit Go.Shelf

/-- The blocks of a kind, of those that there were, are as they were. -/
structure Stay (S : Nat → Prop) (w w' : World) : Prop where
  os : w'.os = w.os
  tape : w'.tape = w.tape
  output : w'.output = w.output
  size : w.heap.size ≤ w'.heap.size
  block : ∀ k, k < w.heap.size → S k → w'.heap[k]? = w.heap[k]?

theorem Stay.refl (S : Nat → Prop) (w : World) : Stay S w w := ⟨rfl, rfl, rfl, Nat.le_refl _, fun _ _ _ => rfl⟩
theorem Stay.trans {S : Nat → Prop} {a b c : World} (h : Stay S a b) (k : Stay S b c) : Stay S a c :=
  ⟨k.os.trans h.os, k.tape.trans h.tape, k.output.trans h.output, Nat.le_trans h.size k.size, fun i hi hs => (k.block i (Nat.lt_of_lt_of_le hi h.size) hs).trans (h.block i hi hs)⟩
theorem Stay.mono {S T : Nat → Prop} {a b : World} (h : Stay S a b) (hT : ∀ k, k < a.heap.size → T k → S k) : Stay T a b :=
  ⟨h.os, h.tape, h.output, h.size, fun k hk ht => h.block k hk (hT k hk ht)⟩
theorem Stay.alloc {S : Nat → Prop} {a b : World} (h : Stay S a b) (o : Obj) : Stay S a (b.alloc o) :=
  h.trans ⟨rfl, rfl, rfl, by simp, fun k hk _ => Below.heap_alloc _ _ _ hk⟩
theorem Stay.drew {S : Nat → Prop} {a b : World} (h : Stay S a b) : Stay S a b.drew := ⟨h.os, h.tape, h.output, h.size, h.block⟩
theorem Stay.drewN {S : Nat → Prop} {a b : World} (h : Stay S a b) (n : Nat) : Stay S a (b.drewN n) := ⟨h.os, h.tape, h.output, h.size, h.block⟩
theorem Stay.put {S : Nat → Prop} {a b : World} (h : Stay S a b) (l : Nat) (o : Obj) (hl : ¬ S l) : Stay S a (b.putObj l o) :=
  h.trans ⟨rfl, rfl, rfl, by simp, fun k _ hs => World.putObj_heap_other (fun e => hl (e ▸ hs))⟩
theorem Stay.setCell {S : Nat → Prop} {a b : World} (h : Stay S a b) (p : Addr) (v : Value) (hp : ¬ S p.block) : Stay S a (b.setCell p v) :=
  h.trans ⟨rfl, rfl, rfl, by simp [World.setCell], fun k _ hs => Below.heap_setCell _ _ _ _ (fun e => hp (e ▸ hs))⟩
theorem Stay.setRow {S : Nat → Prop} {a b : World} (h : Stay S a b) (g : Nat) (cs : Array Value) (hp : ¬ S g) : Stay S a (b.setRow g cs) :=
  h.trans ⟨rfl, rfl, rfl, by simp [World.setRow], fun k _ hs => setRow_other _ _ _ _ (fun e => hp (e ▸ hs))⟩
theorem Stay.of_below {B : Nat} {a b : World} (h : Below B a b) : Stay (fun k => k < B) a b := ⟨h.os, h.tape, h.output, h.size, fun k _ hs => h.block k hs⟩
/-- What a call made that left all that there was. -/
theorem Stay.more {S : Nat → Prop} {a b c : World} (h : Stay S a b) (k : Below b.heap.size b c) : Stay S a c :=
  h.trans ⟨k.os, k.tape, k.output, k.size, fun i hi _ => k.block i hi⟩
theorem Stay.below {S : Nat → Prop} {B : Nat} {a b : World} (h : Stay S a b) (hB : B ≤ a.heap.size) (hs : ∀ k, k < B → S k) : Below B a b :=
  ⟨h.os, h.tape, h.output, h.size, fun k hk => h.block k (Nat.lt_of_lt_of_le hk hB) (hs k hk)⟩
theorem Stay.at {S : Nat → Prop} {a b : World} (h : Stay S a b) {k : Nat} {o : Obj} (hk : a.heap[k]? = some o) (hs : S k) : b.heap[k]? = some o :=
  (h.block k (Array.getElem?_eq_some_iff.1 hk).1 hs).trans hk
theorem Stay.cell {S : Nat → Prop} {a b : World} (h : Stay S a b) {p : Addr} (hk : p.block < a.heap.size) (hs : S p.block) : b.cell? p = a.cell? p := World.cell?_of_block (h.block _ hk hs)

variable {P : Program}

/-- A round at whatever depth. -/
def Yields (P : Program) (l : Nat) (args : Array Value) (W : World) (R : Ending → World → Prop) : Prop := ∀ m, YieldAt Fence.wide m P l args W R

theorem roundIn_any {n m l : Nat} {f : FuncId} {tmps : Array Value} {assign body : Code} {w : World} {R : Ending → World → Prop} (h : RoundIn Fence.wide n P l f tmps assign body w R) : RoundIn Fence.wide m P l f tmps assign body w R :=
  ⟨h.1, fun c cs _ => h.2 c cs (room_wide _)⟩

/-- How a round's body ends: off its end. -/
def goesOn {α : Type} (M : Nat → Prop) (I : List α → World → Prop) (xs : List α) (W : World) : Exit → Act → World → Prop
  | .normal, _, W' => Stay (fun k => ¬ M k) W W' ∧ I xs W'
  | .ret, _, _ => False
  | .exit _, _, _ => False
  | .goto _, _, _ => False
  | .panic _, _, _ => False
  | .outgrown, _, _ => False

/-- **A range over a function, all of whose rounds go on.** M: the blocks, of those that there were, that a round may turn. The iterator is told that a round turns these and the loop's own record alone; the caller, that the iterator turns no block that there was. -/
theorem wpIn_range {n m : Nat} {α : Type} {g : Operand} {ps : Array Tmp} {assign body : Code} {Q : Exit → Act → World → Prop} {a : Act} {w : World}
    {gf : Nat} {lb : Array Value} (hg : a.eval g = .func (.func gf) #[] lb) (eg : ∀ args w, (callFunc gf args).run P w = .ok (.enter gf args) w)
    {encs : α → Array Value} (hps : ∀ x, (encs x).size = ps.size)
    (M : Nat → Prop) (hM : ∀ k, M k → k < w.heap.size) (Ok : List α → α → World → Prop) (S : List α → Prop)
    (hseq : ∀ (J : List α → World → Prop) (W : World), Stay (fun _ => True) w W → W.heap.size = w.heap.size + 2 →
      (∀ s A B, J s A → Stay (fun k => k < W.heap.size) A B → J s B) → (∀ s A, J s A → W.heap.size ≤ A.heap.size) →
      (∀ pre x W1, J pre W1 → Ok pre x W1 → Yields P (w.heap.size + 1) (encs x) W1 fun e W' => e = .returned (.bool true) ∧ J (pre ++ [x]) W' ∧ Stay (fun k => ¬ M k ∧ k ≠ w.heap.size + 1) W1 W') →
      J [] W → Calls P gf (#[.func (.yield (w.heap.size + 1)) #[] #[]] ++ lb) W fun e W' => (∃ v, e = .returned v) ∧ ∃ xs, S xs ∧ J xs W')
    (I : List α → World → Prop) (hI : ∀ s A B, I s A → Stay (fun k => k < w.heap.size) A B → I s B) (h0 : I [] w)
    (hround : ∀ (pre : List α) (x : α) (W : World), I pre W → w.heap.size + 2 ≤ W.heap.size → Ok pre x W →
      assign.wpIn (Fence.wide.inRound (w.heap.size + 1)) m P (Exit.then (fun a1 W1 => Stay (fun _ => True) W W1 ∧ ∀ W2, Stay (fun k => k ≠ w.heap.size + 1) W1 W2 → W2.heap.size = W1.heap.size →
          body.wpIn (Fence.wide.inRound (w.heap.size + 1)) m P (goesOn M I (pre ++ [x]) W2) a1 W2) (fun _ _ _ => False))
        { tmps := (ps.zip (encs x)).foldl (fun t (p, v) => t.setIfInBounds p v) a.tmps, defers := [] } W)
    (hdone : ∀ (xs : List α) (W : World), S xs → I xs W → w.heap.size + 2 ≤ W.heap.size → W.heap[w.heap.size]? = some (.deferred (some [])) → Q .normal { a with defers := { target := .collected w.heap.size, args := #[] } :: a.defers } W) :
    (Code.rangeFunc g ps assign body).wpIn Fence.wide n P Q a w := by
  refine wpIn_rangeFunc ?_
  intro fn hfn
  obtain ⟨rec, hrec⟩ : ∃ rec : LoopState → Option Code → Loop, rec = fun st pe => { state := st, pending := pe, fn, tmps := a.tmps, params := ps, assign, body, defers := w.heap.size } := ⟨_, rfl⟩
  have hs1 : (w.alloc (.deferred (some []))).heap.size = w.heap.size + 1 := by simp
  obtain ⟨W1, hW1⟩ : ∃ W1, (w.alloc (.deferred (some []))).alloc (.loop (rec .ready none)) = W1 := ⟨_, rfl⟩
  have st1 : Stay (fun _ => True) w W1 := by rw [← hW1]; exact ((Stay.refl _ w).alloc _).alloc _
  have sz1 : W1.heap.size = w.heap.size + 2 := by rw [← hW1]; simp
  have hL1 : W1.heap[w.heap.size + 1]? = some (.loop (rec .ready none)) := by
    rw [← hW1]; have := World.alloc_heap_new (w.alloc (.deferred (some []))) (.loop (rec .ready none)); rwa [hs1] at this
  have hD1 : W1.heap[w.heap.size]? = some (.deferred (some [])) := by
    rw [← hW1]; exact (Below.heap_alloc _ _ _ (by simp)).trans (World.alloc_heap_new w _)
  have hcall := hseq
    (fun xs W => I xs W ∧ W.heap[w.heap.size + 1]? = some (.loop (rec .ready none)) ∧ W.heap[w.heap.size]? = some (.deferred (some [])) ∧ w.heap.size + 2 ≤ W.heap.size)
    W1 st1 sz1
    (fun s A B h k => ⟨hI s A B h.1 (k.mono (fun i _ hi => by omega)), k.at h.2.1 (by omega), k.at h.2.2.1 (by omega), Nat.le_trans h.2.2.2 k.size⟩)
    (fun s A h => by have := h.2.2.2; omega)
    ?round ⟨hI [] w W1 h0 (st1.mono fun _ _ _ => trivial), hL1, hD1, by omega⟩
  case round =>
    rintro pre x W ⟨hi, hl, hk, hz⟩ hok d
    have hy := run_yield (P := P) (args := encs x) hl (by rw [hrec]; exact hps x)
    rw [hrec] at hy
    refine ⟨fn, _, assign, body, hy, roundIn_any (n := m) (roundIn_of_wpIn hfn (wpIn_mono (hround pre x W hi hz hok) ?_))⟩
    clear hy
    rintro e a1 Wa hp
    cases e with
    | normal =>
      obtain ⟨sa, hb⟩ := hp
      have hla := sa.at hl trivial
      have hka := sa.at hk trivial
      have hlt : w.heap.size + 1 < Wa.heap.size := (Array.getElem?_eq_some_iff.1 hla).1
      refine ⟨_, run_beginRound hla (by rw [hrec]), ?_⟩
      have sb : Stay (fun k => k ≠ w.heap.size + 1) Wa (Wa.putObj (w.heap.size + 1) (.loop { rec .ready none with state := .busy })) := (Stay.refl _ _).put _ _ (fun h => h rfl)
      have hlb : (Wa.putObj (w.heap.size + 1) (.loop { rec .ready none with state := .busy })).heap[w.heap.size + 1]? = some (.loop { rec .ready none with state := .busy }) := World.putObj_heap_same hlt
      have hkb := sb.at hka (by omega)
      refine wpIn_mono (hb _ sb (by simp)) ?_
      generalize Wa.putObj (w.heap.size + 1) (.loop { rec .ready none with state := .busy }) = Wb at sb hlb hkb
      rintro e a3 W3 hp3
      cases e with
      | normal =>
        obtain ⟨s3, hi3⟩ := hp3
        have hM1 : ¬ M (w.heap.size + 1) := fun h => by have := hM _ h; omega
        have hM0 : ¬ M w.heap.size := fun h => by have := hM _ h; omega
        have hl3 := s3.at hlb hM1
        have hk3 := s3.at hkb hM0
        have he := run_endRound (P := P) none hl3
        have hz3 : w.heap.size + 1 < W3.heap.size := (Array.getElem?_eq_some_iff.1 hl3).1
        refine ⟨_, _, he, rfl, ⟨hI _ _ _ hi3 ((Stay.refl _ W3).put _ _ (by omega)), ?_, (World.putObj_heap_other (by omega)).trans hk3, by simp; omega⟩, ?_⟩
        · rw [World.putObj_heap_same hz3, hrec]; rfl
        · exact (((sa.mono fun _ _ _ => trivial).trans (sb.mono fun _ _ h => h.2)).trans (s3.mono fun _ _ h => h.1)).put _ _ (fun h => h.2 rfl)
      | ret => exact hp3.elim
      | exit id => exact hp3.elim
      | goto t => exact hp3.elim
      | panic ch => exact hp3.elim
      | outgrown => exact hp3.elim
    | ret => exact hp.elim
    | exit id => exact hp.elim
    | goto t => exact hp.elim
    | panic ch => exact hp.elim
    | outgrown => exact hp.elim
  refine ⟨w.heap.size + 1, [{ target := .collected w.heap.size, args := #[] }], W1, { target := .fn (.func gf) lb, args := #[.func (.yield (w.heap.size + 1)) #[] #[]] }, W1, gf,
    #[.func (.yield (w.heap.size + 1)) #[] #[]] ++ lb, W1, ?_, ?_, ?_, ?_, fun h => by simp [Fence.wide] at h, ?_⟩
  · rw [← hW1, hrec]; exact run_enterLoop_outer _ _ _ _ _
  · simp only [resolve, hg]
    simp [go_sem]
  · intro f' _; trivial
  · simp [invoke, go_sem, eg]
  · refine callsIn_wide.2 (hcall.mono ?_)
    rintro e W2 ⟨⟨v, rfl⟩, xs, hS, hi, hl, hk, hz⟩
    refine ⟨none, _, by have := run_endLoop (P := P) hl (by rw [hrec]; simp); rw [hrec] at this; exact this, ?_⟩
    exact hdone xs _ hS (hI _ _ _ hi ((Stay.refl _ W2).put _ _ (by omega))) (by simp; omega) ((World.putObj_heap_other (by omega)).trans hk)

end Go.Proofs.YtgnalcobcdgnkaaGreatDoor

namespace Go.Proofs.YtgnalcobcdgnkaaGreatDoor
open Go.RowKit

/-- A slice of slices that each read as bytes. -/
def Pieces (w : World) (v : Value) (ls : List (List Nat)) : Prop :=
  ∃ ao cap, v = .slice ao ls.length cap ∧ ls.length ≤ cap ∧ cap ≤ maxLen ∧ (ls = [] ∨ ∃ b off, ao = some ⟨b, off, none⟩ ∧ b < w.heap.size ∧
    ∀ i, i < ls.length → ∃ x, w.cell? ⟨b, off + i, none⟩ = some x ∧ Reads w .u8 x (ls.getD i []))

theorem Pieces.at {w : World} {ao : Option Addr} {m cap : Nat} {ls : List (List Nat)} (h : Pieces w (.slice ao m cap) ls) {i : Nat} (hi : i < ls.length) :
    ∃ b off x, ao = some ⟨b, off, none⟩ ∧ b < w.heap.size ∧ w.cell? ⟨b, off + i, none⟩ = some x ∧ Reads w .u8 x (ls.getD i []) := by
  obtain ⟨ao', cap', hv, _, _, h4⟩ := h
  simp only [Value.slice.injEq] at hv
  obtain ⟨rfl, _, _⟩ := hv
  rcases h4 with rfl | ⟨b, off, ha, hb, hc⟩
  · simp at hi
  · obtain ⟨x, hx, hr⟩ := hc i hi
    exact ⟨b, off, x, ha, hb, hx, hr⟩
theorem Pieces.val {w : World} {v : Value} {ls : List (List Nat)} (h : Pieces w v ls) : ∃ ao cap, v = .slice ao ls.length cap ∧ ls.length ≤ cap ∧ cap ≤ maxLen := by
  obtain ⟨ao', cap', hv, h1, h2, _⟩ := h
  exact ⟨ao', cap', hv, h1, h2⟩

theorem Reads.stay {S : Nat → Prop} {w w' : World} {k : IntKind} {v : Value} {l : List Nat} (h : Reads w k v l) (hs : Stay S w w') (hS : ∀ j, j < w.heap.size → S j) : Reads w' k v l := by
  obtain ⟨ao, cap, hv, h1, h2, h3, h4⟩ := h
  refine ⟨ao, cap, hv, h1, h2, h3, ?_⟩
  rcases h4 with h4 | ⟨b, off, ha, hlt, hc⟩
  · exact .inl h4
  · exact .inr ⟨b, off, ha, Nat.lt_of_lt_of_le hlt hs.size, fun i hi => (hs.cell (p := ⟨b, off + i, none⟩) hlt (hS b hlt)).trans (hc i hi)⟩

theorem Pieces.next {w w' : World} {v : Value} {ls : List (List Nat)} (h : Pieces w v ls) (hb : Below w.heap.size w w') : Pieces w' v ls := by
  obtain ⟨ao, cap, hv, h1, h2, h4⟩ := h
  refine ⟨ao, cap, hv, h1, h2, ?_⟩
  rcases h4 with h4 | ⟨b, off, ha, hlt, hc⟩
  · exact .inl h4
  · refine .inr ⟨b, off, ha, Nat.lt_of_lt_of_le hlt hb.size, fun i hi => ?_⟩
    obtain ⟨x, hx, hr⟩ := hc i hi
    exact ⟨x, (hb.cell (p := ⟨b, off + i, none⟩) hlt).trans hx, hr.below hb (Nat.le_refl _)⟩

/-- One part, written out. -/
theorem pieces_one (w : World) (e : TypeId) (v : Value) (l : List Nat) (h : Reads w .u8 v l) : Pieces (w.alloc (.cells #[v] e)) (.slice (some ⟨w.heap.size, 0, none⟩) 1 1) [l] := by
  refine ⟨_, 1, rfl, by simp, by simp [maxLen], .inr ⟨w.heap.size, 0, rfl, by simp, fun i hi => ?_⟩⟩
  obtain rfl : i = 0 := by simp at hi; omega
  refine ⟨v, ?_, h.below ((Below.refl _ _).alloc (Nat.le_refl _) _) (Nat.le_refl _)⟩
  rw [Nat.zero_add, World.cell?_alloc_at _ _ _ _ rfl]; rfl
end Go.Proofs.YtgnalcobcdgnkaaGreatDoor
