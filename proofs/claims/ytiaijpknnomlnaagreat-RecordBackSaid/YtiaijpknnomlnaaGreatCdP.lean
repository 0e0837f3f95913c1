/- The contract of the document's own TakeRun. · The contract of the document's own Take of a cell. -/
import Derived.Test.YtiaijpknnomlnaaGreatCaP
namespace Go.Proofs.YtiaijpknnomlnaaGreat
open Go.RowKit

/-- The kind of the row just ahead, as a number. -/
def rowI : Option Nat → Int
  | none => -1
  | some k => (k : Int)

/-- What the document's TakeRun answers. -/
def RTRun (B : Nat) (rest : List Nat) (c : Nat) (w : World) (e : Ending) (w' : World) : Prop :=
  ∃ (ov : Value) (run : List CC) (ao : Option Addr) (n cap : Nat) (c' : Nat) (fin : List Nat), e = .returned (.tuple #[ov, .agg #[.slice ao n cap, .int .i64 (c' : Int)]]) ∧ TRun rest c run c' fin ∧
    OwnsC w' w.heap.size ov run ∧ (c' = 0 → n = fin.length ∧ RdU w' B (.slice ao n cap) fin) ∧ Below w.heap.size w w'

/-- A box of a reader. -/
def Bx (w : World) (p : Nat) (x y : Value) : Prop := w.heap[p]? = some (.cells #[x, y] 75 (0, 0))
theorem Bx.lt {w : World} {p : Nat} {x y : Value} (h : Bx w p x y) : p < w.heap.size := (Array.getElem?_eq_some_iff.1 h).1
theorem Bx.below {w w' : World} {K p : Nat} {x y : Value} (h : Bx w p x y) (hb : Below K w w') (hK : p < K) : Bx w' p x y := (hb.block p hK).trans h
theorem Bx.old {w w' : World} {p : Nat} {x y : Value} (h : Bx w p x y) (hb : Below w.heap.size w w') : Bx w' p x y := h.below hb h.lt
theorem Bx.put {w : World} {p : Nat} {x y : Value} (h : Bx w p x y) (x' y' : Value) : Bx ((w.setCell ⟨p, 0, none⟩ x').setCell ⟨p, 1, none⟩ y') p x' y' := set2 h
theorem Bx.other {w : World} {p q : Nat} {x y : Value} (h : Bx w p x y) (hq : p ≠ q) (i j : Nat) (u v : Value) : Bx ((w.setCell ⟨q, i, none⟩ u).setCell ⟨q, j, none⟩ v) p x y := by
  unfold Bx
  rw [heap_setCell_other _ _ _ _ (by simpa using hq), heap_setCell_other _ _ _ _ (by simpa using hq)]
  exact h
theorem Bx.grown {w w' : World} {p : Nat} {x y : Value} {r : Option Nat} (h : Bx w p x y) (hg : w.grownBy w' r) (hr : some p ≠ r) : Bx w' p x y := (hg.block p h.lt hr).trans h
theorem below_put {K : Nat} {a w : World} (h : Below K a w) {q : Nat} (hq : K ≤ q) (u v : Value) : Below K a ((w.setCell ⟨q, 0, none⟩ u).setCell ⟨q, 1, none⟩ v) := (h.setCell hq u).setCell hq v

theorem ownBlock_len (ao : Option Addr) (n c n' c' : Nat) : (Value.slice ao n c).ownBlock = (Value.slice ao n' c').ownBlock := by cases ao <;> rfl
/-- A slice's length. -/
def lenOf : Value → Nat
  | .slice _ n _ => n
  | _ => 0
theorem OwnsC.len {w : World} {base : Nat} {v : Value} {l : List CC} (h : OwnsC w base v l) : lenOf v = l.length := by
  rcases h.2 with ⟨rfl, h2⟩ | ⟨g, cap, cur, rfl, _⟩
  · exact h2.symm
  · rfl
theorem OwnsC.form {w : World} {base : Nat} {v : Value} {l : List CC} (h : OwnsC w base v l) : ∃ ao cap, v = .slice ao l.length cap := by
  rcases h.2 with ⟨rfl, h2⟩ | ⟨g, cap, cur, rfl, _⟩
  · exact ⟨none, 0, by rw [h2]⟩
  · exact ⟨_, cap, rfl⟩
theorem OwnsC.below {w w' : World} {base : Nat} {v : Value} {l : List CC} (h : OwnsC w base v l) (hb : Below w.heap.size w w') : OwnsC w' base v l :=
  h.kept (row := none) ⟨hb.os, hb.tape, hb.output, hb.size, fun j hj _ => hb.block j hj⟩ (by cases v.ownBlock <;> simp)
theorem OwnsC.mono {w : World} {base base' : Nat} {v : Value} {l : List CC} (h : OwnsC w base v l) (hb : base' ≤ base) : OwnsC w base' v l := by
  refine ⟨h.1, ?_⟩
  rcases h.2 with h2 | ⟨g, cap, cur, h1, h2, r⟩
  · exact .inl h2
  · exact .inr ⟨g, cap, cur, h1, Nat.le_trans hb h2, r⟩
/-- Boxes below what is owned are written. -/
theorem OwnsC.put {w : World} {base : Nat} {v : Value} {l : List CC} (h : OwnsC w base v l) {q : Nat} (hq : q < base) (x y : Value) : OwnsC ((w.setCell ⟨q, 0, none⟩ x).setCell ⟨q, 1, none⟩ y) base v l := by
  refine h.kept (row := some q) ⟨rfl, rfl, rfl, by simp, fun k _ hk => ?_⟩ ?_
  · rw [heap_setCell_other _ _ _ _ (fun e => hk (by rw [e])), heap_setCell_other _ _ _ _ (fun e => hk (by rw [e]))]
  · cases hv : v.ownBlock with
    | none => exact .inl rfl
    | some j => exact .inr fun he => by have := (h.lt j hv).1; have := Option.some.inj he; omega

theorem rt_bad {B : Nat} {rest : List Nat} {c c' n cap : Nat} {ao : Option Addr} {w w' : World} (h : TRun rest c [] c' []) (hc : c' ≠ 0) (hb : Below w.heap.size w w') :
    RTRun B rest c w (.returned (.tuple #[.slice none 0 0, .agg #[.slice ao n cap, .int .i64 (c' : Int)]])) w' :=
  ⟨_, [], ao, n, cap, c', [], rfl, h, World.ownsRow_nil _ _ _ _, fun h0 => absurd h0 hc, hb⟩
theorem trun_stop {rest rest1 fin : List Nat} {n c2 : Nat} {run : List CC} (hn : NumRel rest 0 n rest1 0) (h64 : n ≤ 64) (h : TI n [] none rest1 run c2 fin) (hc : c2 ≠ 0) : TRun rest 0 [] c2 [] :=
  ⟨n, rest1, 0, hn, .inr (.inr ⟨rfl, h64, run, c2, fin, h, rfl, by rw [if_neg hc], by rw [if_neg hc]⟩)⟩
theorem TI.halt {left n : Nat} {last rst rest rest1 : List Nat} {row : Option Nat} {acc : List CC} {a : List CC} {b : List Nat} {r : Option Nat} {d : List Nat} {c2 : Nat} (hn : NumRel rest 0 n rest1 0) (h64 : n ≤ 64)
    (hnext : ∀ run c fin, TI left last row rst run c fin → TI n [] none rest1 (acc ++ run) c fin) (hl : 0 < left) (hi : Item left last row rst a b r d c2) (hc : c2 ≠ 0) : TRun rest 0 [] c2 [] :=
  trun_stop hn h64 (hnext [] c2 [] (.stop hl hi hc)) hc

theorem OwnsC.puts {w : World} {base : Nat} {v : Value} {l : List CC} (h : OwnsC w base v l) {q : Nat} (hq : ∀ j, v.ownBlock = some j → j ≠ q) (x y : Value) : OwnsC ((w.setCell ⟨q, 0, none⟩ x).setCell ⟨q, 1, none⟩ y) base v l := by
  refine h.kept (row := some q) ⟨rfl, rfl, rfl, by simp, fun k _ hk => ?_⟩ ?_
  · rw [heap_setCell_other _ _ _ _ (fun e => hk (by rw [e])), heap_setCell_other _ _ _ _ (fun e => hk (by rw [e]))]
  · cases hv : v.ownBlock with
    | none => exact .inl rfl
    | some j => exact .inr fun he => hq j hv (Option.some.inj he)

/-- What stands between two steps of a data item: the box at p, the box of what is read at q. -/
structure Mid (w : World) (B p q base : Nat) (U : World) (out : Value) (acc : List CC) (r1 r2 : Value) (c1 c2 : Value) : Prop where
  owns : OwnsC U base out acc
  bx1 : Bx U p r1 c1
  bxq : Bx U q r2 c2
  bx3 : Bx U (p + 1) (.slice none 0 0) (.int .i64 0)
  bel : Below w.heap.size w U
  siz : base ≤ U.heap.size
  far : ∀ j, out.ownBlock = some j → j ≠ q

/-- Behind a call that made only new blocks, and a put into the box of what is read. -/
theorem Mid.next {w : World} {B p q base : Nat} {U U1 : World} {out : Value} {acc : List CC} {r1 r2 c1 c2 : Value} (h : Mid w B p q base U out acc r1 r2 c1 c2) (hb : Below U.heap.size U U1) (hp : p ≠ q) (hp3 : p + 1 ≠ q) (hw : w.heap.size ≤ q) (x y : Value) :
    Mid w B p q base ((U1.setCell ⟨q, 0, none⟩ x).setCell ⟨q, 1, none⟩ y) out acc r1 x c1 y :=
  ⟨(h.owns.below hb).puts h.far _ _, (h.bx1.old hb).other hp _ _ _ _, (h.bxq.old hb).put _ _, (h.bx3.old hb).other hp3 _ _ _ _, below_put (h.bel.trans (hb.mono h.bel.size)) hw _ _, by have := h.siz; have := hb.size; simp; omega, h.far⟩

/-- What the loop keeps. -/
structure Keep (w : World) (B p n base : Nat) (rest1 : List Nat) (wr : World) (out lastv rowv : Value) (acc : List CC) (last : List Nat) (row : Option Nat) (rst : List Nat) (ao : Option Addr) (cap : Nat) : Prop where
  owns : OwnsC wr base out acc
  lastv : lastv = .string (S8 last)
  rowv : rowv = .int .i64 (rowI row)
  len : acc.length ≤ n
  last64 : last.length ≤ 64
  last8 : ∀ y ∈ last, y < 256
  rst8 : ∀ y ∈ rst, y < 256
  rd : RdU wr B (.slice ao rst.length cap) rst
  bx1 : Bx wr p (.slice ao rst.length cap) (.int .i64 0)
  bx3 : Bx wr (p + 1) (.slice none 0 0) (.int .i64 0)
  bel : Below w.heap.size w wr
  siz : base ≤ wr.heap.size
  next : ∀ run c fin, TI (n - acc.length) last row rst run c fin → TI n [] none rest1 (acc ++ run) c fin

end Go.Proofs.YtiaijpknnomlnaaGreat

namespace Go.Proofs.YtiaijpknnomlnaaGreat
open Go.RowKit

/-- A cell, taken: the kind, the bytes, the error, what is left. -/
def TCell (rest : List Nat) (c : Nat) (k : Nat) (d : List Nat) (c' : Nat) (fin : List Nat) : Prop :=
  ∃ n r1 c1, NumRel rest c n r1 c1 ∧
    ((n ≠ 1 ∧ ((withinC n c1 3 ≠ 0 ∧ k = 0 ∧ d = [] ∧ c' = withinC n c1 3 ∧ fin = []) ∨ (withinC n c1 3 = 0 ∧ k = n ∧ d = [] ∧ c' = 0 ∧ fin = r1))) ∨
     (n = 1 ∧ ∃ m r2 c2 out r3 c3, NumRel r1 c1 m r2 c2 ∧ FixRel r2 (manyC m c2 64) (manyR m 64 : Nat) out r3 c3 ∧
       ((c3 ≠ 0 ∧ k = 0 ∧ d = [] ∧ c' = c3 ∧ fin = []) ∨ (c3 = 0 ∧ k = 1 ∧ d = out ∧ c' = 0 ∧ fin = r3))))

theorem TCell.unique {rest : List Nat} {c k k' : Nat} {d d' : List Nat} {e e' : Nat} {fin fin' : List Nat} (h : TCell rest c k d e fin) (h' : TCell rest c k' d' e' fin') : k = k' ∧ d = d' ∧ e = e' ∧ fin = fin' := by
  obtain ⟨n, r1, c1, hn, h⟩ := h
  obtain ⟨n', r1', c1', hn', h'⟩ := h'
  obtain ⟨rfl, rfl, rfl⟩ := hn.unique hn'
  rcases h with ⟨h1, h⟩ | ⟨h1, m, r2, c2, out, r3, c3, hm, hf, h⟩ <;> rcases h' with ⟨g1, g⟩ | ⟨g1, m', r2', c2', out', r3', c3', hm', hf', g⟩ <;> first | omega | skip
  · rcases h with ⟨a, rfl, rfl, rfl, rfl⟩ | ⟨a, rfl, rfl, rfl, rfl⟩ <;> rcases g with ⟨b, rfl, rfl, rfl, rfl⟩ | ⟨b, rfl, rfl, rfl, rfl⟩ <;> first | exact ⟨rfl, rfl, rfl, rfl⟩ | omega
  · obtain ⟨rfl, rfl, rfl⟩ := hm.unique hm'
    obtain ⟨rfl, rfl, rfl⟩ := hf.unique hf'
    rcases h with ⟨a, rfl, rfl, rfl, rfl⟩ | ⟨a, rfl, rfl, rfl, rfl⟩ <;> rcases g with ⟨b, rfl, rfl, rfl, rfl⟩ | ⟨b, rfl, rfl, rfl, rfl⟩ <;> first | exact ⟨rfl, rfl, rfl, rfl⟩ | omega

/-- What the document's Take answers. -/
def RTCell (B : Nat) (rest : List Nat) (c : Nat) (w : World) (e : Ending) (w' : World) : Prop :=
  ∃ (k : Nat) (d : List Nat) (ao : Option Addr) (n cap : Nat) (c' : Nat) (fin : List Nat), e = .returned (.tuple #[.agg #[.int .i64 (k : Int), .string (S8 d)], .agg #[.slice ao n cap, .int .i64 (c' : Int)]]) ∧ TCell rest c k d c' fin ∧
    (c' = 0 → n = fin.length ∧ RdU w' B (.slice ao n cap) fin) ∧ Below w.heap.size w w'

set_option maxHeartbeats 4000000 in
set_option maxRecDepth 100000 in
theorem rtcell_any (B : Nat) (ao : Option Addr) (cap : Nat) (rest : List Nat) (c : Nat) (w : World) (hBs : B ≤ w.heap.size) (hru : RdU w B (.slice ao rest.length cap) rest) (hb : ∀ y ∈ rest, y < 256) :
    Calls Tryz.prog 39 #[.agg #[.slice ao rest.length cap, .int .i64 (c : Int)]] w (RTCell B rest c w) := by
  have hn0 : Below w.heap.size w (((w.alloc (.cells #[.slice ao rest.length cap, .int .i64 (c : Int)] 75)).alloc (.cells #[.int .i64 0, .string { data := #[] }] 89)).alloc (.cells #[.slice none 0 0, .int .i64 0] 75)) := (((Below.refl _ _).alloc (Nat.le_refl _) _).alloc (by simp) _).alloc (by simp; omega) _
  have hru0 := hru.below (hn0.mono hBs)
  have HN0 := Lib.hid hn0
  clear hn0 hru
  go_enter Tryz.func39, Tryz.ntmps39
  go_wp2_with fail
  refine (rwithin_any B ao cap rest c 3 _ (by have := HN0.out.size; simp; omega) hru0 hb).mono ?_
  rintro e w1 ⟨n, ao1, cap1, rest1, c1, rfl, hn, hr1, hb1⟩
  obtain ⟨W3, hW3⟩ : ∃ W3, W3 = ((w.alloc (.cells #[.slice ao rest.length cap, .int .i64 (c : Int)] 75)).alloc (.cells #[.int .i64 0, .string { data := #[] }] 89)).alloc (.cells #[.slice none 0 0, .int .i64 0] 75) := ⟨_, rfl⟩
  have q1 : W3.heap[w.heap.size]? = some (.cells #[.slice ao rest.length cap, .int .i64 (c : Int)] 75 (0, 0)) := by
    rw [hW3, Below.heap_alloc _ _ _ (by simp; omega), Below.heap_alloc _ _ _ (by simp)]; exact heap_alloc_new _ _
  have q2 : W3.heap[w.heap.size + 1]? = some (.cells #[.int .i64 0, .string { data := #[] }] 89 (0, 0)) := by
    rw [hW3, Below.heap_alloc _ _ _ (by simp)]
    have := heap_alloc_new (w.alloc (.cells #[.slice ao rest.length cap, .int .i64 (c : Int)] 75)) (.cells #[.int .i64 0, .string { data := #[] }] 89)
    simpa using this
  have q3 : W3.heap[w.heap.size + 1 + 1]? = some (.cells #[.slice none 0 0, .int .i64 0] 75 (0, 0)) := by
    have := heap_alloc_new ((w.alloc (.cells #[.slice ao rest.length cap, .int .i64 (c : Int)] 75)).alloc (.cells #[.int .i64 0, .string { data := #[] }] 89)) (.cells #[.slice none 0 0, .int .i64 0] 75)
    rw [hW3]; simpa using this
  rw [← hW3] at hb1
  have HW3 := Lib.hid hW3
  have HB1 : Hid (Below w.heap.size w w1) := Lib.hid (by have := HN0.out; rw [← hW3] at this; exact this.trans (hb1.mono this.size))
  have old : ∀ j o, W3.heap[j]? = some o → w1.heap[j]? = some o := fun j o h => (hb1.block j (Array.getElem?_eq_some_iff.1 h).1).trans h
  have y1 : Bx w1 w.heap.size (.slice ao rest.length cap) (.int .i64 (c : Int)) := old _ _ q1
  have y2 := old _ _ q2
  have y3 : Bx w1 (w.heap.size + 1 + 1) (.slice none 0 0) (.int .i64 0) := old _ _ q3
  have HSZ : Hid (w.heap.size + 1 + 1 < w1.heap.size) := Lib.hid y3.lt
  clear old q1 q2 q3 hW3 hru0 hb1
  obtain ⟨x, hx⟩ : ∃ x, withinR n 3 = x := ⟨_, rfl⟩
  obtain ⟨y, hy⟩ : ∃ y, withinC n c1 3 = y := ⟨_, rfl⟩
  rw [hx, hy]
  obtain ⟨W, hW⟩ : ∃ W, W = (w1.setCell ⟨w.heap.size, 0, none⟩ (.slice ao1 rest1.length cap1)).setCell ⟨w.heap.size, 1, none⟩ (.int .i64 (y : Int)) := ⟨_, rfl⟩
  have hw1 : Bx W w.heap.size (.slice ao1 rest1.length cap1) (.int .i64 (y : Int)) := by rw [hW]; exact y1.put _ _
  have hw3 : Bx W (w.heap.size + 1 + 1) (.slice none 0 0) (.int .i64 0) := by rw [hW]; exact y3.other (by omega) _ _ _ _
  have hw2 : W.heap[w.heap.size + 1]? = some (.cells #[.int .i64 0, .string { data := #[] }] 89 (0, 0)) := by
    rw [hW, heap_setCell_other _ _ _ _ (by simp), heap_setCell_other _ _ _ _ (by simp)]; exact y2
  have hwb : Below w.heap.size w W := by rw [hW]; exact below_put HB1.out (Nat.le_refl _) _ _
  have hwr : RdU W B (.slice ao1 rest1.length cap1) rest1 := by rw [hW]; exact hr1.below (below_put (Below.refl B w1) hBs _ _)
  obtain ⟨a0, a1, a2, a3⟩ := blk2 y1
  have hal : Below W.heap.size W (W.alloc (.cells #[.int .i64 (x : Int), .string { data := #[] }] 89)) := (Below.refl _ _).alloc (Nat.le_refl _) _
  have hz1 := hw1.old hal
  have hz3 := hw3.old hal
  have hz2 : (W.alloc (.cells #[.int .i64 (x : Int), .string { data := #[] }] 89)).heap[w.heap.size + 1]? = _ := (hal.block _ (Array.getElem?_eq_some_iff.1 hw2).1).trans hw2
  have hzn := heap_alloc_new W (.cells #[.int .i64 (x : Int), .string { data := #[] }] 89)
  have hsz : W.heap.size = w1.heap.size := by rw [hW]; simp
  rw [hsz] at hzn
  have HWW := Lib.hid hW
  have HN := Lib.hid hn
  have HXX := Lib.hid hx
  have HYY := Lib.hid hy
  have HWB := Lib.hid (hwb.trans (hal.mono hwb.size))
  have HWR := Lib.hid (hwr.below (hal.mono (Nat.le_trans hBs hwb.size)))
  have HZ1 := Lib.hid hz1
  have HZ2 := Lib.hid hz2
  have HZ3 := Lib.hid hz3
  have HZN := Lib.hid hzn
  clear hw1 hw2 hw3 hwb hwr hal hz1 hz2 hz3 hzn hW hn hx hy y1 y2 y3 hr1 hsz
  by_cases hn1 : n = 1
  · subst hn1
    have hc1 : c1 = 0 := by
      rcases HN.out with ⟨_, h, _⟩ | ⟨_, _, _, h⟩ | ⟨_, h, _⟩
      · omega
      · exact h
      · omega
    subst hc1
    obtain rfl : x = 1 := by rw [← HXX.out]; unfold withinR; rw [if_neg (by omega)]
    obtain rfl : y = 0 := by rw [← HYY.out]; exact within_of (by omega)
    have h18 : ∀ y ∈ rest1, y < 256 := by
      intro y hy
      rcases HN.out with ⟨_, h, _⟩ | ⟨_, _, h, _⟩ | ⟨_, h, _⟩
      · omega
      · exact hb y (by rw [h]; simp [hy])
      · omega
    have HW0 : Hid (W = (w1.setCell ⟨w.heap.size, 0, none⟩ (.slice ao1 rest1.length cap1)).setCell ⟨w.heap.size, 1, none⟩ (.int .i64 0)) := HWW
    obtain ⟨V, hV⟩ : ∃ V, V = W.alloc (.cells #[.int .i64 1, .string { data := #[] }] 89) := ⟨_, rfl⟩
    have HV1 : Hid (Bx V w.heap.size (.slice ao1 rest1.length cap1) (.int .i64 0)) := Lib.hid (by rw [hV]; exact HZ1.out)
    have HV2 : Hid (V.heap[w.heap.size + 1]? = some (.cells #[.int .i64 0, .string { data := #[] }] 89 (0, 0))) := Lib.hid (by rw [hV]; exact HZ2.out)
    have HV3 : Hid (Bx V (w.heap.size + 1 + 1) (.slice none 0 0) (.int .i64 0)) := Lib.hid (by rw [hV]; exact HZ3.out)
    have HVN : Hid (V.heap[w1.heap.size]? = some (.cells #[.int .i64 1, .string { data := #[] }] 89 (0, 0))) := Lib.hid (by rw [hV]; exact HZN.out)
    have HVB : Hid (Below w.heap.size w V) := Lib.hid (by rw [hV]; exact HWB.out)
    have HVR : Hid (RdU V B (.slice ao1 rest1.length cap1) rest1) := Lib.hid (by rw [hV]; exact HWR.out)
    have HV := Lib.hid hV
    have hz := HZ1.out
    rw [HW0.out] at hz
    have hz' : Bx (((w1.setCell ⟨w.heap.size, 0, none⟩ (.slice ao1 rest1.length cap1)).setCell ⟨w.heap.size, 1, none⟩ (.int .i64 0)).alloc (.cells #[.int .i64 1, .string { data := #[] }] 89)) w.heap.size (.slice ao1 rest1.length cap1) (.int .i64 0) := hz
    obtain ⟨f0, f1, f2, f3⟩ := blk2 hz'
    clear hz hz' hV HZ1 HZ2 HZ3 HZN
    go_wp2_with fail
    rw [← HW0.out, ← HV.out]
    refine (rtext_any B ao1 cap1 rest1 0 64 (by decide) (by decide) V (Nat.le_trans hBs HVB.out.size) HVR.out h18).mono ?_
    rintro e w2 ⟨ov, out, ao2, cap2, rest2, c2, m, r2, d2, rfl, hm2, hf2, hov, hr2, hb2⟩
    obtain ⟨aoV, capV, rfl, _, _, _⟩ := hov.reads.val
    obtain ⟨cI, hcI⟩ : ∃ cI : Int, (c2 : Int) = cI := ⟨_, rfl⟩
    rw [hcI]
    have hVN : w1.heap.size < V.heap.size := (Array.getElem?_eq_some_iff.1 HVN.out).1
    have hs1 := HSZ.out
    have hs2 := hb2.size
    obtain ⟨Y, hY⟩ : ∃ Y, Y = w2.alloc (.cells #[.slice ao2 rest2.length cap2, .int .i64 cI] 75) := ⟨_, rfl⟩
    have hbY : Below w2.heap.size w2 Y := by rw [hY]; exact (Below.refl _ _).alloc (Nat.le_refl _) _
    have ol : ∀ j o, V.heap[j]? = some o → Y.heap[j]? = some o := fun j o h => (hbY.block j (Nat.lt_of_lt_of_le (Array.getElem?_eq_some_iff.1 h).1 hs2)).trans ((hb2.block j (Array.getElem?_eq_some_iff.1 h).1).trans h)
    have p1 : Bx Y w.heap.size (.slice ao1 rest1.length cap1) (.int .i64 0) := ol _ _ HV1.out
    have p2 := ol _ _ HV2.out
    have p3 : Bx Y (w.heap.size + 1 + 1) (.slice none 0 0) (.int .i64 0) := ol _ _ HV3.out
    have pN := ol _ _ HVN.out
    have pq : Bx Y w2.heap.size (.slice ao2 rest2.length cap2) (.int .i64 cI) := by rw [hY]; exact heap_alloc_new _ _
    obtain ⟨X, hX⟩ : ∃ X, X = (Y.setCell ⟨w.heap.size, 0, none⟩ (.slice ao2 rest2.length cap2)).setCell ⟨w.heap.size, 1, none⟩ (.int .i64 cI) := ⟨_, rfl⟩
    have q1 : Bx X w.heap.size (.slice ao2 rest2.length cap2) (.int .i64 cI) := by rw [hX]; exact p1.put _ _
    have q2 : X.heap[w.heap.size + 1]? = some (.cells #[.int .i64 0, .string { data := #[] }] 89 (0, 0)) := by
      rw [hX, heap_setCell_other _ _ _ _ (by simp), heap_setCell_other _ _ _ _ (by simp)]; exact p2
    have q3 : Bx X (w.heap.size + 1 + 1) (.slice none 0 0) (.int .i64 0) := by rw [hX]; exact p3.other (by omega) _ _ _ _
    have qN : X.heap[w1.heap.size]? = some (.cells #[.int .i64 1, .string { data := #[] }] 89 (0, 0)) := by
      rw [hX, heap_setCell_other _ _ _ _ (by simp; omega), heap_setCell_other _ _ _ _ (by simp; omega)]; exact pN
    obtain ⟨Z, hZ⟩ : ∃ Z, Z = X.setCell ⟨w1.heap.size, 1, none⟩ (.string (S8 out)) := ⟨_, rfl⟩
    have z1 : Bx Z w.heap.size (.slice ao2 rest2.length cap2) (.int .i64 cI) := by
      unfold Bx; rw [hZ, heap_setCell_other _ _ _ _ (by simp; omega)]; exact q1
    have z2 : Z.heap[w.heap.size + 1]? = some (.cells #[.int .i64 0, .string { data := #[] }] 89 (0, 0)) := by
      rw [hZ, heap_setCell_other _ _ _ _ (by simp; omega)]; exact q2
    have z3 : Bx Z (w.heap.size + 1 + 1) (.slice none 0 0) (.int .i64 0) := by
      unfold Bx; rw [hZ, heap_setCell_other _ _ _ _ (by simp; omega)]; exact q3
    have zN : Z.heap[w1.heap.size]? = some (.cells #[.int .i64 1, .string (S8 out)] 89 (0, 0)) := by
      rw [hZ, heap_setCell_same _ _ _ _ _ _ qN]; rfl
    have bX : ∀ K a, Below K a w2 → K ≤ w.heap.size → Below K a X := fun K a h hK => by
      rw [hX, hY]; exact below_put (h.alloc (by omega) _) hK _ _
    have bZ : ∀ K a, Below K a w2 → K ≤ w.heap.size → Below K a Z := fun K a h hK => by
      rw [hZ]; exact (bX K a h hK).setCell (by simp; omega) _
    have HZB : Hid (Below w.heap.size w Z) := Lib.hid (bZ _ _ (HVB.out.trans (hb2.mono HVB.out.size)) (Nat.le_refl _))
    have HZR : Hid (RdU Z B (.slice ao2 rest2.length cap2) rest2) := Lib.hid (hr2.below (bZ _ _ (Below.refl _ _) hBs))
    have hcv : (convert 22 9 (.slice aoV out.length capV)).run Tryz.prog X = .ok (.string (S8 out)) X := conv_reads _ out X (hov.below (bX _ _ (Below.refl _ _) hBs)).reads
    have HSX := Lib.hid hs1
    have HQN := Lib.hid qN
    clear qN
    have HZ1 := Lib.hid z1
    have HZ2 := Lib.hid z2
    have HZ3 := Lib.hid z3
    have HZN := Lib.hid zN
    have HM2 := Lib.hid hm2
    have HF2 := Lib.hid hf2
    have HCI := Lib.hid hcI
    have HVS : Hid (w1.heap.size < w2.heap.size) := Lib.hid (by omega)
    clear f0 f1 f2 f3 ol p2 p3 q1 q2 q3 z1 z2 z3 zN bX bZ hm2 hf2 hcI hs1 hs2 hbY hb2 hVN hov hr2 pN a0 a1 a2 a3
    have HY := Lib.hid hY
    have HX := Lib.hid hX
    have HZ := Lib.hid hZ
    clear hY hX hZ
    by_cases hc0 : c2 = 0
    · subst hc0
      obtain rfl : cI = 0 := HCI.out.symm
      have HE : Hid (TCell rest c 1 out 0 rest2) := Lib.hid ⟨1, rest1, 0, HN.out, .inr ⟨rfl, m, r2, d2, out, rest2, 0, HM2.out, HF2.out, .inr ⟨rfl, rfl, rfl, rfl, rfl⟩⟩⟩
      have zz := HZ1.out
      have pp := p1
      have qq := pq
      have nn := HQN.out
      rw [HZ.out, HX.out, HY.out] at zz
      rw [HX.out, HY.out] at nn hcv
      rw [HY.out] at pp qq
      obtain ⟨f0, f1, f2, f3⟩ := blk2 pp
      obtain ⟨g0, g1, g2, g3⟩ := blk2 qq
      obtain ⟨h0, h1, h2, h3⟩ := blk2 nn
      obtain ⟨k0, k1, k2, k3⟩ := blk2 zz
      clear pp qq nn zz p1 pq
      go_wp2_with fail
      rw [← HY.out, ← HX.out, ← HZ.out]
      clear f0 f1 f2 f3 g0 g1 g2 g3 h0 h1 h2 h3 k0 k1 k2 k3
      obtain ⟨r0, r1, r2, r3⟩ := blk2 HZ2.out
      obtain ⟨t0, t1, t2, t3⟩ := blk2 HZ3.out
      obtain ⟨l0, l1, l2, l3⟩ := blk2 HZN.out
      obtain ⟨g0, g1, g2, g3⟩ := blk2 HZ1.out
      go_region
      all_goals go_wp2
      all_goals exact bodyPost_ret (v := .tuple #[.agg #[.int .i64 1, .string (S8 out)], .agg #[.slice ao2 rest2.length cap2, .int .i64 0]]) (by simp [results, Tryz.results39, go_sem, r0, r1, t0, t1]) rfl ⟨1, out, ao2, rest2.length, cap2, 0, rest2, rfl, HE.out, fun _ => ⟨rfl, HZR.out.below (by first | exact (below_put (below_put (Below.refl B _) (by omega) _ _) (by omega) _ _).drew | exact below_put (below_put (Below.refl B _) (by omega) _ _) (by omega) _ _ | exact below_put (below_put (Below.refl B _).drew (by omega) _ _) (by omega) _ _)⟩, by first | exact (below_put (below_put HZB.out (by omega) _ _) (by omega) _ _).drew | exact below_put (below_put HZB.out (by omega) _ _) (by omega) _ _ | exact below_put (below_put HZB.out.drew (by omega) _ _) (by omega) _ _⟩
    · have hyi : (cI != 0) = true := by rw [bne_iff_ne, ← HCI.out]; omega
      have HE : Hid (TCell rest c 0 [] c2 []) := Lib.hid ⟨1, rest1, 0, HN.out, .inr ⟨rfl, m, r2, d2, out, rest2, c2, HM2.out, HF2.out, .inl ⟨hc0, rfl, rfl, rfl, rfl⟩⟩⟩
      have HC0 := Lib.hid hc0
      clear hc0
      have zz := HZ1.out
      have pp := p1
      have qq := pq
      have nn := HQN.out
      rw [HZ.out, HX.out, HY.out] at zz
      rw [HX.out, HY.out] at nn hcv
      rw [HY.out] at pp qq
      obtain ⟨f0, f1, f2, f3⟩ := blk2 pp
      obtain ⟨g0, g1, g2, g3⟩ := blk2 qq
      obtain ⟨h0, h1, h2, h3⟩ := blk2 nn
      obtain ⟨k0, k1, k2, k3⟩ := blk2 zz
      clear pp qq nn zz p1 pq
      go_wp2_with fail
      rw [← HY.out, ← HX.out, ← HZ.out]
      clear f0 f1 f2 f3 g0 g1 g2 g3 h0 h1 h2 h3 k0 k1 k2 k3
      obtain ⟨r0, r1, r2, r3⟩ := blk2 HZ2.out
      obtain ⟨t0, t1, t2, t3⟩ := blk2 HZ3.out
      obtain ⟨l0, l1, l2, l3⟩ := blk2 HZN.out
      obtain ⟨g0, g1, g2, g3⟩ := blk2 HZ1.out
      go_region
      all_goals go_wp2
      all_goals exact bodyPost_ret (v := .tuple #[.agg #[.int .i64 0, .string { data := #[] }], .agg #[.slice ao2 rest2.length cap2, .int .i64 cI]]) (by simp [results, Tryz.results39, go_sem, r0, r1, t0, t1]) rfl ⟨0, [], ao2, rest2.length, cap2, c2, [], by rw [HCI.out]; rfl, HE.out, fun h => absurd h HC0.out, by first | exact (below_put (below_put HZB.out (by omega) _ _) (by omega) _ _).drew | exact below_put (below_put HZB.out (by omega) _ _) (by omega) _ _ | exact below_put (below_put HZB.out.drew (by omega) _ _) (by omega) _ _⟩
  · have hx1 : x ≠ 1 := by
      rw [← HXX.out]; unfold withinR; split <;> omega
    have hxi : ((x : Int) == 1) = false := by rw [beq_eq_false_iff_ne]; omega
    by_cases hy0 : y = 0
    · subst hy0
      have hc1 : c1 = 0 ∧ n ≤ 3 := within_three HYY.out
      obtain ⟨rfl, hn3⟩ := hc1
      obtain rfl : x = n := by rw [← HXX.out]; unfold withinR; rw [if_neg (by omega)]
      have HE : Hid (TCell rest c x [] 0 rest1) := Lib.hid ⟨x, rest1, 0, HN.out, .inl ⟨hn1, .inr ⟨HYY.out, rfl, rfl, rfl, rfl⟩⟩⟩
      have HW0 : Hid (W = (w1.setCell ⟨w.heap.size, 0, none⟩ (.slice ao1 rest1.length cap1)).setCell ⟨w.heap.size, 1, none⟩ (.int .i64 0)) := HWW
      have hz : Bx (W.alloc (.cells #[.int .i64 (x : Int), .string { data := #[] }] 89)) w.heap.size (.slice ao1 rest1.length cap1) (.int .i64 0) := HZ1.out
      obtain ⟨g0, g1, g2, g3⟩ := blk2 hz
      rw [HW0.out] at hz
      obtain ⟨f0, f1, f2, f3⟩ := blk2 hz
      clear hz hx1
      go_wp2_with fail
      rw [← HW0.out]
      obtain ⟨r0, r1, r2, r3⟩ := blk2 HZ2.out
      obtain ⟨t0, t1, t2, t3⟩ := blk2 HZ3.out
      obtain ⟨l0, l1, l2, l3⟩ := blk2 HZN.out
      clear f0 f1 f2 f3
      go_region
      all_goals go_wp2
      all_goals exact bodyPost_ret (v := .tuple #[.agg #[.int .i64 (x : Int), .string { data := #[] }], .agg #[.slice ao1 rest1.length cap1, .int .i64 0]]) (by simp [results, Tryz.results39, go_sem, r0, r1, t0, t1]) rfl ⟨x, [], ao1, rest1.length, cap1, 0, rest1, rfl, HE.out, fun _ => ⟨rfl, HWR.out.below (by first | exact (below_put (below_put (Below.refl B _) (by omega) _ _) (by omega) _ _).drew | exact below_put (below_put (Below.refl B _) (by omega) _ _) (by omega) _ _ | exact below_put (below_put (Below.refl B _).drew (by omega) _ _) (by omega) _ _)⟩, by first | exact (below_put (below_put HWB.out (by omega) _ _) (by omega) _ _).drew | exact below_put (below_put HWB.out (by omega) _ _) (by omega) _ _ | exact below_put (below_put HWB.out.drew (by omega) _ _) (by omega) _ _⟩
    · have hyi : ((y : Int) != 0) = true := by rw [bne_iff_ne]; omega
      have HE : Hid (TCell rest c 0 [] y []) := Lib.hid ⟨n, rest1, c1, HN.out, .inl ⟨hn1, .inl ⟨by rw [HYY.out]; exact hy0, rfl, rfl, HYY.out.symm, rfl⟩⟩⟩
      have HY0 := Lib.hid hy0
      clear hy0 hx1
      have hz := HZ1.out
      rw [HWW.out] at hz
      obtain ⟨f0, f1, f2, f3⟩ := blk2 hz
      clear hz
      go_wp2_with fail
      rw [← HWW.out]
      obtain ⟨g0, g1, g2, g3⟩ := blk2 HZ1.out
      obtain ⟨r0, r1, r2, r3⟩ := blk2 HZ2.out
      obtain ⟨t0, t1, t2, t3⟩ := blk2 HZ3.out
      clear f0 f1 f2 f3
      go_region
      all_goals go_wp2
      all_goals exact bodyPost_ret (v := .tuple #[.agg #[.int .i64 0, .string { data := #[] }], .agg #[.slice ao1 rest1.length cap1, .int .i64 (y : Int)]]) (by simp [results, Tryz.results39, go_sem, r0, r1, t0, t1]) rfl ⟨0, [], ao1, rest1.length, cap1, y, [], rfl, HE.out, fun h => absurd h HY0.out, by first | exact (below_put (below_put HWB.out (by omega) _ _) (by omega) _ _).drew | exact below_put (below_put HWB.out (by omega) _ _) (by omega) _ _ | exact below_put (below_put HWB.out.drew (by omega) _ _) (by omega) _ _⟩

end Go.Proofs.YtiaijpknnomlnaaGreat
