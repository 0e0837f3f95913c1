/- The contract of the document's own TakeRun. -/
import Derived.Test.YtbihammpdjkonaaCelC
namespace Go.Proofs.Ytbihammpdjkonaa
open Go.RowKit

/-- The kind of the row just ahead, as a number. -/
def rowI : Option Nat → Int
  | none => -1
  | some k => (k : Int)

/-- What the document's TakeRun answers. -/
def RTRun (B : Nat) (rest : List Nat) (c : Nat) (w : World) (e : Ending) (w' : World) : Prop :=
  ∃ (ov : Value) (run : List CC) (ao : Option Addr) (n cap : Nat) (c' : Nat) (fin : List Nat), e = .returned (.tuple #[ov, .agg #[.slice ao n cap, .int .i64 (c' : Int)]]) ∧ TRun rest c run c' fin ∧
    OwnsC w' w.heap.size ov run ∧ (c' = 0 → n = fin.length ∧ RdU w' B (.slice ao n cap) fin) ∧ Below w.heap.size w w'

/-- A box of a reader. -/
def Bx (w : World) (p : Nat) (x y : Value) : Prop := w.heap[p]? = some (.cells #[x, y] 57 (0, 0))
theorem Bx.lt {w : World} {p : Nat} {x y : Value} (h : Bx w p x y) : p < w.heap.size := (Array.getElem?_eq_some_iff.1 h).1
theorem Bx.below {w w' : World} {K p : Nat} {x y : Value} (h : Bx w p x y) (hb : Below K w w') (hK : p < K) : Bx w' p x y := (hb.block p hK).trans h
theorem Bx.old {w w' : World} {p : Nat} {x y : Value} (h : Bx w p x y) (hb : Below w.heap.size w w') : Bx w' p x y := h.below hb h.lt
theorem Bx.put {w : World} {p : Nat} {x y : Value} (h : Bx w p x y) (x' y' : Value) : Bx ((w.setCell ⟨p, 0, none⟩ x').setCell ⟨p, 1, none⟩ y') p x' y' := set2 h
theorem Bx.other {w : World} {p q : Nat} {x y : Value} (h : Bx w p x y) (hq : p ≠ q) (i j : Nat) (u v : Value) : Bx ((w.setCell ⟨q, i, none⟩ u).setCell ⟨q, j, none⟩ v) p x y := by
  unfold Bx
  rw [heap_setCell_other _ _ _ _ (by simpa using hq), heap_setCell_other _ _ _ _ (by simpa using hq)]
  exact h
theorem Bx.grown {w w' : World} {p : Nat} {x y : Value} {r : Option Nat} (h : Bx w p x y) (hg : w.grownBy w' r) (hr : some p ≠ r) : Bx w' p x y := (hg.block p h.lt hr).trans h
theorem below_put {K : Nat} {a w : World} (h : Below K a w) {q : Nat} (hq : K ≤ q) (u v : Value) : Below K a ((w.setCell ⟨q, 0, none⟩ u).setCell ⟨q, 1, none⟩ v) := (h.setCell hq u).setCell hq v

theorem ownBlock_len (ao : Option Addr) (n c n' c' : Nat) : (Value.slice ao n c).ownBlock = (Value.slice ao n' c').ownBlock := by cases ao <;> rfl
/-- A slice's length. -/
def lenOf : Value → Nat
  | .slice _ n _ => n
  | _ => 0
theorem OwnsC.len {w : World} {base : Nat} {v : Value} {l : List CC} (h : OwnsC w base v l) : lenOf v = l.length := by
  rcases h.2 with ⟨rfl, h2⟩ | ⟨g, cap, cur, rfl, _⟩
  · exact h2.symm
  · rfl
theorem OwnsC.form {w : World} {base : Nat} {v : Value} {l : List CC} (h : OwnsC w base v l) : ∃ ao cap, v = .slice ao l.length cap := by
  rcases h.2 with ⟨rfl, h2⟩ | ⟨g, cap, cur, rfl, _⟩
  · exact ⟨none, 0, by rw [h2]⟩
  · exact ⟨_, cap, rfl⟩
theorem OwnsC.below {w w' : World} {base : Nat} {v : Value} {l : List CC} (h : OwnsC w base v l) (hb : Below w.heap.size w w') : OwnsC w' base v l :=
  h.kept (row := none) ⟨hb.os, hb.tape, hb.output, hb.size, fun j hj _ => hb.block j hj⟩ (by cases v.ownBlock <;> simp)
theorem OwnsC.mono {w : World} {base base' : Nat} {v : Value} {l : List CC} (h : OwnsC w base v l) (hb : base' ≤ base) : OwnsC w base' v l := by
  refine ⟨h.1, ?_⟩
  rcases h.2 with h2 | ⟨g, cap, cur, h1, h2, r⟩
  · exact .inl h2
  · exact .inr ⟨g, cap, cur, h1, Nat.le_trans hb h2, r⟩
/-- Boxes below what is owned are written. -/
theorem OwnsC.put {w : World} {base : Nat} {v : Value} {l : List CC} (h : OwnsC w base v l) {q : Nat} (hq : q < base) (x y : Value) : OwnsC ((w.setCell ⟨q, 0, none⟩ x).setCell ⟨q, 1, none⟩ y) base v l := by
  refine h.kept (row := some q) ⟨rfl, rfl, rfl, by simp, fun k _ hk => ?_⟩ ?_
  · rw [heap_setCell_other _ _ _ _ (fun e => hk (by rw [e])), heap_setCell_other _ _ _ _ (fun e => hk (by rw [e]))]
  · cases hv : v.ownBlock with
    | none => exact .inl rfl
    | some j => exact .inr fun he => by have := (h.lt j hv).1; have := Option.some.inj he; omega

theorem rt_bad {B : Nat} {rest : List Nat} {c c' n cap : Nat} {ao : Option Addr} {w w' : World} (h : TRun rest c [] c' []) (hc : c' ≠ 0) (hb : Below w.heap.size w w') :
    RTRun B rest c w (.returned (.tuple #[.slice none 0 0, .agg #[.slice ao n cap, .int .i64 (c' : Int)]])) w' :=
  ⟨_, [], ao, n, cap, c', [], rfl, h, World.ownsRow_nil _ _ _ _, fun h0 => absurd h0 hc, hb⟩
theorem trun_stop {rest rest1 fin : List Nat} {n c2 : Nat} {run : List CC} (hn : NumRel rest 0 n rest1 0) (h64 : n ≤ 64) (h : TI n [] none rest1 run c2 fin) (hc : c2 ≠ 0) : TRun rest 0 [] c2 [] :=
  ⟨n, rest1, 0, hn, .inr (.inr ⟨rfl, h64, run, c2, fin, h, rfl, by rw [if_neg hc], by rw [if_neg hc]⟩)⟩
theorem TI.halt {left n : Nat} {last rst rest rest1 : List Nat} {row : Option Nat} {acc : List CC} {a : List CC} {b : List Nat} {r : Option Nat} {d : List Nat} {c2 : Nat} (hn : NumRel rest 0 n rest1 0) (h64 : n ≤ 64)
    (hnext : ∀ run c fin, TI left last row rst run c fin → TI n [] none rest1 (acc ++ run) c fin) (hl : 0 < left) (hi : Item left last row rst a b r d c2) (hc : c2 ≠ 0) : TRun rest 0 [] c2 [] :=
  trun_stop hn h64 (hnext [] c2 [] (.stop hl hi hc)) hc

theorem OwnsC.puts {w : World} {base : Nat} {v : Value} {l : List CC} (h : OwnsC w base v l) {q : Nat} (hq : ∀ j, v.ownBlock = some j → j ≠ q) (x y : Value) : OwnsC ((w.setCell ⟨q, 0, none⟩ x).setCell ⟨q, 1, none⟩ y) base v l := by
  refine h.kept (row := some q) ⟨rfl, rfl, rfl, by simp, fun k _ hk => ?_⟩ ?_
  · rw [heap_setCell_other _ _ _ _ (fun e => hk (by rw [e])), heap_setCell_other _ _ _ _ (fun e => hk (by rw [e]))]
  · cases hv : v.ownBlock with
    | none => exact .inl rfl
    | some j => exact .inr fun he => hq j hv (Option.some.inj he)

/-- What stands between two steps of a data item: the box at p, the box of what is read at q. -/
structure Mid (w : World) (B p q base : Nat) (U : World) (out : Value) (acc : List CC) (r1 r2 : Value) (c1 c2 : Value) : Prop where
  owns : OwnsC U base out acc
  bx1 : Bx U p r1 c1
  bxq : Bx U q r2 c2
  bx3 : Bx U (p + 1) (.slice none 0 0) (.int .i64 0)
  bel : Below w.heap.size w U
  siz : base ≤ U.heap.size
  far : ∀ j, out.ownBlock = some j → j ≠ q

/-- Behind a call that made only new blocks, and a put into the box of what is read. -/
theorem Mid.next {w : World} {B p q base : Nat} {U U1 : World} {out : Value} {acc : List CC} {r1 r2 c1 c2 : Value} (h : Mid w B p q base U out acc r1 r2 c1 c2) (hb : Below U.heap.size U U1) (hp : p ≠ q) (hp3 : p + 1 ≠ q) (hw : w.heap.size ≤ q) (x y : Value) :
    Mid w B p q base ((U1.setCell ⟨q, 0, none⟩ x).setCell ⟨q, 1, none⟩ y) out acc r1 x c1 y :=
  ⟨(h.owns.below hb).puts h.far _ _, (h.bx1.old hb).other hp _ _ _ _, (h.bxq.old hb).put _ _, (h.bx3.old hb).other hp3 _ _ _ _, below_put (h.bel.trans (hb.mono h.bel.size)) hw _ _, by have := h.siz; have := hb.size; simp; omega, h.far⟩

/-- What the loop keeps. -/
structure Keep (w : World) (B p n base : Nat) (rest1 : List Nat) (wr : World) (out lastv rowv : Value) (acc : List CC) (last : List Nat) (row : Option Nat) (rst : List Nat) (ao : Option Addr) (cap : Nat) : Prop where
  owns : OwnsC wr base out acc
  lastv : lastv = .string (S8 last)
  rowv : rowv = .int .i64 (rowI row)
  len : acc.length ≤ n
  last64 : last.length ≤ 64
  last8 : ∀ y ∈ last, y < 256
  rst8 : ∀ y ∈ rst, y < 256
  rd : RdU wr B (.slice ao rst.length cap) rst
  bx1 : Bx wr p (.slice ao rst.length cap) (.int .i64 0)
  bx3 : Bx wr (p + 1) (.slice none 0 0) (.int .i64 0)
  bel : Below w.heap.size w wr
  siz : base ≤ wr.heap.size
  next : ∀ run c fin, TI (n - acc.length) last row rst run c fin → TI n [] none rest1 (acc ++ run) c fin

set_option maxHeartbeats 4000000 in
set_option maxRecDepth 100000 in
theorem rtrun_any (B : Nat) (ao : Option Addr) (cap : Nat) (rest : List Nat) (c : Nat) (w : World) (hBs : B ≤ w.heap.size) (hru : RdU w B (.slice ao rest.length cap) rest) (hb : ∀ y ∈ rest, y < 256) :
    Calls Try.prog 34 #[.agg #[.slice ao rest.length cap, .int .i64 (c : Int)]] w (RTRun B rest c w) := by
  have hn0 : Below w.heap.size w ((w.alloc (.cells #[.slice ao rest.length cap, .int .i64 (c : Int)] 57)).alloc (.cells #[.slice none 0 0, .int .i64 0] 57)) := ((Below.refl _ _).alloc (Nat.le_refl _) _).alloc (by simp) _
  have hru0 := hru.below (hn0.mono hBs)
  have HRU := Lib.hid hru
  have HN0 := Lib.hid hn0
  clear hn0 hru
  go_enter Try.func34, Try.ntmps34
  go_wp2_with fail
  refine (rnumber_any B ao cap rest c _ (by have := HN0.out.size; simp; omega) hru0 hb).mono ?_
  rintro e w1 ⟨n, ao1, cap1, rest1, c1, rfl, hn, hr1, hb1⟩
  obtain ⟨y1, y2⟩ := new2 hb1
  have HB1 : Hid (Below w.heap.size w w1) := Lib.hid (HN0.out.trans (hb1.mono HN0.out.size))
  obtain ⟨a0, a1, a2, a3⟩ := blk2 y1
  obtain ⟨W, hW⟩ : ∃ W, W = (w1.setCell ⟨w.heap.size, 0, none⟩ (.slice ao1 rest1.length cap1)).setCell ⟨w.heap.size, 1, none⟩ (.int .i64 (c1 : Int)) := ⟨_, rfl⟩
  have HWW := Lib.hid hW
  have hx1 : Bx W w.heap.size (.slice ao1 rest1.length cap1) (.int .i64 (c1 : Int)) := by rw [hW]; exact Bx.put y1 _ _
  have hx3 : Bx W (w.heap.size + 1) (.slice none 0 0) (.int .i64 0) := by rw [hW]; exact Bx.other y2 (by omega) _ _ _ _
  have hbw : Below w.heap.size w W := by rw [hW]; exact below_put HB1.out (Nat.le_refl _) _ _
  have hrw : RdU W B (.slice ao1 rest1.length cap1) rest1 := by rw [hW]; exact hr1.below (below_put (Below.refl B w1) hBs _ _)
  have HX1 := Lib.hid hx1
  have HX3 := Lib.hid hx3
  have HBW := Lib.hid hbw
  have HRW := Lib.hid hrw
  have HN := Lib.hid hn
  clear hn hr1 hb1 hru0 y1 y2 hx1 hx3 hbw hrw hW HB1
  by_cases hc1 : c1 = 0
  · subst hc1
    have hc0 : c = 0 := by
      rcases HN.out with ⟨h1, _, _, h2⟩ | ⟨h1, _⟩ | ⟨h1, _⟩
      · exact absurd h2.symm h1
      · exact h1
      · exact h1
    have HC0 := Lib.hid hc0
    have HN0 : Hid (NumRel rest 0 n rest1 0) := Lib.hid (by have := HN.out; rw [HC0.out] at this; exact this)
    clear hc0
    have HW0 : Hid (W = (w1.setCell ⟨w.heap.size, 0, none⟩ (.slice ao1 rest1.length cap1)).setCell ⟨w.heap.size, 1, none⟩ (.int .i64 0)) := HWW
    have HX1' : Hid (Bx W w.heap.size (.slice ao1 rest1.length cap1) (.int .i64 0)) := HX1
    by_cases h64 : (64 : Int) < (n : Int)
    · go_wp2_with fail
      rw [← HW0.out]
      refine (rfail5_any ao1 rest1.length cap1 0 3 W).mono ?_
      rw [if_pos rfl]
      rintro e w2 ⟨rfl, hb2⟩
      have h3 := HX3.out.old hb2
      obtain ⟨b0, b1, b2, b3⟩ := blk2 h3
      have HE : Hid (TRun rest c [] 3 []) := Lib.hid ⟨n, rest1, 0, HN.out, .inr (.inl ⟨rfl, by omega, rfl, rfl, rfl⟩)⟩
      have HB2 := Lib.hid (HBW.out.trans (hb2.mono HBW.out.size))
      clear hb2
      go_wp2
      exact bodyPost_ret (v := .tuple #[.slice none 0 0, .agg #[.slice ao1 rest1.length cap1, .int .i64 ((3 : Nat) : Int)]]) (by simp [results, Try.results34, go_sem, b0, b1]) rfl ⟨_, [], ao1, rest1.length, cap1, 3, [], rfl, HE.out, World.ownsRow_nil _ _ _ _, fun h => absurd h (by decide), below_put HB2.out (by omega) _ _⟩
    · have hn64 : n ≤ 64 := by omega
      have hr8 : ∀ y ∈ rest1, y < 256 := by
        have := HN.out
        intro y hy
        rcases this with ⟨_, _, rfl, _⟩ | ⟨_, _, h, _⟩ | ⟨_, _, rfl, _⟩
        · exact hb y hy
        · exact hb y (by rw [h]; simp [hy])
        · exact hb y hy
      have hsz : W.heap.size = w1.heap.size := by rw [HW0.out]; simp
      have HLIT : Hid (OwnsC (W.alloc (.cells #[] 29)) w1.heap.size (.slice (some ⟨w1.heap.size, 0, none⟩) 0 0) []) := Lib.hid (by
        have := World.ownsRow_lit (e := 29) (size := 2) (base := W.heap.size) W #[] 0 (Nat.le_refl _) (by simp [maxLen]) rfl
        rw [hsz] at this
        exact this)
      have HSZ := Lib.hid hsz
      clear hsz
      have hp1 := HX1.out.lt
      have hp3 := HX3.out.lt
      go_wp2
      go_loopw [5, 6, 7, 8, 9, 10, 11, 12, 13, 14, 15, 16] (fun out lastv rowv _ _ _ _ _ _ _ _ _ wr => ∃ acc last row rst ao cap, Keep w B w.heap.size n w1.heap.size rest1 wr out lastv rowv acc last row rst ao cap)
        (fun out _ _ _ _ _ _ _ _ _ _ _ _ => n - lenOf out)
      case atStart =>
        rw [← HW0.out]
        have hnw : Below W.heap.size W (W.alloc (.cells #[] 29)) := (Below.refl _ _).alloc (Nat.le_refl _) _
        exact ⟨[], [], none, rest1, ao1, cap1, ⟨HLIT.out, rfl, rfl, Nat.zero_le _, by simp, by simp, hr8, HRW.out.below (hnw.mono (Nat.le_trans hBs HBW.out.size)), HX1'.out.old hnw, HX3.out.old hnw, HBW.out.trans (hnw.mono HBW.out.size), by rw [← HSZ.out]; simp, fun run c fin h => by simpa using h⟩⟩
      case round =>
        obtain ⟨acc, last, row, rst, aoK, capK, hk⟩ := hrel
        obtain ⟨aoO, capO, rfl⟩ := hk.owns.form
        obtain rfl := hk.lastv
        obtain rfl := hk.rowv
        have HK := Lib.hid hk
        have hlen := hk.len
        obtain ⟨a0, a1, a2, a3⟩ := blk2 hk.bx1
        obtain ⟨d0, d1, d2, d3⟩ := blk2 hk.bx3
        clear hk
        have hni : (n : Int) ≤ 64 := by omega
        by_cases hlt : (acc.length : Int) < (n : Int)
        · have hB2 : B ≤ wr.heap.size := Nat.le_trans hBs HK.out.bel.size
          go_wp2_with fail
          refine (rnumber_any B aoK capK rst 0 wr hB2 HK.out.rd HK.out.rst8).mono ?_
          rintro e w2 ⟨many, ao2, cap2, rest2, c2, rfl, hnm, hr2, hb2⟩
          have hna : Below w2.heap.size w2 (w2.alloc (.cells #[.slice ao2 rest2.length cap2, .int .i64 (c2 : Int)] 57)) := (Below.refl _ _).alloc (Nat.le_refl _) _
          have hx1 := (HK.out.bx1.old hb2).old hna
          have hx3 := (HK.out.bx3.old hb2).old hna
          obtain ⟨e0, e1, e2, e3⟩ := blk2 hx1
          obtain ⟨V, hV⟩ : ∃ V, V = ((w2.alloc (.cells #[.slice ao2 rest2.length cap2, .int .i64 (c2 : Int)] 57)).setCell ⟨w.heap.size, 0, none⟩ (.slice ao2 rest2.length cap2)).setCell ⟨w.heap.size, 1, none⟩ (.int .i64 (c2 : Int)) := ⟨_, rfl⟩
          have HV := Lib.hid hV
          have hv1 : Bx V w.heap.size (.slice ao2 rest2.length cap2) (.int .i64 (c2 : Int)) := by rw [hV]; exact hx1.put _ _
          have hv3 : Bx V (w.heap.size + 1) (.slice none 0 0) (.int .i64 0) := by rw [hV]; exact hx3.other (by omega) _ _ _ _
          have hvn : Bx V w2.heap.size (.slice ao2 rest2.length cap2) (.int .i64 (c2 : Int)) := by rw [hV]; exact Bx.other (heap_alloc_new _ _) (by have := hx1; have := (HK.out.bx1.old hb2).lt; omega) _ _ _ _
          have hvo : OwnsC V w1.heap.size (.slice aoO acc.length capO) acc := by rw [hV]; exact ((HK.out.owns.below hb2).below hna).put (by rw [← HSZ.out]; exact hp1) _ _
          have hvb : Below w.heap.size w V := by rw [hV]; exact below_put ((HK.out.bel.trans (hb2.mono HK.out.bel.size)).trans (hna.mono (Nat.le_trans HK.out.bel.size hb2.size))) (Nat.le_refl _) _ _
          have hvr : RdU V B (.slice ao2 rest2.length cap2) rest2 := by rw [hV]; exact hr2.below (below_put ((Below.refl B w2).alloc (Nat.le_trans hB2 hb2.size) _) (Nat.le_trans hBs (by omega)) _ _)
          have HV1 := Lib.hid hv1
          have HV3 := Lib.hid hv3
          have HVN := Lib.hid hvn
          have HVO := Lib.hid hvo
          have HVB := Lib.hid hvb
          have HVR := Lib.hid hvr
          have HNM := Lib.hid hnm
          have hvs : w1.heap.size ≤ V.heap.size := by rw [hV]; have := HK.out.siz; have := hb2.size; simp; omega
          have HVS := Lib.hid hvs
          clear hV hv1 hv3 hvn hvo hvb hvr hnm hvs hna hx3
          by_cases hc2 : c2 = 0
          · subst hc2
            have HV0 : Hid (V = ((w2.alloc (.cells #[.slice ao2 rest2.length cap2, .int .i64 0] 57)).setCell ⟨w.heap.size, 0, none⟩ (.slice ao2 rest2.length cap2)).setCell ⟨w.heap.size, 1, none⟩ (.int .i64 0)) := HV
            have HV10 : Hid (Bx V w.heap.size (.slice ao2 rest2.length cap2) (.int .i64 0)) := HV1
            have hx1z : Bx (w2.alloc (.cells #[.slice ao2 rest2.length cap2, .int .i64 0] 57)) w.heap.size (.slice aoK rst.length capK) (.int .i64 0) := hx1
            obtain ⟨f0, f1, f2, f3⟩ := blk2 hx1z
            clear e0 e1 e2 e3 hx1 hx1z
            have HVN0 : Hid (Bx V w2.heap.size (.slice ao2 rest2.length cap2) (.int .i64 0)) := HVN
            have HNM0 : Hid (NumRel rst 0 many rest2 0) := HNM
            have h28 : ∀ y ∈ rest2, y < 256 := fun y hy => HK.out.rst8 y (by obtain ⟨h, _⟩ := num_back HNM.out; rw [h]; simp [hy])
            have HB2V : Hid (B ≤ V.heap.size) := Lib.hid (Nat.le_trans hBs HVB.out.size)
            by_cases hm0 : (0 : Int) < (many : Int)
            · have hleft : (n : Int) - (acc.length : Int) = ((n - acc.length : Nat) : Int) := by omega
              by_cases hml : ((n - acc.length : Nat) : Int) < (many : Int)
              · have HE : Hid (TRun rest c [] 2 []) := Lib.hid (by
                  rw [HC0.out]
                  exact TI.halt HN0.out hn64 HK.out.next (by omega) ⟨many, rest2, 0, HNM0.out, .inr (.inl ⟨rfl, by omega, rfl, rfl, rfl, rfl, rfl⟩)⟩ (by decide))
                generalize n - acc.length = L at hleft hml
                go_wp2_with fail
                rw [← HV0.out]
                refine (rfail5_any ao2 rest2.length cap2 0 2 V).mono ?_
                rw [if_pos rfl]
                rintro e w9 ⟨rfl, hb9⟩
                obtain ⟨t0, t1, t2, t3⟩ := blk2 (HV3.out.old hb9)
                have HB9 := Lib.hid (HVB.out.trans (hb9.mono HVB.out.size))
                clear hb9
                go_wp2
                exact bodyPost_ret (v := .tuple #[.slice none 0 0, .agg #[.slice ao2 rest2.length cap2, .int .i64 ((2 : Nat) : Int)]]) (by simp [results, Try.results34, go_sem, t0, t1]) rfl (rt_bad HE.out (by decide) (below_put HB9.out (Nat.le_succ _) _ _))
              · have hmle : many ≤ n - acc.length := by omega
                go_wp2_with fail
                rw [← HV0.out]
                refine (rwithin_any B ao2 cap2 rest2 0 3 V HB2V.out HVR.out h28).mono ?_
                rintro e w3 ⟨k, aoW, capW, rest3, c3, rfl, hnk, hr3, hb3⟩
                obtain ⟨x, hx⟩ : ∃ x, withinR k 3 = x := ⟨_, rfl⟩
                obtain ⟨y, hy⟩ : ∃ y, withinC k c3 3 = y := ⟨_, rfl⟩
                rw [hx, hy]
                have hna : Below w3.heap.size w3 (w3.alloc (.cells #[.slice aoW rest3.length capW, .int .i64 (y : Int)] 57)) := (Below.refl _ _).alloc (Nat.le_refl _) _
                have hz1 := (HV10.out.old hb3).old hna
                have hz3 := (HV3.out.old hb3).old hna
                obtain ⟨U, hU⟩ : ∃ U, U = ((w3.alloc (.cells #[.slice aoW rest3.length capW, .int .i64 (y : Int)] 57)).setCell ⟨w.heap.size, 0, none⟩ (.slice aoW rest3.length capW)).setCell ⟨w.heap.size, 1, none⟩ (.int .i64 (y : Int)) := ⟨_, rfl⟩
                have HU := Lib.hid hU
                have HU1 : Hid (Bx U w.heap.size (.slice aoW rest3.length capW) (.int .i64 (y : Int))) := Lib.hid (by rw [hU]; exact hz1.put _ _)
                have HU3 : Hid (Bx U (w.heap.size + 1) (.slice none 0 0) (.int .i64 0)) := Lib.hid (by rw [hU]; exact hz3.other (by omega) _ _ _ _)
                have HUO : Hid (OwnsC U w1.heap.size (.slice aoO acc.length capO) acc) := Lib.hid (by rw [hU]; exact ((HVO.out.below hb3).below hna).put (by rw [← HSZ.out]; exact hp1) _ _)
                have HUB : Hid (Below w.heap.size w U) := Lib.hid (by rw [hU]; exact below_put ((HVB.out.trans (hb3.mono HVB.out.size)).trans (hna.mono (Nat.le_trans HVB.out.size hb3.size))) (Nat.le_refl _) _ _)
                have HUR : Hid (RdU U B (.slice aoW rest3.length capW) rest3) := Lib.hid (by rw [hU]; exact hr3.below (below_put ((Below.refl B w3).alloc (Nat.le_trans HB2V.out hb3.size) _) hBs _ _))
                have HUS : Hid (w1.heap.size ≤ U.heap.size) := Lib.hid (by rw [hU]; have := HVS.out; have := hb3.size; simp; omega)
                obtain ⟨f0, f1, f2, f3⟩ := blk2 hz1
                have HNK := Lib.hid hnk
                have HXX := Lib.hid hx
                have HYY := Lib.hid hy
                clear hU hz1 hz3 hna hnk hx hy
                by_cases hy0 : y = 0
                · subst hy0
                  obtain ⟨rfl, hk3⟩ := within_three HYY.out
                  obtain rfl : x = k := by rw [← HXX.out]; unfold withinR; rw [if_neg (by omega)]
                  have HU0 : Hid (U = ((w3.alloc (.cells #[.slice aoW rest3.length capW, .int .i64 0] 57)).setCell ⟨w.heap.size, 0, none⟩ (.slice aoW rest3.length capW)).setCell ⟨w.heap.size, 1, none⟩ (.int .i64 0)) := HU
                  have HU10 : Hid (Bx U w.heap.size (.slice aoW rest3.length capW) (.int .i64 0)) := HU1
                  have f1' : (w3.alloc (.cells #[.slice aoW rest3.length capW, .int .i64 0] 57)).cell? ⟨w.heap.size, 1, none⟩ = some (.int .i64 0) := f1
                  have f0' : (w3.alloc (.cells #[.slice aoW rest3.length capW, .int .i64 0] 57)).cell? ⟨w.heap.size, 0, none⟩ = some (.slice ao2 rest2.length cap2) := f0
                  have f2' : (w3.alloc (.cells #[.slice aoW rest3.length capW, .int .i64 0] 57)).frozen? ⟨w.heap.size, 0, none⟩ = false := f2
                  have f3' : (w3.alloc (.cells #[.slice aoW rest3.length capW, .int .i64 0] 57)).frozen? ⟨w.heap.size, 1, none⟩ = false := f3
                  clear f0 f1 f2 f3
                  by_cases hsame : x = 1 ∨ row = some x
                  · have HE : Hid (TRun rest c [] 2 []) := Lib.hid (by
                      rw [HC0.out]
                      exact TI.halt HN0.out hn64 HK.out.next (by omega) ⟨many, rest2, 0, HNM0.out, .inr (.inr (.inl ⟨rfl, by omega, hmle, x, rest3, 0, HNK.out, .inr (.inl ⟨HYY.out, hsame, rfl, rfl, rfl, rfl, rfl⟩)⟩))⟩ (by decide))
                    by_cases hx1 : (x : Int) = 1
                    · go_wp2_with fail
                      rw [← HU0.out]
                      refine (rfail5_any aoW rest3.length capW 0 2 U).mono ?_
                      rw [if_pos rfl]
                      rintro e w9 ⟨rfl, hb9⟩
                      obtain ⟨t0, t1, t2, t3⟩ := blk2 (HU3.out.old hb9)
                      have HB9 := Lib.hid (HUB.out.trans (hb9.mono HUB.out.size))
                      clear hb9
                      go_wp2
                      exact bodyPost_ret (v := .tuple #[.slice none 0 0, .agg #[.slice aoW rest3.length capW, .int .i64 ((2 : Nat) : Int)]]) (by simp [results, Try.results34, go_sem, t0, t1]) rfl (rt_bad HE.out (by decide) (below_put HB9.out (Nat.le_succ _) _ _))
                    · have hrow : rowI row = (x : Int) := by
                        rcases hsame with h | h
                        · omega
                        · rw [h]; rfl
                      go_wp2_with fail
                      rw [← HU0.out]
                      refine (rfail5_any aoW rest3.length capW 0 2 U).mono ?_
                      rw [if_pos rfl]
                      rintro e w9 ⟨rfl, hb9⟩
                      obtain ⟨t0, t1, t2, t3⟩ := blk2 (HU3.out.old hb9)
                      have HB9 := Lib.hid (HUB.out.trans (hb9.mono HUB.out.size))
                      clear hb9
                      go_wp2
                      exact bodyPost_ret (v := .tuple #[.slice none 0 0, .agg #[.slice aoW rest3.length capW, .int .i64 ((2 : Nat) : Int)]]) (by simp [results, Try.results34, go_sem, t0, t1]) rfl (rt_bad HE.out (by decide) (below_put HB9.out (Nat.le_succ _) _ _))
                  · have hx1 : ¬ (x : Int) = 1 := by omega
                    have hrow : ¬ (x : Int) = rowI row := by
                      intro h
                      apply hsame
                      right
                      cases row with
                      | none => simp [rowI] at h
                      | some r => simp [rowI] at h; rw [show r = x by omega]
                    have hx1b : ((x : Int) == 1) = false := by rw [beq_eq_false_iff_ne]; exact hx1
                    have hrowb : ((x : Int) == rowI row) = false := by rw [beq_eq_false_iff_ne]; exact hrow
                    have hmany : (many : Int) ≤ 64 := by omega
                    have hs1 : x ≠ 1 := by omega
                    have hs2 : row ≠ some x := fun h => hsame (.inr h)
                    have HIT : Hid (Item (n - acc.length) last row rst (List.replicate many (x, [])) last (some x) rest3 0) := Lib.hid ⟨many, rest2, 0, HNM0.out, .inr (.inr (.inl ⟨rfl, by omega, hmle, x, rest3, 0, HNK.out, .inr (.inr ⟨HYY.out, hs1, hs2, rfl, rfl, rfl, rfl, rfl⟩)⟩))⟩
                    clear hsame hs1 hs2 hx1 hrow
                    go_wp2
                    rw [← HU0.out]
                    go_loopw [5, 12] (fun out i wr => ∃ m : Nat, m ≤ many ∧ i = .int .u64 (m : Int) ∧ OwnsC wr w1.heap.size out (acc ++ List.replicate m (x, [])) ∧ Bx wr w.heap.size (.slice aoW rest3.length capW) (.int .i64 0) ∧ Bx wr (w.heap.size + 1) (.slice none 0 0) (.int .i64 0) ∧ RdU wr B (.slice aoW rest3.length capW) rest3 ∧ Below w.heap.size w wr ∧ w1.heap.size ≤ wr.heap.size)
                      (fun _ i _ => many - (intOf i).toNat)
                    case atStart => exact ⟨0, Nat.zero_le _, rfl, by simpa using HUO.out, HU10.out, HU3.out, HUR.out, HUB.out, HUS.out⟩
                    case round =>
                      obtain ⟨m, hmm, rfl, hoo, hq1, hq3, hqr, hqb, hqs⟩ := hrel
                      obtain ⟨aoI, capI, rfl⟩ := hoo.form
                      have HOO := Lib.hid hoo
                      have HQ1 := Lib.hid hq1
                      have HQ3 := Lib.hid hq3
                      have HQR := Lib.hid hqr
                      have HQB := Lib.hid hqb
                      have HQS := Lib.hid hqs
                      clear hoo hq1 hq3 hqr hqb hqs
                      by_cases hlm : (m : Int) < (many : Int)
                      · have hal : Below wr.heap.size wr (wr.alloc (.cells #[.int .i64 (x : Int), .string { data := #[] }] 29)) := (Below.refl _ _).alloc (Nat.le_refl _) _
                        have HAL := Lib.hid hal
                        clear hal
                        go_wp2_with (at_builtin; go_must (refine wpList_appC _ rfl _ _ rfl w1.heap.size _ (acc ++ List.replicate m (x, [])) rfl (HOO.out.below HAL.out) (x, []) wr rfl rfl ?q1 ?q3 ?_))
                        case q1 => simp; omega
                        try (case q3 => have := HQS.out; simp; omega)
                        intro v8 w8 ho8 hg8
                        have hb8 : Below w1.heap.size wr w8 := (HAL.out.mono HQS.out).grown hg8 (Nat.le_trans HQS.out HAL.out.size) (fun j hj => (HOO.out.lt j ((ownBlock_len _ _ _ _ _).trans hj)).1)
                        have HO8 : Hid (OwnsC w8 w1.heap.size v8 (acc ++ List.replicate (m + 1) (x, []))) := Lib.hid (by
                          rw [List.replicate_succ']
                          exact ho8)
                        have HB8 := Lib.hid hb8
                        have hlow : w.heap.size + 1 < w1.heap.size := by rw [← HSZ.out]; exact hp3
                        clear ho8 hg8 hb8
                        go_wp2
                        go_roundw
                        case rel => exact ⟨m + 1, by omega, by go_num, HO8.out, HQ1.out.below HB8.out (by omega), HQ3.out.below HB8.out hlow, HQR.out.below (HB8.out.mono (by omega)), HQB.out.trans (HB8.out.mono (by omega)), Nat.le_trans HQS.out HB8.out.size⟩
                        case measure => simp [intOf]; omega
                      · obtain rfl : m = many := by omega
                        have hnx : Hid (Keep w B w.heap.size n w1.heap.size rest1 wr (.slice aoI (acc ++ List.replicate m (x, [])).length capI) (.string (S8 last)) (.int .i64 (x : Int)) (acc ++ List.replicate m (x, [])) last (some x) rest3 aoW capW) := Lib.hid
                          ⟨HOO.out, rfl, rfl, by simp; omega, HK.out.last64, HK.out.last8, fun y hy => h28 y (by obtain ⟨h, _⟩ := num_back HNK.out; rw [h]; simp [hy]), HQR.out, HQ1.out, HQ3.out, HQB.out, HQS.out, fun run c fin h => by
                            have := HK.out.next (List.replicate m (x, []) ++ run) c fin (TI.more (by omega) HIT.out (by rw [List.length_replicate]; rw [List.length_append, List.length_replicate, Nat.sub_add_eq] at h; exact h))
                            rw [List.append_assoc]
                            exact this⟩
                        go_wp2
                        go_roundw
                        case rel => exact ⟨_, _, _, _, _, _, hnx.out⟩
                        case measure => simp [lenOf]; omega
                · have hyi : ((y : Int) != 0) = true := by rw [bne_iff_ne]; omega
                  have HE : Hid (TRun rest c [] y []) := Lib.hid (by
                    rw [HC0.out]
                    exact TI.halt HN0.out hn64 HK.out.next (by omega) ⟨many, rest2, 0, HNM0.out, .inr (.inr (.inl ⟨rfl, by omega, hmle, k, rest3, c3, HNK.out, .inl ⟨by rw [HYY.out]; exact hy0, rfl, rfl, rfl, rfl, HYY.out.symm⟩⟩))⟩ hy0)
                  have HY0 := Lib.hid hy0
                  go_wp2_with fail
                  rw [← HU.out]
                  refine (rfail5_any aoW rest3.length capW y 2 U).mono ?_
                  rw [if_neg hy0]
                  rintro e w9 ⟨rfl, hb9⟩
                  obtain ⟨t0, t1, t2, t3⟩ := blk2 (HU3.out.old hb9)
                  have HB9 := Lib.hid (HUB.out.trans (hb9.mono HUB.out.size))
                  clear hb9 hy0
                  go_wp2
                  exact bodyPost_ret (v := .tuple #[.slice none 0 0, .agg #[.slice aoW rest3.length capW, .int .i64 (y : Int)]]) (by simp [results, Try.results34, go_sem, t0, t1]) rfl (rt_bad HE.out HY0.out (below_put HB9.out (Nat.le_succ _) _ _))
            · obtain rfl : many = 0 := by omega
              have hp1q : w.heap.size ≠ w2.heap.size := by have := (HK.out.bx1.old hb2).lt; omega
              have hp3q : w.heap.size + 1 ≠ w2.heap.size := by have := (HK.out.bx3.old hb2).lt; omega
              have hwq : w.heap.size ≤ w2.heap.size := Nat.le_trans HK.out.bel.size hb2.size
              have hM : Mid w B w.heap.size w2.heap.size w1.heap.size V (.slice aoO acc.length capO) acc (.slice ao2 rest2.length cap2) (.slice ao2 rest2.length cap2) (.int .i64 0) (.int .i64 0) :=
                ⟨HVO.out, HV10.out, HVN0.out, HV3.out, HVB.out, HVS.out, fun j hj => by have := ((HK.out.owns.below hb2).lt j hj).2; omega⟩
              have HM := Lib.hid hM
              have HP1 := Lib.hid hp1q
              have HP3 := Lib.hid hp3q
              have HWQ := Lib.hid hwq
              clear hM hp1q hp3q hwq hb2 hr2
              go_wp2_with fail
              rw [← HV0.out]
              refine (rnumber_any B ao2 cap2 rest2 0 V HB2V.out HVR.out h28).mono ?_
              rintro e w3 ⟨size, ao3, cap3, rest3, c3, rfl, hn3, hr3, hb3⟩
              have hbx := (HM.out.bxq.old hb3)
              obtain ⟨f0', f1', f2', f3'⟩ := blk2 hbx
              obtain ⟨U, hU⟩ : ∃ U, U = (w3.setCell ⟨w2.heap.size, 0, none⟩ (.slice ao3 rest3.length cap3)).setCell ⟨w2.heap.size, 1, none⟩ (.int .i64 (c3 : Int)) := ⟨_, rfl⟩
              have hm3 := HM.out.next hb3 HP1.out HP3.out HWQ.out (.slice ao3 rest3.length cap3) (.int .i64 (c3 : Int))
              rw [← hU] at hm3
              have HUR : Hid (RdU U B (.slice ao3 rest3.length cap3) rest3) := Lib.hid (by rw [hU]; exact hr3.below (below_put (Below.refl B w3) (Nat.le_trans hBs HWQ.out) _ _))
              have HM3 := Lib.hid hm3
              have HU := Lib.hid hU
              have HN3 := Lib.hid hn3
              clear hm3 hU hn3 hbx hr3 hb3 f0 f1 f2 f3
              by_cases hc3 : c3 = 0
              · subst hc3
                have HU0 : Hid (U = (w3.setCell ⟨w2.heap.size, 0, none⟩ (.slice ao3 rest3.length cap3)).setCell ⟨w2.heap.size, 1, none⟩ (.int .i64 0)) := HU
                have HM30 : Hid (Mid w B w.heap.size w2.heap.size w1.heap.size U (.slice aoO acc.length capO) acc (.slice ao2 rest2.length cap2) (.slice ao3 rest3.length cap3) (.int .i64 0) (.int .i64 0)) := HM3
                have HN30 : Hid (NumRel rest2 0 size rest3 0) := HN3
                have h38 : ∀ y ∈ rest3, y < 256 := fun y hy => h28 y (by obtain ⟨h, _⟩ := num_back HN30.out; rw [h]; simp [hy])
                by_cases hs64 : (64 : Int) < (size : Int)
                · have HE : Hid (TRun rest c [] 3 []) := Lib.hid (by
                    rw [HC0.out]
                    exact TI.halt HN0.out hn64 HK.out.next (by omega) ⟨0, rest2, 0, HNM0.out, .inr (.inr (.inr ⟨rfl, rfl, size, rest3, 0, HN30.out, .inr (.inl ⟨rfl, by omega, rfl, rfl, rfl, rfl, rfl⟩)⟩))⟩ (by decide))
                  go_wp2_with fail
                  rw [← HU0.out]
                  refine (rfail5_any ao3 rest3.length cap3 0 3 U).mono ?_
                  rw [if_pos rfl]
                  rintro e w9 ⟨rfl, hb9⟩
                  obtain ⟨t0, t1, t2, t3⟩ := blk2 (HM30.out.bx3.old hb9)
                  have HB9 := Lib.hid (HM30.out.bel.trans (hb9.mono HM30.out.bel.size))
                  clear hb9
                  go_wp2
                  exact bodyPost_ret (v := .tuple #[.slice none 0 0, .agg #[.slice ao3 rest3.length cap3, .int .i64 ((3 : Nat) : Int)]]) (by simp [results, Try.results34, go_sem, t0, t1]) rfl (rt_bad HE.out (by decide) (below_put HB9.out (Nat.le_succ _) _ _))
                · have hs64n : size ≤ 64 := by omega
                  have HB3U : Hid (B ≤ U.heap.size) := Lib.hid (Nat.le_trans hBs HM30.out.bel.size)
                  go_wp2_with fail
                  rw [← HU0.out]
                  refine (rnumber_any B ao3 cap3 rest3 0 U HB3U.out HUR.out h38).mono ?_
                  rintro e w4 ⟨s, ao4, cap4, rest4, c4, rfl, hn4, hr4, hb4⟩
                  obtain ⟨k0, k1, k2, k3⟩ := blk2 (HM30.out.bxq.old hb4)
                  obtain ⟨T, hT⟩ : ∃ T, T = (w4.setCell ⟨w2.heap.size, 0, none⟩ (.slice ao4 rest4.length cap4)).setCell ⟨w2.heap.size, 1, none⟩ (.int .i64 (c4 : Int)) := ⟨_, rfl⟩
                  have hm4 := HM30.out.next hb4 HP1.out HP3.out HWQ.out (.slice ao4 rest4.length cap4) (.int .i64 (c4 : Int))
                  rw [← hT] at hm4
                  have HTR : Hid (RdU T B (.slice ao4 rest4.length cap4) rest4) := Lib.hid (by rw [hT]; exact hr4.below (below_put (Below.refl B w4) (Nat.le_trans hBs HWQ.out) _ _))
                  have HM4 := Lib.hid hm4
                  have HT := Lib.hid hT
                  have HN4 := Lib.hid hn4
                  clear hm4 hT hn4 hr4 hb4 f0' f1' f2' f3'
                  by_cases hc4 : c4 = 0
                  · subst hc4
                    have HT0 : Hid (T = (w4.setCell ⟨w2.heap.size, 0, none⟩ (.slice ao4 rest4.length cap4)).setCell ⟨w2.heap.size, 1, none⟩ (.int .i64 0)) := HT
                    have HM40 : Hid (Mid w B w.heap.size w2.heap.size w1.heap.size T (.slice aoO acc.length capO) acc (.slice ao2 rest2.length cap2) (.slice ao4 rest4.length cap4) (.int .i64 0) (.int .i64 0)) := HM4
                    have HN40 : Hid (NumRel rest3 0 s rest4 0) := HN4
                    have h48 : ∀ y ∈ rest4, y < 256 := fun y hy => h38 y (by obtain ⟨h, _⟩ := num_back HN40.out; rw [h]; simp [hy])
                    have hls : (S8 last).size = last.length := S8_size last
                    have hl64 := HK.out.last64
                    have HMUCH : Hid ((size < s ∨ last.length < s) → TRun rest c [] 2 []) := Lib.hid fun h => by
                      rw [HC0.out]
                      exact TI.halt HN0.out hn64 HK.out.next (by omega) ⟨0, rest2, 0, HNM0.out, .inr (.inr (.inr ⟨rfl, rfl, size, rest3, 0, HN30.out, .inr (.inr ⟨rfl, hs64n, s, rest4, 0, HN40.out, .inr (.inl ⟨rfl, h, rfl, rfl, rfl, rfl, rfl⟩)⟩)⟩))⟩ (by decide)
                    by_cases hss : (size : Int) < (s : Int)
                    · have HE := Lib.hid (HMUCH.out (.inl (by omega)))
                      go_wp2_with fail
                      rw [← HT0.out]
                      refine (rfail5_any ao4 rest4.length cap4 0 2 T).mono ?_
                      rw [if_pos rfl]
                      rintro e w9 ⟨rfl, hb9⟩
                      obtain ⟨t0, t1, t2, t3⟩ := blk2 (HM40.out.bx3.old hb9)
                      have HB9 := Lib.hid (HM40.out.bel.trans (hb9.mono HM40.out.bel.size))
                      clear hb9
                      go_wp2
                      exact bodyPost_ret (v := .tuple #[.slice none 0 0, .agg #[.slice ao4 rest4.length cap4, .int .i64 ((2 : Nat) : Int)]]) (by simp [results, Try.results34, go_sem, t0, t1]) rfl (rt_bad HE.out (by decide) (below_put HB9.out (Nat.le_succ _) _ _))
                    by_cases hsl : (last.length : Int) < (s : Int)
                    · have HE := Lib.hid (HMUCH.out (.inr (by omega)))
                      go_wp2_with fail
                      rw [← HT0.out]
                      refine (rfail5_any ao4 rest4.length cap4 0 2 T).mono ?_
                      rw [if_pos rfl]
                      rintro e w9 ⟨rfl, hb9⟩
                      obtain ⟨t0, t1, t2, t3⟩ := blk2 (HM40.out.bx3.old hb9)
                      have HB9 := Lib.hid (HM40.out.bel.trans (hb9.mono HM40.out.bel.size))
                      clear hb9
                      go_wp2
                      exact bodyPost_ret (v := .tuple #[.slice none 0 0, .agg #[.slice ao4 rest4.length cap4, .int .i64 ((2 : Nat) : Int)]]) (by simp [results, Try.results34, go_sem, t0, t1]) rfl (rt_bad HE.out (by decide) (below_put HB9.out (Nat.le_succ _) _ _))
                    have hsub : (size : Int) - (s : Int) = ((size - s : Nat) : Int) := by omega
                    obtain ⟨D, hD⟩ : ∃ D, size - s = D := ⟨_, rfl⟩
                    rw [hD] at hsub
                    have HDD := Lib.hid hD
                    have hDb : (D : Int) ≤ 64 := by omega
                    have HB4T : Hid (B ≤ T.heap.size) := Lib.hid (Nat.le_trans hBs HM40.out.bel.size)
                    clear hD HMUCH
                    go_wp2_with fail
                    rw [← HT0.out]
                    refine (rfixed_any B ao4 cap4 rest4 0 (D : Int) T HB4T.out HTR.out).mono ?_
                    rintro e w5 ⟨ov, got, ao5, cap5, rest5, c5, rfl, hfx, hov, hr5, hb5⟩
                    obtain ⟨aoV, capV, rfl, _, _, _⟩ := hov.reads.val
                    obtain ⟨k0', k1', k2', k3'⟩ := blk2 (HM40.out.bxq.old hb5)
                    obtain ⟨S, hS⟩ : ∃ S, S = (w5.setCell ⟨w2.heap.size, 0, none⟩ (.slice ao5 rest5.length cap5)).setCell ⟨w2.heap.size, 1, none⟩ (.int .i64 (c5 : Int)) := ⟨_, rfl⟩
                    have hm5 := HM40.out.next hb5 HP1.out HP3.out HWQ.out (.slice ao5 rest5.length cap5) (.int .i64 (c5 : Int))
                    rw [← hS] at hm5
                    have HSR : Hid (RdU S B (.slice ao5 rest5.length cap5) rest5) := Lib.hid (by rw [hS]; exact hr5.below (below_put (Below.refl B w5) (Nat.le_trans hBs HWQ.out) _ _))
                    have HSV : Hid (RdU S B (.slice aoV got.length capV) got) := Lib.hid (by rw [hS]; exact hov.below (below_put (Below.refl B w5) (Nat.le_trans hBs HWQ.out) _ _))
                    have HM5 := Lib.hid hm5
                    have HS5 := Lib.hid hS
                    clear hm5 hS hr5 hov hb5 k0 k1 k2 k3
                    rcases hfx with ⟨h, _⟩ | ⟨_, hfew, rfl, rfl, rfl⟩ | ⟨_, _, hmany5, hgot, hrest5, rfl⟩
                    · exact absurd rfl h
                    · have HE : Hid (TRun rest c [] 2 []) := Lib.hid (by
                        rw [HC0.out]
                        exact TI.halt HN0.out hn64 HK.out.next (by omega) ⟨0, rest2, 0, HNM0.out, .inr (.inr (.inr ⟨rfl, rfl, size, rest3, 0, HN30.out, .inr (.inr ⟨rfl, hs64n, s, rest5, 0, HN40.out, .inr (.inr ⟨rfl, by omega, by omega, .inl ⟨by have := HDD.out; omega, rfl, rfl, rfl, rfl, rfl⟩⟩)⟩)⟩))⟩ (by decide))
                      have HS52 : Hid (S = (w5.setCell ⟨w2.heap.size, 0, none⟩ (.slice ao5 rest5.length cap5)).setCell ⟨w2.heap.size, 1, none⟩ (.int .i64 2)) := HS5
                      have hq5 : Bx S w2.heap.size (.slice ao5 rest5.length cap5) (.int .i64 2) := HM5.out.bxq
                      obtain ⟨s0, s1, s2, s3⟩ := blk2 hq5
                      obtain ⟨t0, t1, t2, t3⟩ := blk2 HM5.out.bx3
                      clear hq5
                      go_wp2_with fail
                      rw [← HS52.out]
                      go_region
                      all_goals go_wp2
                      all_goals exact bodyPost_ret (v := .tuple #[.slice none 0 0, .agg #[.slice ao5 rest5.length cap5, .int .i64 ((2 : Nat) : Int)]]) (by simp [results, Try.results34, go_sem, t0, t1]) rfl (rt_bad HE.out (by decide) (by first | exact below_put HM5.out.bel.drew (Nat.le_succ _) _ _ | exact below_put HM5.out.bel (Nat.le_succ _) _ _ | exact (below_put HM5.out.bel (Nat.le_succ _) _ _).drew))
                    · have hgot2 : got = rest4.take (size - s) := by rw [hgot, Int.toNat_natCast, HDD.out]
                      have hrest52 : rest5 = rest4.drop (size - s) := by rw [hrest5, Int.toNat_natCast, HDD.out]
                      have hgl : got.length = D := by rw [hgot, Int.toNat_natCast, List.length_take]; omega
                      have hS1z : Bx S w.heap.size (.slice ao2 rest2.length cap2) (.int .i64 0) := HM5.out.bx1
                      obtain ⟨k0, k1, k2, k3⟩ := blk2 hS1z
                      have hSqz : Bx S w2.heap.size (.slice ao5 rest5.length cap5) (.int .i64 0) := HM5.out.bxq
                      obtain ⟨l0, l1, l2, l3⟩ := blk2 hSqz
                      have HS50 : Hid (S = (w5.setCell ⟨w2.heap.size, 0, none⟩ (.slice ao5 rest5.length cap5)).setCell ⟨w2.heap.size, 1, none⟩ (.int .i64 0)) := HS5
                      obtain ⟨X, hX⟩ : ∃ X, X = (S.setCell ⟨w.heap.size, 0, none⟩ (.slice ao5 rest5.length cap5)).setCell ⟨w.heap.size, 1, none⟩ (.int .i64 0) := ⟨_, rfl⟩
                      have HX := Lib.hid hX
                      have HXO : Hid (OwnsC X w1.heap.size (.slice aoO acc.length capO) acc) := Lib.hid (by rw [hX]; exact HM5.out.owns.put (by rw [← HSZ.out]; exact hp1) _ _)
                      have HXB : Hid (Below w.heap.size w X) := Lib.hid (by rw [hX]; exact below_put HM5.out.bel (Nat.le_refl _) _ _)
                      have HX1b : Hid (Bx X w.heap.size (.slice ao5 rest5.length cap5) (.int .i64 0)) := Lib.hid (by rw [hX]; exact hS1z.put _ _)
                      have HX3b : Hid (Bx X (w.heap.size + 1) (.slice none 0 0) (.int .i64 0)) := Lib.hid (by rw [hX]; exact HM5.out.bx3.other (by omega) _ _ _ _)
                      have HXR : Hid (RdU X B (.slice ao5 rest5.length cap5) rest5) := Lib.hid (by rw [hX]; exact HSR.out.below (below_put (Below.refl B S) hBs _ _))
                      have hxv : RdU X B (.slice aoV got.length capV) got := by rw [hX]; exact HSV.out.below (below_put (Below.refl B S) hBs _ _)
                      have HXS : Hid (w1.heap.size ≤ X.heap.size) := Lib.hid (by rw [hX]; simpa using HM5.out.siz)
                      have hcv := fun d => conv_reads _ got (X.drewN d) (hxv.reads.drewN d)
                      have hcv' : ∀ d, (convert 22 9 (.slice aoV got.length capV)).run Try.prog (X.drewN d) = .ok (.string (S8 got)) (X.drewN d) := hcv
                      have hsl' := fun W => slice_S8 last s (by omega) W
                      have hg8 : ∀ y ∈ got, y < 256 := fun y hy => h48 y (by rw [hgot2] at hy; exact List.mem_of_mem_take hy)
                      have ht8 : ∀ y ∈ last.take s ++ got, y < 256 := fun y hy => (List.mem_append.1 hy).elim (fun h => HK.out.last8 y (List.mem_of_mem_take h)) (hg8 y)
                      have htl : (last.take s ++ got).length = size := by rw [List.length_append, List.length_take, hgl, ← HDD.out]; omega
                      have hcat := S8_app (last.take s) got
                      have hnc : ¬ 9223372036854775807 < (S8 (last.take s)).size + (S8 got).size := by rw [S8_size, S8_size, List.length_take]; omega
                      have HCOM : Hid (∀ W, Calls Try.prog 47 #[.string (S8 (last.take s ++ got)), .string (S8 last)] W fun e w' => e = .returned (.int .i64 (com (last.take s ++ got) last : Nat)) ∧ Below W.heap.size W w') := Lib.hid fun W => refCommon_any _ last W ht8 HK.out.last8 (by omega) (by omega)
                      have hITm : com (last.take s ++ got) last ≠ s → TRun rest c [] 2 [] := fun h => by
                        rw [HC0.out]
                        exact TI.halt HN0.out hn64 HK.out.next (by omega) ⟨0, rest2, 0, HNM0.out, .inr (.inr (.inr ⟨rfl, rfl, size, rest3, 0, HN30.out, .inr (.inr ⟨rfl, hs64n, s, rest4, 0, HN40.out, .inr (.inr ⟨rfl, by omega, by omega, .inr (.inl ⟨by have := HDD.out; omega, by rw [← hgot2]; exact h, rfl, rfl, rfl, rfl, rfl⟩)⟩)⟩)⟩))⟩ (by decide)
                      have hITk : com (last.take s ++ got) last = s → Item (n - acc.length) last row rst [(1, last.take s ++ got)] (last.take s ++ got) none rest5 0 := fun h =>
                        ⟨0, rest2, 0, HNM0.out, .inr (.inr (.inr ⟨rfl, rfl, size, rest3, 0, HN30.out, .inr (.inr ⟨rfl, hs64n, s, rest4, 0, HN40.out, .inr (.inr ⟨rfl, by omega, by omega, .inr (.inr ⟨by have := HDD.out; omega, by rw [← hgot2]; exact h, by rw [hgot2], by rw [hgot2], rfl, hrest52, rfl⟩)⟩)⟩)⟩))⟩
                      have h58 : ∀ y ∈ rest5, y < 256 := fun y hy => h48 y (by rw [hrest52] at hy; exact List.mem_of_mem_drop hy)
                      have HITM := Lib.hid hITm
                      have HITK := Lib.hid hITk
                      have HT8 := Lib.hid ht8
                      have HTL := Lib.hid htl
                      have H58 := Lib.hid h58
                      clear hITm hITk ht8 htl h58 hX hS1z hSqz hxv hcv hg8 hgot hrest5 hgot2 hrest52 hmany5 hgl
                      rw [HS50.out] at k0 k1 k2 k3 l0 l1
                      generalize last.take s ++ got = text at hcat HCOM HITM HITK HT8 HTL
                      generalize S8 (last.take s) = z1 at hsl' hcat hnc
                      generalize S8 got = z2 at hcv' hcat hnc
                      go_wp2_with fail
                      rw [← HS50.out, ← HX.out]
                      go_quiet (fail)
                      go_wp2_with fail
                      refine (HCOM.out _).mono ?_
                      rintro e w6 ⟨rfl, hb6⟩
                      have hbx : Below X.heap.size X w6 := ⟨hb6.os, hb6.tape, hb6.output, hb6.size, hb6.block⟩
                      have HBX := Lib.hid hbx
                      clear hb6 hbx
                      have hsi : (s : Int) ≤ 64 := by omega
                      by_cases hcom : com text last = s
                      · have hce : ((com text last : Nat) : Int) = (s : Int) := by omega
                        have HIT := Lib.hid (HITK.out hcom)
                        generalize com text last = cc at hce
                        have HOX := Lib.hid (HXO.out.below HBX.out)
                        have hal : Below w6.heap.size w6 (w6.alloc (.cells #[.int .i64 1, .string (S8 text)] 29)) := (Below.refl _ _).alloc (Nat.le_refl _) _
                        have HAL := Lib.hid hal
                        clear hal hcom
                        go_wp2_with (at_builtin; go_must (refine wpList_appC _ rfl _ _ rfl w1.heap.size _ acc rfl (HOX.out.below HAL.out) (1, text) w6 rfl rfl ?r1 ?r3 ?_))
                        case r1 => omega
                        try (case r3 => have := HXS.out; have := HBX.out.size; simp; omega)
                        intro v8 w8 ho8 hg8
                        have hs6 : w1.heap.size ≤ w6.heap.size := Nat.le_trans HXS.out HBX.out.size
                        have hb8 : Below w1.heap.size w6 w8 := (HAL.out.mono hs6).grown hg8 (Nat.le_trans hs6 HAL.out.size) (fun j hj => (HXO.out.lt j ((ownBlock_len _ _ _ _ _).trans hj)).1)
                        have hbX : Below w1.heap.size X w8 := (HBX.out.mono HXS.out).trans hb8
                        have hlow : w.heap.size + 1 < w1.heap.size := by rw [← HSZ.out]; exact hp3
                        have hnx : Hid (Keep w B w.heap.size n w1.heap.size rest1 w8 v8 (.string (S8 text)) (.int .i64 (-1)) (acc ++ [(1, text)]) text none rest5 ao5 cap5) := Lib.hid
                          ⟨ho8, rfl, rfl, by simp; omega, by have := HTL.out; omega, HT8.out, H58.out, HXR.out.below (hbX.mono (by omega)), HX1b.out.below hbX (by omega), HX3b.out.below hbX hlow, HXB.out.trans (hbX.mono (by omega)), Nat.le_trans HXS.out hbX.size, fun run c fin h => by
                            have := HK.out.next ([(1, text)] ++ run) c fin (TI.more (by omega) HIT.out (by rw [List.length_append, Nat.sub_add_eq] at h; exact h))
                            rw [List.append_assoc]
                            exact this⟩
                        have hl8 : Hid (lenOf v8 = acc.length + 1) := Lib.hid (by rw [hnx.out.owns.len]; simp)
                        clear ho8 hg8 hb8 hbX
                        go_wp2
                        go_roundw
                        case rel => exact ⟨_, _, _, _, _, _, hnx.out⟩
                        case measure => rw [hl8.out]; simp [lenOf]; omega
                      · have hce : (((com text last : Nat) : Int) != (s : Int)) = true := by rw [bne_iff_ne]; omega
                        have HE := Lib.hid (HITM.out hcom)
                        generalize com text last = cc at hce
                        have g1x := HX1b.out.old HBX.out
                        obtain ⟨s0, s1, s2, s3⟩ := blk2 g1x
                        clear hcom g1x
                        go_wp2_with fail
                        refine (rfail5_any ao5 rest5.length cap5 0 2 w6).mono ?_
                        rw [if_pos rfl]
                        rintro e w9 ⟨rfl, hb9⟩
                        obtain ⟨t0, t1, t2, t3⟩ := blk2 ((HX3b.out.old HBX.out).old hb9)
                        have HB9 := Lib.hid ((HXB.out.trans (HBX.out.mono HXB.out.size)).trans (hb9.mono (Nat.le_trans HXB.out.size HBX.out.size)))
                        clear hb9
                        go_wp2
                        exact bodyPost_ret (v := .tuple #[.slice none 0 0, .agg #[.slice ao5 rest5.length cap5, .int .i64 ((2 : Nat) : Int)]]) (by simp [results, Try.results34, go_sem, t0, t1]) rfl (rt_bad HE.out (by decide) (below_put HB9.out (Nat.le_succ _) _ _))
                  · have hci4 : ((c4 : Int) != 0) = true := by rw [bne_iff_ne]; omega
                    have HE : Hid (TRun rest c [] c4 []) := Lib.hid (by
                      rw [HC0.out]
                      exact TI.halt HN0.out hn64 HK.out.next (by omega) ⟨0, rest2, 0, HNM0.out, .inr (.inr (.inr ⟨rfl, rfl, size, rest3, 0, HN30.out, .inr (.inr ⟨rfl, hs64n, s, rest4, c4, HN4.out, .inl ⟨hc4, rfl, rfl, rfl, rfl, rfl⟩⟩)⟩))⟩ hc4)
                    have HC4 := Lib.hid hc4
                    go_wp2_with fail
                    rw [← HT.out]
                    refine (rfail5_any ao4 rest4.length cap4 c4 2 T).mono ?_
                    rw [if_neg hc4]
                    rintro e w9 ⟨rfl, hb9⟩
                    obtain ⟨t0, t1, t2, t3⟩ := blk2 (HM4.out.bx3.old hb9)
                    have HB9 := Lib.hid (HM4.out.bel.trans (hb9.mono HM4.out.bel.size))
                    clear hb9 hc4
                    go_wp2
                    exact bodyPost_ret (v := .tuple #[.slice none 0 0, .agg #[.slice ao4 rest4.length cap4, .int .i64 (c4 : Int)]]) (by simp [results, Try.results34, go_sem, t0, t1]) rfl (rt_bad HE.out HC4.out (below_put HB9.out (Nat.le_succ _) _ _))
              · have hci3 : ((c3 : Int) != 0) = true := by rw [bne_iff_ne]; omega
                have HE : Hid (TRun rest c [] c3 []) := Lib.hid (by
                  rw [HC0.out]
                  exact TI.halt HN0.out hn64 HK.out.next (by omega) ⟨0, rest2, 0, HNM0.out, .inr (.inr (.inr ⟨rfl, rfl, size, rest3, c3, HN3.out, .inl ⟨hc3, rfl, rfl, rfl, rfl, rfl⟩⟩))⟩ hc3)
                have HC3 := Lib.hid hc3
                go_wp2_with fail
                rw [← HU.out]
                refine (rfail5_any ao3 rest3.length cap3 c3 3 U).mono ?_
                rw [if_neg hc3]
                rintro e w9 ⟨rfl, hb9⟩
                obtain ⟨t0, t1, t2, t3⟩ := blk2 (HM3.out.bx3.old hb9)
                have HB9 := Lib.hid (HM3.out.bel.trans (hb9.mono HM3.out.bel.size))
                clear hb9 hc3
                go_wp2
                exact bodyPost_ret (v := .tuple #[.slice none 0 0, .agg #[.slice ao3 rest3.length cap3, .int .i64 (c3 : Int)]]) (by simp [results, Try.results34, go_sem, t0, t1]) rfl (rt_bad HE.out HC3.out (below_put HB9.out (Nat.le_succ _) _ _))
          · have hci2 : ((c2 : Int) != 0) = true := by rw [bne_iff_ne]; omega
            have HE : Hid (TRun rest c [] c2 []) := Lib.hid (by
              rw [HC0.out]
              exact TI.halt HN0.out hn64 HK.out.next (by omega) ⟨many, rest2, c2, HNM.out, .inl ⟨hc2, rfl, rfl, rfl, rfl, rfl⟩⟩ hc2)
            have HC2 := Lib.hid hc2
            go_wp2_with fail
            rw [← HV.out]
            obtain ⟨s0, s1, s2, s3⟩ := blk2 HV1.out
            obtain ⟨t0, t1, t2, t3⟩ := blk2 HV3.out
            go_region
            all_goals go_wp2
            all_goals exact bodyPost_ret (v := .tuple #[.slice none 0 0, .agg #[.slice ao2 rest2.length cap2, .int .i64 (c2 : Int)]]) (by simp [results, Try.results34, go_sem, t0, t1]) rfl (rt_bad HE.out HC2.out (by first | exact below_put HVB.out.drew (by omega) _ _ | exact below_put HVB.out (by omega) _ _ | exact (below_put HVB.out (by omega) _ _).drew))
        · obtain hle : acc.length = n := by omega
          have HE : Hid (TRun rest c acc 0 rst) := Lib.hid ⟨n, rest1, 0, HN.out, .inr (.inr ⟨rfl, hn64, acc, 0, rst, by
            have := HK.out.next [] 0 rst (by rw [hle, Nat.sub_self]; exact .over)
            simpa using this, rfl, rfl, rfl⟩)⟩
          clear hle
          go_wp2_with fail
          go_region
          all_goals go_wp2
          all_goals exact bodyPost_ret (v := .tuple #[.slice aoO acc.length capO, .agg #[.slice aoK rst.length capK, .int .i64 0]]) (by simp [results, Try.results34, go_sem, d0, d1]) rfl ⟨_, acc, aoK, rst.length, capK, 0, rst, rfl, HE.out, (HK.out.owns.put (q := w.heap.size + 1) (by rw [← HSZ.out]; exact hp3) _ _).mono (by rw [← HSZ.out]; exact HBW.out.size), fun _ => ⟨rfl, HK.out.rd.below (below_put (by first | exact (Below.refl B wr).drew | exact Below.refl B wr) (Nat.le_succ_of_le hBs) _ _)⟩, below_put (by first | exact HK.out.bel.drew | exact HK.out.bel) (Nat.le_succ _) _ _⟩
  · have hci : ((c1 : Int) != 0) = true := by rw [bne_iff_ne]; omega
    have HC := Lib.hid hc1
    go_wp2_with fail
    rw [← HWW.out]
    refine (rfail5_any ao1 rest1.length cap1 c1 3 W).mono ?_
    rw [if_neg hc1]
    rintro e w2 ⟨rfl, hb2⟩
    have h3 := HX3.out.old hb2
    obtain ⟨b0, b1, b2, b3⟩ := blk2 h3
    have HE : Hid (TRun rest c [] c1 []) := Lib.hid ⟨n, rest1, c1, HN.out, .inl ⟨hc1, rfl, rfl, rfl⟩⟩
    have HB2 := Lib.hid (HBW.out.trans (hb2.mono HBW.out.size))
    clear hc1 hb2
    go_wp2
    exact bodyPost_ret (v := .tuple #[.slice none 0 0, .agg #[.slice ao1 rest1.length cap1, .int .i64 (c1 : Int)]]) (by simp [results, Try.results34, go_sem, b0, b1]) rfl ⟨_, [], ao1, rest1.length, cap1, c1, [], rfl, HE.out, World.ownsRow_nil _ _ _ _, fun h => absurd h HC.out, below_put HB2.out (by omega) _ _⟩

end Go.Proofs.Ytbihammpdjkonaa
