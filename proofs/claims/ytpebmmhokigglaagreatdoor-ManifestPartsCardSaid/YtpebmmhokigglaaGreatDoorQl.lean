/- May is an order: the mathematics; cells written out as a slice. · The document's answers on cells are those of the mathematics; a byte of one's own is written. · Segments: the mathematics. Which segments there are, their bytes, which bytes are one, there and back. · Package segment: Check, End, At, Copy, Same. · Package segment: Copy, At, Same. · Package segment: At, Same. -/
import Derived.Test.YtpebmmhokigglaaGreatDoorUvQ
import Derived.Test.YtpebmmhokigglaaGreatDoorQk
import Derived.Test.YtpebmmhokigglaaGreatDoorRqP
import Derived.Deep.RegionHeld3
namespace Go.Proofs.YtpebmmhokigglaaGreatDoor
open Go.RowKit

end Go.Proofs.YtpebmmhokigglaaGreatDoor

namespace Go.Proofs.YtpebmmhokigglaaGreatDoor
open Go.RowKit

theorem S8_beq {a b : List Nat} (ha : ∀ x ∈ a, x < 256) (hb : ∀ x ∈ b, x < 256) : ((S8 a).toList == (S8 b).toList) = decide (a = b) := str_beq ha hb

theorem neq_cells (k1 k2 : Int) (d1 d2 : List Nat) (h1 : ∀ x ∈ d1, x < 256) (h2 : ∀ x ∈ d2, x < 256) (w : World) :
    (binOp .neq 77 (.agg #[.int .i64 k1, .string (S8 d1)]) (.agg #[.int .i64 k2, .string (S8 d2)])).run Tryz.prog w = .ok (.bool (!sameC k1 d1 k2 d2)) w := by
  have h := eql_cells k1 k2 (S8 d1) (S8 d2) w
  rw [S8_beq h1 h2] at h
  rw [run_eql_struct] at h
  rw [run_neq_struct]
  generalize (Op.equalIn 10000 77 (.agg #[.int .i64 k1, .string (S8 d1)]) (.agg #[.int .i64 k2, .string (S8 d2)])).run Tryz.prog w = r at h ⊢
  cases r with
  | ok b w' =>
    simp only [Result.andThen] at h ⊢
    cases h
    rfl
  | halt x w' => cases h
theorem vals_setY (k : IntKind) (l : List Nat) (i y : Nat) : (vals k l).set i (.int k (y : Int)) = vals k (l.set i y) := by
  unfold vals
  rw [List.map_set]
theorem Owns.setY {w : World} {base : Nat} {e : TypeId} {k : IntKind} {g n cap : Nat} {l : List Nat} (h : Owns w base e k (.slice (some ⟨g, 0, none⟩) n cap) l) (hn : n = l.length) (i y : Nat) :
    Owns (w.setCell ⟨g, i, none⟩ (.int k (y : Int))) base e k (.slice (some ⟨g, 0, none⟩) n cap) (l.set i y) := by
  subst hn
  have h2 := (World.ownsRow.stored h i (.int k (y : Int))).1
  unfold Owns
  rw [← vals_setY, List.length_set]
  exact h2
theorem Owns.cellY {w : World} {base : Nat} {e : TypeId} {k : IntKind} {g n cap : Nat} {l : List Nat} (h : Owns w base e k (.slice (some ⟨g, 0, none⟩) n cap) l) (hn : n = l.length) {i : Nat} (hi : i < l.length) : w.cell? ⟨g, i, none⟩ = some (.int k ((l.getD i 0 : Nat) : Int)) := by
  subst hn
  exact (World.ownsRow.cellAt h i (by omega)).trans (vals_get k l i hi)
theorem Owns.freeY {w : World} {base : Nat} {e : TypeId} {k : IntKind} {g n cap : Nat} {l : List Nat} (h : Owns w base e k (.slice (some ⟨g, 0, none⟩) n cap) l) (hn : n = l.length) (i : Nat) : w.frozen? ⟨g, i, none⟩ = false := by
  subst hn
  exact World.ownsRow.frozenAt h i

end Go.Proofs.YtpebmmhokigglaaGreatDoor

namespace Go.Proofs.YtpebmmhokigglaaGreatDoor
open Go.RowKit

/-- An error's number of a segment. -/
def sgC (f : Int) (cs : List IC) : Nat :=
  if f < 0 ∨ 1048576 < f then 1 else if 64 < cs.length then 3 else if 1048576 < f + (cs.length : Int) then 1 else firstBad cs
theorem firstBad_zero {cs : List IC} (h : firstBad cs = 0) : ∀ c ∈ cs, chk c.1 c.2.length = 0 := by
  induction cs with
  | nil => simp
  | cons x l ih =>
    unfold firstBad at h ih
    simp only [List.map_cons, List.foldr_cons] at h
    by_cases h1 : chk x.1 x.2.length = 0
    · rw [if_pos h1] at h
      intro c hc
      rcases List.mem_cons.1 hc with rfl | hc
      · exact h1
      · exact ih h c hc
    · rw [if_neg h1] at h; exact absurd h h1
theorem firstBad_good {cs : List IC} (h : ∀ c ∈ cs, chk c.1 c.2.length = 0) : firstBad cs = 0 := by
  induction cs with
  | nil => rfl
  | cons x l ih =>
    have := ih fun c hc => h c (by simp [hc])
    unfold firstBad at this ⊢
    simp only [List.map_cons, List.foldr_cons]
    rw [if_pos (h x (by simp))]
    exact this
theorem sgC_zero {f : Int} {cs : List IC} (h : sgC f cs = 0) : 0 ≤ f ∧ f + (cs.length : Int) ≤ 1048576 ∧ cs.length ≤ 64 ∧ ∀ c ∈ cs, chk c.1 c.2.length = 0 := by
  unfold sgC at h
  split at h
  · cases h
  split at h
  · cases h
  split at h
  · cases h
  · exact ⟨by omega, by omega, by omega, firstBad_zero h⟩
/-- A segment's text. -/
def sgtext (f : Int) (cs : List IC) : List Nat := enc f.toNat ++ rbytes (cs.map toCC)
theorem sg_okC {cs : List IC} (hc : ∀ c ∈ cs, chk c.1 c.2.length = 0) (h8 : ∀ c ∈ cs, ∀ y ∈ c.2, y < 256) : ∀ c ∈ cs.map toCC, okC c := by
  intro c hm
  obtain ⟨x, hx, rfl⟩ := List.mem_map.1 hm
  exact okC_toCC (hc x hx) (h8 x hx)
theorem sgtext_len {f : Int} {cs : List IC} (h : sgC f cs = 0) (h8 : ∀ c ∈ cs, ∀ y ∈ c.2, y < 256) : (sgtext f cs).length ≤ 6420 ∧ ∀ y ∈ sgtext f cs, y < 256 := by
  obtain ⟨h0, h1, h2, h3⟩ := sgC_zero h
  have hu : U64 f.toNat := by unfold U64; omega
  have e1 := enc_len10 hu
  have e2 := rbytes_len (run := cs.map toCC) (by rw [List.length_map]; exact h2) (sg_okC h3 h8)
  have e3 := rbytes_byte (run := cs.map toCC) (by rw [List.length_map]; exact h2) (sg_okC h3 h8)
  unfold sgtext
  exact ⟨by rw [List.length_append]; omega, app_byte (enc_u64 hu) e3⟩

/-- Which bytes are a segment: the first address, the cells, an error's number. -/
def RSeg (b : List Nat) (f : Int) (cs : List IC) (c : Nat) : Prop :=
  ∃ t c0, FO b t c0 ∧ if c0 ≠ 0 then c = c0 ∧ f = 0 ∧ cs = [] else
    ∃ n r1 c1 run c2 fin, NumRel t 0 n r1 c1 ∧ TRun r1 (withinC n c1 1048576) run c2 fin ∧
      if endC fin.length c2 ≠ 0 then c = endC fin.length c2 ∧ f = 0 ∧ cs = [] else
        c = sgC (withinR n 1048576 : Nat) (run.map toIC) ∧ if c ≠ 0 then f = 0 ∧ cs = [] else f = (withinR n 1048576 : Nat) ∧ cs = run.map toIC
theorem sg_fo_unique {b t t' : List Nat} {c c' : Nat} (h : FO b t c) (h' : FO b t' c') : t = t' ∧ c = c' := h.unique h'
theorem RSeg.unique {b : List Nat} {f f' : Int} {cs cs' : List IC} {c c' : Nat} (h : RSeg b f cs c) (h' : RSeg b f' cs' c') : f = f' ∧ cs = cs' ∧ c = c' := by
  obtain ⟨t, c0, hfo, hif⟩ := h
  obtain ⟨t', c0', hfo', hif'⟩ := h'
  obtain ⟨rfl, rfl⟩ := sg_fo_unique hfo hfo'
  split at hif
  · rename_i h1
    rw [if_pos h1] at hif'
    obtain ⟨rfl, rfl, rfl⟩ := hif
    obtain ⟨rfl, rfl, rfl⟩ := hif'
    exact ⟨rfl, rfl, rfl⟩
  · rename_i h1
    rw [if_neg h1] at hif'
    obtain ⟨n, r1, c1, run, c2, fin, p1, p2, hif⟩ := hif
    obtain ⟨n', r1', c1', run', c2', fin', q1, q2, hif'⟩ := hif'
    obtain ⟨rfl, rfl, rfl⟩ := p1.unique q1
    obtain ⟨rfl, rfl, rfl⟩ := p2.unique q2
    split at hif
    · rename_i h2
      rw [if_pos h2] at hif'
      obtain ⟨rfl, rfl, rfl⟩ := hif
      obtain ⟨rfl, rfl, rfl⟩ := hif'
      exact ⟨rfl, rfl, rfl⟩
    · rename_i h2
      rw [if_neg h2] at hif'
      obtain ⟨rfl, hif⟩ := hif
      obtain ⟨rfl, hif'⟩ := hif'
      split at hif
      · rename_i h3
        rw [if_pos h3] at hif'
        obtain ⟨rfl, rfl⟩ := hif
        obtain ⟨rfl, rfl⟩ := hif'
        exact ⟨rfl, rfl, rfl⟩
      · rename_i h3
        rw [if_neg h3] at hif'
        obtain ⟨rfl, rfl⟩ := hif
        obtain ⟨rfl, rfl⟩ := hif'
        exact ⟨rfl, rfl, rfl⟩
theorem RSeg.bad {b : List Nat} {f : Int} {cs : List IC} {c : Nat} (h : RSeg b f cs c) (hc : c ≠ 0) : f = 0 ∧ cs = [] := by
  obtain ⟨t, c0, _, hif⟩ := h
  by_cases h1 : c0 ≠ 0
  · rw [if_pos h1] at hif
    exact hif.2
  · rw [if_neg h1] at hif
    obtain ⟨n, r1, c1, run, c2, fin, _, _, hif⟩ := hif
    by_cases h2 : endC fin.length c2 ≠ 0
    · rw [if_pos h2] at hif
      exact hif.2
    · rw [if_neg h2] at hif
      obtain ⟨_, hif⟩ := hif
      rw [if_pos hc] at hif
      exact hif
theorem endC_zero {n c : Nat} (h : ¬ endC n c ≠ 0) : n = 0 ∧ c = 0 := by
  unfold endC at h
  by_cases hc : c ≠ 0
  · rw [if_pos hc] at h; exact absurd hc h
  · rw [if_neg hc] at h
    by_cases hn : n = 0
    · exact ⟨hn, Classical.not_not.1 hc⟩
    · rw [if_neg hn] at h; omega
theorem trun_had {rest fin : List Nat} {run : List CC} {c c' : Nat} (h : TRun rest c run c' fin) (hc : c' = 0) : c = 0 := by
  obtain ⟨n, r1, c1, hn, h⟩ := h
  by_cases h0 : c = 0
  · exact h0
  have := (numr_had hn h0).2
  rcases h with ⟨_, _, h, _⟩ | ⟨h, _⟩ | ⟨h, _⟩ <;> omega
theorem sg_fo_good {b t : List Nat} {c : Nat} (h8 : ∀ y ∈ b, y < 256) (h : FO b t c) (hz : c = 0) : (∀ y ∈ t, y < 256) ∧ t.length ≤ 65536 ∧ b = fr t := by
  obtain ⟨t1, s1, c1, hft, hif⟩ := h
  by_cases h1 : c1 ≠ 0
  · rw [if_pos h1] at hif
    exact absurd (hif.2.symm.trans hz) h1
  · rw [if_neg h1] at hif
    obtain rfl : c1 = 0 := Classical.not_not.1 h1
    split at hif
    · rw [hif.2] at hz; cases hz
    · rename_i hs
      obtain ⟨_, _, h3, _, h5⟩ := hft.good
      rw [hif.1]
      exact ⟨fun y hy => h8 y (h5 y hy), h3, ft_whole hft hs⟩
theorem toCC_toIC (c : CC) : toCC (toIC c) = c := by simp [toIC, toCC]
theorem map_toCC (run : List CC) : (run.map toIC).map toCC = run := by
  rw [List.map_map]
  conv => rhs; rw [← List.map_id run]
  exact List.map_congr_left fun c _ => toCC_toIC c
theorem map_toIC {cs : List IC} (h : ∀ c ∈ cs, chk c.1 c.2.length = 0) : (cs.map toCC).map toIC = cs := (run_toCC h).symm
/-- What is taken has just those bytes. -/
theorem RSeg.back {b : List Nat} {f : Int} {cs : List IC} (h8 : ∀ y ∈ b, y < 256) (h : RSeg b f cs 0) : b = fr (sgtext f cs) ∧ sgC f cs = 0 ∧ ∀ c ∈ cs, ∀ y ∈ c.2, y < 256 := by
  obtain ⟨t, c0, hfo, hif⟩ := h
  by_cases h1 : c0 ≠ 0
  · rw [if_pos h1] at hif; exact absurd hif.1.symm h1
  rw [if_neg h1] at hif
  obtain rfl : c0 = 0 := Classical.not_not.1 h1
  obtain ⟨ht8, htl, hb⟩ := sg_fo_good h8 hfo rfl
  obtain ⟨n, r1, c1, run, c2, fin, p1, p2, hif⟩ := hif
  by_cases h2 : endC fin.length c2 ≠ 0
  · rw [if_pos h2] at hif; exact absurd hif.1.symm h2
  rw [if_neg h2] at hif
  obtain ⟨hfl, rfl⟩ := endC_zero h2
  obtain rfl : fin = [] := List.length_eq_zero_iff.1 hfl
  obtain ⟨hs, hif⟩ := hif
  rw [if_neg (by simp)] at hif
  obtain ⟨rfl, rfl⟩ := hif
  have hw := trun_had p2 rfl
  rw [hw] at p2
  obtain ⟨hn20, hc1⟩ : n ≤ 1048576 ∧ c1 = 0 := by
    unfold withinC at hw
    split at hw
    · split at hw <;> omega
    · exact ⟨by omega, hw⟩
  subst hc1
  obtain ⟨rfl, hu⟩ := num_back p1
  obtain ⟨hr1, hrl, hok⟩ := rbytes_trun (fun y hy => ht8 y (by simp [hy])) p2
  rw [List.append_nil] at hr1
  have hwr : withinR n 1048576 = n := (within_good (c := 0) (by omega)).1
  refine ⟨?_, hs.symm, ?_⟩
  · rw [hb, hwr, sgtext, map_toCC, Int.toNat_natCast, hr1]
  · intro c hc y hy
    obtain ⟨x, hx, rfl⟩ := List.mem_map.1 hc
    exact (hok x hx).2.2.2 y hy
/-- What was put is taken. -/
theorem rseg_put {f : Int} {cs : List IC} (h : sgC f cs = 0) (h8 : ∀ c ∈ cs, ∀ y ∈ c.2, y < 256) : RSeg (fr (sgtext f cs)) f cs 0 := by
  obtain ⟨h0, h1, h2, h3⟩ := sgC_zero h
  have hl := (sgtext_len h h8).1
  have hft := ft_fr (t := sgtext f cs) (by omega) []
  rw [List.append_nil] at hft
  obtain ⟨n, rfl⟩ : ∃ n : Nat, f = (n : Int) := ⟨f.toNat, by omega⟩
  have hw : withinR n 1048576 = n ∧ withinC n 0 1048576 = 0 := within_good (by omega)
  have ht := trun_rbytes (run := cs.map toCC) (by rw [List.length_map]; exact h2) (sg_okC h3 h8) []
  rw [List.append_nil] at ht
  refine ⟨sgtext n cs, 0, ⟨_, _, _, hft, by rw [if_neg (by decide), if_neg (by rw [fr_length]; omega)]; exact ⟨rfl, rfl⟩⟩, ?_⟩
  rw [if_neg (by decide)]
  refine ⟨n, rbytes (cs.map toCC), 0, cs.map toCC, 0, [], ?_, by rw [hw.2]; exact ht, ?_⟩
  · unfold sgtext
    rw [Int.toNat_natCast]
    exact num_of (by unfold U64; omega) _
  · rw [if_neg (by decide), hw.1, map_toIC h3]
    exact ⟨h.symm, by rw [if_neg (by decide)]; exact ⟨rfl, rfl⟩⟩

end Go.Proofs.YtpebmmhokigglaaGreatDoor

namespace Go.Proofs.YtpebmmhokigglaaGreatDoor
open Go.RowKit

/-- A box of a segment. -/
def SgB (w : World) (q : Nat) (x y : Value) : Prop := w.heap[q]? = some (.cells #[x, y] 24 (0, 0))
theorem SgB.lt {w : World} {q : Nat} {x y : Value} (h : SgB w q x y) : q < w.heap.size := (Array.getElem?_eq_some_iff.1 h).1
theorem SgB.low {w w' : World} {B q : Nat} {x y : Value} (h : SgB w q x y) (hb : Below B w w') (hq : q < B) : SgB w' q x y := (hb.block _ hq).trans h
theorem SgB.old {w w' : World} {q : Nat} {x y : Value} (h : SgB w q x y) (hb : Below w.heap.size w w') : SgB w' q x y := h.low hb h.lt
theorem SgB.x {w : World} {q : Nat} {x y : Value} (h : SgB w q x y) : w.cell? ⟨q, 0, none⟩ = some x ∧ w.cell? ⟨q, 1, none⟩ = some y ∧ w.frozen? ⟨q, 0, none⟩ = false ∧ w.frozen? ⟨q, 1, none⟩ = false := blk2 h
theorem sgb_new (w : World) (x y : Value) : SgB (w.alloc (.cells #[x, y] 24)) w.heap.size x y := heap_alloc_new _ _
theorem SgB.set {w : World} {q : Nat} {x y : Value} (h : SgB w q x y) (a b : Value) : SgB ((w.setCell ⟨q, 0, none⟩ a).setCell ⟨q, 1, none⟩ b) q a b := by
  unfold SgB at h ⊢
  rw [heap_setCell_same _ _ 1 _ _ _ (heap_setCell_same _ _ 0 _ _ _ h)]
  rfl
theorem SgB.set1 {w : World} {q : Nat} {x y : Value} (h : SgB w q x y) (b : Value) : SgB (w.setCell ⟨q, 1, none⟩ b) q x b := by
  unfold SgB at h ⊢
  rw [heap_setCell_same _ _ 1 _ _ _ h]
  rfl

theorem firstBad_take {cs : List IC} {k : Nat} (hk : k < cs.length) (h : ∀ c ∈ cs.take k, chk c.1 c.2.length = 0) (hc : chk (cs.getD k (0, [])).1 (cs.getD k (0, [])).2.length ≠ 0) : firstBad cs = chk (cs.getD k (0, [])).1 (cs.getD k (0, [])).2.length := by
  have e : cs = cs.take k ++ (cs.getD k (0, []) :: cs.drop (k + 1)) := by
    rw [List.getD_eq_getElem?_getD, List.getElem?_eq_getElem hk]
    simp
  conv => lhs; rw [e]
  unfold firstBad
  rw [List.map_append, fold_zero (by
    intro x hx
    obtain ⟨c, hc, rfl⟩ := List.mem_map.1 hx
    exact h c hc)]
  simp only [List.map_cons, List.foldr_cons]
  rw [if_neg hc]

theorem w64_in {x : Int} (h0 : -9223372036854775808 ≤ x) (h1 : x ≤ 9223372036854775807) : wrap64 x = x := by
  have h2 : (x + 9223372036854775808) % 18446744073709551616 = x + 9223372036854775808 := Int.emod_eq_of_lt (by omega) (by omega)
  simp only [wrap64, h2]
  omega

set_option maxHeartbeats 1000000 in
set_option maxRecDepth 100000 in
theorem sgend_any (f : Int) (ao : Option Addr) (n cap : Nat) (w : World) :
    Calls Tryz.prog 82 #[.agg #[.int .i64 f, .slice ao n cap]] w fun e w' => e = .returned (.int .i64 (wrap64 (f + (n : Int)))) ∧ Below w.heap.size w w' := by
  have hb1 : Below w.heap.size w (w.alloc (.cells #[.int .i64 f, .slice ao n cap] 24)) := (Below.refl _ _).alloc (Nat.le_refl _) _
  have HB1 := Lib.hid hb1
  clear hb1
  go_enter Tryz.func82, Tryz.ntmps82
  go_wp2
  go_ret
  exact ⟨rfl, HB1.out⟩

set_option maxHeartbeats 2000000 in
set_option maxRecDepth 100000 in
theorem sgcheck_any (f : Int) (v : Value) (cs : List IC) (w : World) (B : Nat → Prop) (h : CellsAt w B v cs) :
    Calls Tryz.prog 47 #[.agg #[.int .i64 f, v]] w fun e w' => e = .returned (errV (sgC f cs)) ∧ Below w.heap.size w w' := by
  obtain ⟨ao, cap, rfl, l1, m1, _⟩ := h.val
  obtain ⟨W1, hW1⟩ : ∃ W1, W1 = w.alloc (.cells #[.int .i64 f, .slice ao cs.length cap] 24) := ⟨_, rfl⟩
  have hb1 : Below w.heap.size w W1 := by rw [hW1]; exact (Below.refl _ _).alloc (Nat.le_refl _) _
  have hx1 : SgB W1 w.heap.size (.int .i64 f) (.slice ao cs.length cap) := by rw [hW1]; exact sgb_new _ _ _
  have HX1 := Lib.hid hx1
  have HB1 := Lib.hid hb1
  have HR := Lib.hid (h.old hb1)
  obtain ⟨n, hn⟩ : ∃ n, n = cs.length := ⟨_, rfl⟩
  rw [← hn] at HX1 HR hW1 ⊢
  have HN := Lib.hid hn
  obtain ⟨z, hz⟩ : ∃ z, z = sgC f cs := ⟨_, rfl⟩
  rw [← hz]
  have HZ := Lib.hid hz
  have HW1 := Lib.hid hW1
  clear h hb1 l1 m1 hx1 hn hz hW1
  by_cases g1 : f < 0
  · have HE : Hid (errV z = .iface 68 (.int .i64 1)) := Lib.hid (by rw [HZ.out, sgC, if_pos (.inl g1)]; exact errV_pos (by decide))
    rw [HE.out]
    go_enter Tryz.func47, Tryz.ntmps47
    go_wp2
    go_ret
    exact ⟨rfl, by rw [← HW1.out]; exact HB1.out⟩
  by_cases g2 : f > 1048576
  · have HE : Hid (errV z = .iface 68 (.int .i64 1)) := Lib.hid (by rw [HZ.out, sgC, if_pos (.inr (by omega))]; exact errV_pos (by decide))
    rw [HE.out]
    go_enter Tryz.func47, Tryz.ntmps47
    go_wp2
    go_ret
    exact ⟨rfl, by rw [← HW1.out]; exact HB1.out⟩
  by_cases g3 : (n : Int) > 64
  · have HE : Hid (errV z = .iface 68 (.int .i64 3)) := Lib.hid (by rw [HZ.out, sgC, if_neg (by omega), if_pos (by rw [← HN.out]; omega)]; exact errV_pos (by decide))
    rw [HE.out]
    go_enter Tryz.func47, Tryz.ntmps47
    go_wp2
    go_ret
    exact ⟨rfl, by rw [← HW1.out]; exact HB1.out⟩
  have HEN := Lib.hid (sgend_any f ao n cap W1)
  have hwr : wrap64 (f + (n : Int)) = f + (n : Int) := w64_in (by omega) (by omega)
  rw [hwr] at HEN
  obtain ⟨m, hm⟩ : ∃ m, m = f + (n : Int) := ⟨_, rfl⟩
  rw [← hm] at HEN
  have HM := Lib.hid hm
  clear hwr
  by_cases g4 : m > 1048576
  · have HE : Hid (errV z = .iface 68 (.int .i64 1)) := Lib.hid (by rw [HZ.out, sgC, if_neg (by omega), if_neg (by rw [← HN.out]; omega), if_pos (by rw [← HN.out]; omega)]; exact errV_pos (by decide))
    rw [HE.out]
    clear hm
    go_enter Tryz.func47, Tryz.ntmps47
    go_wp2_with fail
    rw [← HW1.out]
    refine HEN.out.mono ?_
    rintro e w2 ⟨rfl, hb2⟩
    have HB2 : Hid (Below w.heap.size w w2) := Lib.hid (HB1.out.trans (hb2.mono HB1.out.size))
    clear hb2
    go_wp2
    go_ret
    exact ⟨rfl, HB2.out⟩
  have HZB : Hid (z = firstBad cs) := Lib.hid (by rw [HZ.out, sgC, if_neg (by omega), if_neg (by rw [← HN.out]; omega), if_neg (by rw [← HN.out]; omega)])
  have hn64 : (n : Int) ≤ 64 := by omega
  clear hm g3
  go_enter Tryz.func47, Tryz.ntmps47
  go_wp2_with fail
  rw [← HW1.out]
  refine HEN.out.mono ?_
  rintro e w2 ⟨rfl, hb2⟩
  have HB2 : Hid (Below w.heap.size w w2) := Lib.hid (HB1.out.trans (hb2.mono HB1.out.size))
  have HR2 := Lib.hid (HR.out.old hb2)
  obtain ⟨c0, c1, _, _⟩ := (HX1.out.old hb2).x
  clear hb2
  go_wp2
  go_loopw [4, 5, 27] (fun _ _ i wr => ∃ k : Nat, k ≤ n ∧ i = .int .i64 (k : Int) ∧ (∀ c ∈ cs.take k, chk c.1 c.2.length = 0) ∧ Below w2.heap.size w2 wr)
    (fun _ _ i _ => n - (intOf i).toNat)
  case atStart => exact ⟨0, Nat.zero_le _, rfl, by simp, Below.refl _ _⟩
  case round =>
    obtain ⟨k, hk, rfl, hno, hb⟩ := hrel
    have HB := Lib.hid hb
    have HNO := Lib.hid hno
    clear hb hno c0 c1
    by_cases hlt : k < n
    · have hltc : k < cs.length := by rw [← HN.out]; exact hlt
      obtain ⟨b, off, x, rfl, _, _, c0, c1, hat⟩ := (HR2.out.old HB.out).at hltc
      have HST := Lib.hid (firstBad_take hltc HNO.out)
      have HTK := Lib.hid (take_snocI cs k hltc)
      generalize hg : cs.getD k (0, []) = g at c0 c1 hat
      rw [hg] at HST HTK
      obtain ⟨kk, d⟩ := g
      simp only at c0 hat
      obtain ⟨aot, capt, rfl, _, _, _⟩ := hat.reads.val
      have HD := Lib.hid hat.reads
      clear hg hat hltc
      have hlti : (k : Int) < (n : Int) := by omega
      have hal : Below wr.heap.size wr (wr.alloc (.cells #[.int .i64 kk, .slice aot d.length capt] 72)) := (Below.refl _ _).alloc (Nat.le_refl _) _
      have HD2 := Lib.hid (HD.out.new hal)
      have HAL := Lib.hid (HB.out.trans (hal.mono HB.out.size))
      clear hal HD
      go_wp2_with fail
      refine (check_any kk _ d _ HD2.out).mono ?_
      rintro e w3 ⟨rfl, hb3⟩
      have HB3 := Lib.hid (HAL.out.trans (hb3.mono HAL.out.size))
      clear hb3 HD2 HAL c0 c1
      by_cases hc : chk kk d.length = 0
      · have HN1 : Hid (∀ c ∈ cs.take (k + 1), chk c.1 c.2.length = 0) := Lib.hid (by
          intro c hcm
          rw [HTK.out] at hcm
          rcases List.mem_append.1 hcm with hcm | hcm
          · exact HNO.out c hcm
          · obtain rfl := List.mem_singleton.1 hcm
            exact hc)
        rw [hc, errV_zero]
        clear hc HST
        go_wp2
        go_roundw
        case rel => exact ⟨k + 1, by omega, by go_num, HN1.out, HB3.out⟩
        case measure => simp [intOf]; omega
      · have HE : Hid (errV z = errV (chk kk d.length)) := Lib.hid (by rw [HZB.out, HST.out hc])
        have he := errV_pos hc
        rw [he]
        clear HST hc
        go_wp2
        go_ret
        exact ⟨by rw [HE.out, he]; rfl, HB2.out.trans (HB3.out.mono HB2.out.size)⟩
    · obtain rfl : k = n := by omega
      have HE : Hid (Value.nilIface = errV z) := Lib.hid (by
        have := HNO.out
        rw [HN.out, List.take_length] at this
        rw [HZB.out, firstBad_good this, errV_zero])
      go_wp2
      go_ret
      exact ⟨by rw [← HE.out]; rfl, HB2.out.trans (HB.out.mono HB2.out.size)⟩

end Go.Proofs.YtpebmmhokigglaaGreatDoor

namespace Go.Proofs.YtpebmmhokigglaaGreatDoor
open Go.RowKit

/-- A row of cells of the call's own, that reads. -/
structure OCs (w : World) (base : Nat) (v : Value) (cs : List IC) : Prop where
  ex : ∃ l : List (Int × Value), OwnsI w base v l ∧ l.length = cs.length ∧ ∀ i, (hi : i < l.length) → l[i].1 = (cs.getD i (0, [])).1 ∧ At w (Own w base 5) .u8 l[i].2 (cs.getD i (0, [])).2
theorem OCs.below {w w' : World} {base : Nat} {v : Value} {cs : List IC} (h : OCs w base v cs) (hb : Below w.heap.size w w') : OCs w' base v cs := by
  obtain ⟨l, h1, h2, h3⟩ := h.ex
  exact ⟨l, h1.below hb, h2, fun i hi => ⟨(h3 i hi).1, (h3 i hi).2.own (kept_new hb _)⟩⟩
theorem OCs.lt {w : World} {base : Nat} {v : Value} {cs : List IC} (h : OCs w base v cs) : ∀ j, v.ownBlock = some j → base ≤ j ∧ j < w.heap.size := by
  obtain ⟨l, h1, _⟩ := h.ex
  exact h1.lt
theorem OCs.form {w : World} {base : Nat} {v : Value} {cs : List IC} (h : OCs w base v cs) : ∃ ao cap, v = .slice ao cs.length cap := by
  obtain ⟨l, h1, h2, _⟩ := h.ex
  rw [← h2]
  exact h1.form
theorem OCs.cells {w : World} {base : Nat} {v : Value} {cs : List IC} (h : OCs w base v cs) : CellsAt w (fun j => base ≤ j) v cs := by
  obtain ⟨l, h1, h2, h3⟩ := h.ex
  exact h1.cells cs _ h2.symm (fun j hj => (h1.lt j hj).1) fun i hi => ⟨(h3 i hi).1, (h3 i hi).2.mono fun j _ hB => hB.1⟩
theorem OCs.mono {w : World} {base base' : Nat} {v : Value} {cs : List IC} (h : OCs w base v cs) (hb : base' ≤ base) : OCs w base' v cs := by
  obtain ⟨l, h1, h2, h3⟩ := h.ex
  refine ⟨l, ?_, h2, fun i hi => ⟨(h3 i hi).1, (h3 i hi).2.mono fun j _ hB => ⟨Nat.le_trans hb hB.1, hB.2⟩⟩⟩
  refine ⟨h1.1, ?_⟩
  rcases h1.2 with h2 | ⟨g, cap, cur, e1, e2, r⟩
  · exact .inl h2
  · exact .inr ⟨g, cap, cur, e1, Nat.le_trans hb e2, r⟩
/-- One more. -/
theorem OCs.push {w w' : World} {base : Nat} {v v' u : Value} {k : Int} {d : List Nat} {cs : List IC} {l : List (Int × Value)} (h1 : OwnsI w base v l) (h2 : l.length = cs.length)
    (h3 : ∀ i, (hi : i < l.length) → l[i].1 = (cs.getD i (0, [])).1 ∧ At w (Own w base 5) .u8 l[i].2 (cs.getD i (0, [])).2)
    (hg : w.grownBy w' v.ownBlock) (ho : OwnsI w' base v' (l ++ [(k, u)])) (hu : At w (Own w base 5) .u8 u d) : OCs w' base v' (cs ++ [(k, d)]) := by
  have hk := kept_u8 (base := base) hg (fun j hj => by
    obtain ⟨c1, e1⟩ := h1.ty hj
    rintro ⟨c2, e2⟩
    have := e1.symm.trans e2
    cases this)
  refine ⟨_, ho, by simp [h2], fun i hi => ?_⟩
  rw [List.length_append] at hi
  by_cases hil : i < l.length
  · have e1 : (l ++ [(k, u)])[i] = l[i] := List.getElem_append_left hil
    have e2 : (cs ++ [(k, d)]).getD i (0, []) = cs.getD i (0, []) := by
      rw [List.getD_eq_getElem?_getD, List.getElem?_append_left (by rw [← h2]; exact hil), ← List.getD_eq_getElem?_getD]
    rw [e1, e2]
    exact ⟨(h3 i hil).1, (h3 i hil).2.own hk⟩
  · obtain rfl : i = l.length := by simp at hi; omega
    have e1 : (l ++ [(k, u)])[l.length] = (k, u) := by simp
    have e2 : (cs ++ [(k, d)]).getD l.length (0, []) = (k, d) := by
      rw [h2, List.getD_eq_getElem?_getD, List.getElem?_append_right (Nat.le_refl _)]
      simp
    rw [e1, e2]
    exact ⟨rfl, hu.own hk⟩
/-- A block ahead of what is owned is written. -/
theorem OCs.set {w : World} {base : Nat} {v : Value} {cs : List IC} (h : OCs w base v cs) {q : Nat} (hq : q < base) (i : Nat) (x : Value) : OCs (w.setCell ⟨q, i, none⟩ x) base v cs := by
  obtain ⟨l, h1, h2, h3⟩ := h.ex
  refine ⟨l, h1.grown (grown_set w q i x) ?_, h2, fun j hj => ⟨(h3 j hj).1, (h3 j hj).2.own ⟨by simp, fun b hb hB => heap_setCell_other w ⟨q, i, none⟩ b x (fun e => by have := hB.1; simp only at e; omega)⟩⟩⟩
  cases hv : v.ownBlock with
  | none => exact .inl rfl
  | some j => exact .inr fun e => by have := (h1.lt j hv).1; cases e; omega
end Go.Proofs.YtpebmmhokigglaaGreatDoor

namespace Go.Proofs.YtpebmmhokigglaaGreatDoor
open Go.RowKit

theorem sameC_iff (k1 k2 : Int) (d1 d2 : List Nat) : sameC k1 d1 k2 d2 = true ↔ (k1, d1) = (k2, d2) := by
  unfold sameC
  simp
theorem take_eq_next {a b : List IC} {k : Nat} (h : a.take k = b.take k) (ha : k < a.length) (hb : k < b.length) (h2 : a.getD k (0, []) = b.getD k (0, [])) : a.take (k + 1) = b.take (k + 1) := by
  rw [take_snocI a k ha, take_snocI b k hb, h, h2]

set_option maxHeartbeats 2000000 in
set_option maxRecDepth 100000 in
/-- Two rows of cells compared. -/
theorem equalS_any (v1 v2 : Value) (a b : List IC) (w : World) (A B : Nat → Prop) (h1 : CellsAt w A v1 a) (h2 : CellsAt w B v2 b) (ha : ∀ c ∈ a, ∀ y ∈ c.2, y < 256) (hb : ∀ c ∈ b, ∀ y ∈ c.2, y < 256) :
    Calls Tryz.prog 42 #[v1, v2, .func (.func 43) #[] #[]] w fun e w' => e = .returned (.bool (decide (a = b))) ∧ Below w.heap.size w w' := by
  obtain ⟨ao1, cap1, rfl, l1, m1, _⟩ := h1.val
  obtain ⟨ao2, cap2, rfl, _, _, _⟩ := h2.val
  have hbig : (a.length : Int) ≤ 9223372036854775807 := by unfold maxLen at m1; omega
  have HR1 := Lib.hid h1
  have HR2 := Lib.hid h2
  have HA := Lib.hid ha
  have HB8 := Lib.hid hb
  obtain ⟨n1, hn1⟩ : ∃ n, n = a.length := ⟨_, rfl⟩
  obtain ⟨n2, hn2⟩ : ∃ n, n = b.length := ⟨_, rfl⟩
  rw [← hn1] at HR1 hbig ⊢
  rw [← hn2] at HR2 ⊢
  have HN1 := Lib.hid hn1
  have HN2 := Lib.hid hn2
  clear h1 h2 ha hb hn1 hn2 l1 m1
  by_cases hne : n1 = n2
  rotate_left
  · have hni : ¬ (n1 : Int) = (n2 : Int) := by omega
    have HD : Hid (decide (a = b) = false) := Lib.hid (decide_eq_false fun e => hne (by rw [HN1.out, HN2.out, e]))
    clear hne
    go_enter Tryz.func42, Tryz.ntmps42
    go_wp2
    go_ret
    exact ⟨by rw [HD.out]; rfl, Below.refl _ _⟩
  subst hne
  go_enter Tryz.func42, Tryz.ntmps42
  go_wp2
  go_loopw [7, 8, 9, 17] (fun _ _ _ i wr => ∃ k : Nat, k ≤ n1 ∧ i = .int .i64 (k : Int) ∧ a.take k = b.take k ∧ Below w.heap.size w wr)
    (fun _ _ _ i _ => n1 - (intOf i).toNat)
  case atStart => exact ⟨0, Nat.zero_le _, rfl, rfl, Below.refl _ _⟩
  case round =>
    obtain ⟨k, hk, rfl, hsm, hb⟩ := hrel
    have HB := Lib.hid hb
    have HS := Lib.hid hsm
    clear hb hsm
    by_cases hlt : k < n1
    · have hla : k < a.length := by rw [← HN1.out]; exact hlt
      have hlb : k < b.length := by rw [← HN2.out]; exact hlt
      obtain ⟨b1, off1, x1, rfl, _, _, c0, c1, hat1⟩ := (HR1.out.old HB.out).at hla
      obtain ⟨b2, off2, x2, rfl, hb2lt, _, e0, e1, hat2⟩ := (HR2.out.old HB.out).at hlb
      have HNX := Lib.hid (take_eq_next HS.out hla hlb)
      have hma : ∀ y ∈ (a.getD k (0, [])).2, y < 256 := HA.out _ (by rw [List.getD_eq_getElem?_getD, List.getElem?_eq_getElem hla]; exact List.getElem_mem hla)
      have hmb : ∀ y ∈ (b.getD k (0, [])).2, y < 256 := HB8.out _ (by rw [List.getD_eq_getElem?_getD, List.getElem?_eq_getElem hlb]; exact List.getElem_mem hlb)
      have HDF : Hid (a.getD k (0, []) ≠ b.getD k (0, []) → decide (a = b) = false) := Lib.hid fun h => decide_eq_false fun e => h (by rw [e])
      generalize hg1 : a.getD k (0, []) = g1 at c0 c1 hat1 hma
      generalize hg2 : b.getD k (0, []) = g2 at e0 e1 hat2 hmb
      rw [hg1, hg2] at HNX HDF
      obtain ⟨k1, d1⟩ := g1
      obtain ⟨k2, d2⟩ := g2
      simp only at c0 hat1 hma e0 hat2 hmb
      obtain ⟨aot1, capt1, rfl, _, _, _⟩ := hat1.reads.val
      obtain ⟨aot2, capt2, rfl, _, _, _⟩ := hat2.reads.val
      have hki : (k : Int) < (n1 : Int) := by omega
      obtain ⟨W2, hW2⟩ : ∃ W2, W2 = (wr.alloc (.cells #[.int .i64 k1, .slice aot1 d1.length capt1] 72)).alloc (.cells #[.int .i64 k2, .slice aot2 d2.length capt2] 72) := ⟨_, rfl⟩
      have hb2 : Below wr.heap.size wr W2 := by rw [hW2]; exact ((Below.refl _ _).alloc (Nat.le_refl _) _).alloc (by simp) _
      have HCS := Lib.hid (same_any k1 k2 _ _ d1 d2 W2 (hat1.reads.new hb2) (hat2.reads.new hb2) hma hmb)
      have f0 : ∀ o, (wr.alloc o).cell? ⟨b2, off2 + k * 2, none⟩ = some (.int .i64 k2) := fun o => (((Below.refl _ _).alloc (Nat.le_refl _) o : Below wr.heap.size wr _).cell (p := ⟨b2, off2 + k * 2, none⟩) hb2lt).trans e0
      have f1 : ∀ o, (wr.alloc o).cell? ⟨b2, off2 + k * 2 + 1, none⟩ = some (.slice aot2 d2.length capt2) := fun o => (((Below.refl _ _).alloc (Nat.le_refl _) o : Below wr.heap.size wr _).cell (p := ⟨b2, off2 + k * 2 + 1, none⟩) hb2lt).trans e1
      have HB2 : Hid (Below w.heap.size w W2) := Lib.hid (HB.out.trans (hb2.mono HB.out.size))
      obtain ⟨sm, hsm⟩ : ∃ s, s = sameC k1 d1 k2 d2 := ⟨_, rfl⟩
      rw [← hsm] at HCS
      have HSM := Lib.hid hsm
      have HW2 := Lib.hid hW2
      generalize d1.length = m1 at *
      generalize d2.length = m2 at *
      clear hg1 hg2 hat1 hat2 hma hmb hb2 hla hlb hsm hW2
      go_wp2_with fail
      rw [← HW2.out]
      refine HCS.out.mono ?_
      rintro r w3 ⟨rfl, hb3⟩
      have HB3 : Hid (Below w.heap.size w w3) := Lib.hid (HB2.out.trans (hb3.mono HB2.out.size))
      clear hb3 c0 c1 e0 e1 f0 f1
      cases sm
      · have HD : Hid (decide (a = b) = false) := Lib.hid (HDF.out fun e => by
          have := (sameC_iff k1 k2 d1 d2).2 e
          rw [← HSM.out] at this
          cases this)
        go_wp2
        go_ret
        exact ⟨by rw [HD.out]; rfl, HB3.out⟩
      · have HN : Hid (a.take (k + 1) = b.take (k + 1)) := Lib.hid (HNX.out ((sameC_iff k1 k2 d1 d2).1 HSM.out.symm))
        go_wp2
        go_roundw
        case rel => exact ⟨k + 1, by omega, by go_num, HN.out, HB3.out⟩
        case measure => simp [intOf]; omega
    · obtain rfl : k = n1 := by omega
      have HD : Hid (decide (a = b) = true) := Lib.hid (decide_eq_true (by
        have := HS.out
        rw [HN1.out, List.take_length] at this
        rw [← HN1.out, HN2.out, List.take_length] at this
        exact this))
      go_wp2
      go_ret
      exact ⟨by rw [HD.out]; rfl, HB.out⟩

/-- Are two segments the same? -/
def sgSame (f1 : Int) (a : List IC) (f2 : Int) (b : List IC) : Bool := decide (f1 = f2) && decide (a = b)

set_option maxHeartbeats 2000000 in
set_option maxRecDepth 100000 in
theorem sgsame_any (f1 f2 : Int) (v1 v2 : Value) (a b : List IC) (w : World) (A B : Nat → Prop) (h1 : CellsAt w A v1 a) (h2 : CellsAt w B v2 b) (ha : ∀ c ∈ a, ∀ y ∈ c.2, y < 256) (hb : ∀ c ∈ b, ∀ y ∈ c.2, y < 256) :
    Calls Tryz.prog 22 #[.agg #[.int .i64 f1, v1], .agg #[.int .i64 f2, v2]] w fun e w' => e = .returned (.bool (sgSame f1 a f2 b)) ∧ Below w.heap.size w w' := by
  obtain ⟨ao1, cap1, rfl, _, _, _⟩ := h1.val
  obtain ⟨ao2, cap2, rfl, _, _, _⟩ := h2.val
  obtain ⟨W1, hW1⟩ : ∃ W1, W1 = (w.alloc (.cells #[.int .i64 f1, .slice ao1 a.length cap1] 24)).alloc (.cells #[.int .i64 f2, .slice ao2 b.length cap2] 24) := ⟨_, rfl⟩
  have hb1 : Below w.heap.size w W1 := by rw [hW1]; exact ((Below.refl _ _).alloc (Nat.le_refl _) _).alloc (by simp) _
  have HB1 := Lib.hid hb1
  by_cases he : f1 = f2
  · have heq : (f1 == f2) = true := by rw [beq_iff_eq]; exact he
    have HS : Hid (sgSame f1 a f2 b = decide (a = b)) := Lib.hid (by unfold sgSame; rw [decide_eq_true he, Bool.true_and])
    have HC := Lib.hid (equalS_any _ _ a b W1 A B (h1.old hb1) (h2.old hb1) ha hb)
    clear he h1 h2 hb1 ha hb
    subst hW1
    go_enter Tryz.func22, Tryz.ntmps22
    go_wp2_with fail
    refine HC.out.mono ?_
    rintro e w1 ⟨rfl, hb2⟩
    have HB2 := Lib.hid (HB1.out.trans (hb2.mono HB1.out.size))
    clear hb2
    go_wp2
    go_ret
    exact ⟨by rw [HS.out]; rfl, HB2.out⟩
  · have heq : (f1 == f2) = false := by rw [beq_eq_false_iff_ne]; exact he
    have HS : Hid (sgSame f1 a f2 b = false) := Lib.hid (by unfold sgSame; rw [decide_eq_false he, Bool.false_and])
    clear he h1 h2 hb1 ha hb
    subst hW1
    go_enter Tryz.func22, Tryz.ntmps22
    go_wp2
    go_ret
    exact ⟨by rw [HS.out]; rfl, HB1.out⟩

end Go.Proofs.YtpebmmhokigglaaGreatDoor
