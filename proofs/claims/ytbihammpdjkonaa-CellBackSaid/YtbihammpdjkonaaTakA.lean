/- A taker of runs in memory; the contracts of its upTo and endsWith. -/
import Derived.Test.YtbihammpdjkonaaCelT
import Derived.Test.YtbihammpdjkonaaRdE
namespace Go.Proofs.Ytbihammpdjkonaa
open Go.RowKit

/-- A taker's block. -/
def Tkr (w : World) (t p : Nat) (rnv lsv : Value) : Prop := w.heap[t]? = some (.cells #[.pointer (some ⟨p, 0, none⟩), rnv, lsv] 92 (0, 0))
theorem Tkr.lt {w : World} {t p : Nat} {rnv lsv : Value} (h : Tkr w t p rnv lsv) : t < w.heap.size := (Array.getElem?_eq_some_iff.1 h).1
theorem Tkr.c0 {w : World} {t p : Nat} {rnv lsv : Value} (h : Tkr w t p rnv lsv) : w.cell? ⟨t, 0, none⟩ = some (.pointer (some ⟨p, 0, none⟩)) := by rw [cell_of_row w t 0 _ _ _ h]; rfl
theorem Tkr.c1 {w : World} {t p : Nat} {rnv lsv : Value} (h : Tkr w t p rnv lsv) : w.cell? ⟨t, 1, none⟩ = some rnv := by rw [cell_of_row w t 1 _ _ _ h]; rfl
theorem Tkr.c2 {w : World} {t p : Nat} {rnv lsv : Value} (h : Tkr w t p rnv lsv) : w.cell? ⟨t, 2, none⟩ = some lsv := by rw [cell_of_row w t 2 _ _ _ h]; rfl
theorem Tkr.fz {w : World} {t p : Nat} {rnv lsv : Value} (h : Tkr w t p rnv lsv) (i : Nat) : w.frozen? ⟨t, i, none⟩ = false := frozen_of_row w t i _ _ h
theorem Tkr.grown {w w' : World} {t p : Nat} {rnv lsv : Value} {r : Option Nat} (h : Tkr w t p rnv lsv) (hg : w.grownBy w' r) (hr : some t ≠ r) : Tkr w' t p rnv lsv := (hg.block t h.lt hr).trans h
theorem Tkr.below {w w' : World} {t p : Nat} {rnv lsv : Value} (h : Tkr w t p rnv lsv) (hb : Below w.heap.size w w') : Tkr w' t p rnv lsv := (hb.block t h.lt).trans h
/-- A taker's block isn't a reader's. -/
theorem Tkr.ne {w : World} {t p : Nat} {rnv lsv rv : Value} {row : List Nat} {place c : Nat} (h : Tkr w t p rnv lsv) (hr : Rd w p rv row place c) : t ≠ p := by
  rintro rfl
  have := h.symm.trans hr.blk
  cases this

/-- A number up to a bound, and the error then. -/
def upR (n most : Nat) : Nat := if most < n then 0 else n
def upC (n c most code : Nat) : Nat := if most < n then (if c = 0 then code else c) else c
theorem up_bad {n c most code : Nat} (h : most < n) : upR n most = 0 ∧ upC n c most code = (if c = 0 then code else c) := ⟨if_pos h, if_pos h⟩
theorem up_good {n c most code : Nat} (h : ¬ most < n) : upR n most = n ∧ upC n c most code = c := ⟨if_neg h, if_neg h⟩
def UpPost (p : Nat) (rv : Value) (row : List Nat) (place c most code : Nat) (w : World) (e : Ending) (w' : World) : Prop :=
  ∃ n place' c1 : Nat, e = .returned (.int .i64 (upR n most : Nat)) ∧ NumRel (row.drop place) c n (row.drop place') c1 ∧ Rd w' p rv row place' (upC n c1 most code) ∧ w.grownBy w' (some p)

set_option maxHeartbeats 1000000 in
set_option maxRecDepth 100000 in
theorem upTo_any {w : World} {t p : Nat} {rnv lsv rv : Value} {row : List Nat} {place c : Nat} (ht : Tkr w t p rnv lsv) (h : Rd w p rv row place c) (most code : Nat) (hm : most ≤ 1000000) (hc : code ≠ 0) :
    Calls Try.prog 52 #[.pointer (some ⟨t, 0, none⟩), .int .i64 (most : Int), errV code] w (UpPost p rv row place c most code w) := by
  have hne := ht.ne h
  have t0 := ht.c0
  have HT := Lib.hid ht
  have HR := Lib.hid h
  have HNE := Lib.hid hne
  have HC := Lib.hid hc
  clear ht h hne hc
  have hmw : IntKind.u64.wrap (most : Int) = (most : Int) := IntWalk.u64_in _ (by omega)
  obtain ⟨ev, hev⟩ : ∃ ev, ev = errV code := ⟨_, rfl⟩
  rw [← hev]
  have HEV := Lib.hid hev
  clear hev
  go_enter Try.func52, Try.ntmps52
  go_wp2_with fail
  refine (number_any HR.out).mono ?_
  rintro e w1 ⟨n, place', c1, rfl, hn, hrd, hg⟩
  have HN := Lib.hid hn
  have HR1 := Lib.hid hrd
  have HG := Lib.hid hg
  have t1 := (HT.out.grown hg (by have := HNE.out; simp; omega)).c0
  clear hn hrd hg t0
  by_cases hlt : (most : Int) < (n : Int)
  · have hb := up_bad (n := n) (c := c1) (most := most) (code := code) (by omega)
    have HB := Lib.hid hb
    clear hb
    go_wp2_with fail
    rw [HEV.out]
    refine (fail_any HR1.out code).mono ?_
    rintro e w2 ⟨rfl, hrd2, hg2⟩
    have HR2 := Lib.hid hrd2
    have HG2 := Lib.hid hg2
    clear hrd2 hg2 t1
    go_wp2
    go_ret
    exact ⟨n, place', c1, by rw [HB.out.1]; rfl, HN.out, by rw [HB.out.2]; exact HR2.out, grownBy_trans HG.out HG2.out (fun _ h _ => h)⟩
  · have hb := up_good (n := n) (c := c1) (most := most) (code := code) (by omega)
    have HB := Lib.hid hb
    clear hb
    go_wp2
    go_ret
    exact ⟨n, place', c1, by rw [HB.out.1]; rfl, HN.out, by rw [HB.out.2]; exact HR1.out, HG.out⟩

end Go.Proofs.Ytbihammpdjkonaa
