/- The document's own unit: what it reads as, its tail, a cell of it, its epoch. · The document's own unit: Seal. · The document's own unit: a cell put in. · The document's own unit: Write. · The document's own unit: Fill. · The document's own unit: Read. · The document's own unit: Trim. · The document's own unit: Cut. · The document's own unit: two rows compared. · The document's own unit: Check. · Law 08: entries and units as the document's. · Law 08: a unit as the document's; two of the document's compared. · Law 08: what an act does, and what Do keeps at hand. -/
import Derived.Test.YtiaijpknnomlnaaGreatUjP
import Derived.Test.YtiaijpknnomlnaaGreatStepR
namespace Go.Proofs.YtiaijpknnomlnaaGreat
open Go.RowKit

def dRow (f : Int × IC) : List Value := [.int .i64 f.1, .int .i64 f.2.1, .string (S8 f.2.2)]
def docU (U : US) (lv : Value) : Value := .agg #[.int .i64 U.epoch, .int .i64 U.low, lv]
/-- A document's unit that reads as U. -/
def DocU (w : World) (B : Nat → Prop) (lv : Value) (U : US) : Prop := RecAt w B 3 lv (U.cells.map dRow)
theorem DocU.val {w : World} {B : Nat → Prop} {lv : Value} {U : US} (h : DocU w B lv U) : ∃ ao cap, lv = .slice ao U.cells.length cap := by
  obtain ⟨ao, cap, hv, _⟩ := RecAt.val h
  exact ⟨ao, cap, by rw [hv, List.length_map]⟩
theorem DocU.at' {w : World} {B : Nat → Prop} {ao : Option Addr} {n cap : Nat} {U : US} (h : DocU w B (.slice ao n cap) U) {i : Nat} {f : Int × IC} (hi : U.cells[i]? = some f) :
    ∃ b off, ao = some ⟨b, off, none⟩ ∧ b < w.heap.size ∧ B b ∧ w.cell? ⟨b, off + i * 3, none⟩ = some (.int .i64 f.1) ∧ w.cell? ⟨b, off + i * 3 + 1, none⟩ = some (.int .i64 f.2.1) ∧ w.cell? ⟨b, off + i * 3 + 2, none⟩ = some (.string (S8 f.2.2)) := by
  obtain ⟨b, off, h1, h2, h3, h4⟩ := RecAt.at h (i := i) (r := dRow f) (by rw [List.getElem?_map, hi]; rfl)
  exact ⟨b, off, h1, h2, h3, h4 0 _ rfl, h4 1 _ rfl, h4 2 _ rfl⟩

section
variable {w : World} {B : Nat → Prop} {U : US} {lv : Value}
set_option maxHeartbeats 1000000 in
set_option maxRecDepth 100000 in
theorem rtailU_any (h : DocU w B lv U) (hk : UOk U) : Calls Tryz.prog 101 #[docU U lv] w fun e w' => e = .returned (.int .i64 (utail U)) ∧ Below w.heap.size w w' := by
  obtain ⟨ao, cap, rfl⟩ := h.val
  have hlen := hk.len
  by_cases h0 : U.cells.length = 0
  · have hu : utail U = U.low := by unfold utail; rw [List.length_eq_zero_iff.1 h0]; rfl
    rw [h0, hu]
    clear h hk
    unfold docU
    generalize U.low = lw
    generalize U.epoch = ep
    go_enter Tryz.func101, Tryz.ntmps101
    go_wp2
    go_ret
    exact ⟨rfl, (Below.refl _ _).alloc (Nat.le_refl _) _⟩
  · obtain ⟨f, hf⟩ : ∃ f, U.cells[U.cells.length - 1]? = some f := ⟨_, List.getElem?_eq_getElem (by omega)⟩
    have hu : utail U = f.1 + 1 := by unfold utail; rw [List.getLast?_eq_getElem?, hf]
    have ha := hk.at' f (List.mem_of_getElem? hf)
    have hlo := hk.low
    obtain ⟨b, off, rfl, hb, _, e0, _, _⟩ := h.at' hf
    rw [hu]
    obtain ⟨f1, hf1⟩ : ∃ n, n = f.1 := ⟨_, rfl⟩
    rw [← hf1] at ha e0 ⊢
    unfold docU
    obtain ⟨n, hn⟩ : ∃ n, n = U.cells.length := ⟨_, rfl⟩
    rw [← hn] at h0 hlen e0 ⊢
    obtain ⟨k, rfl⟩ : ∃ k, n = k + 1 := ⟨n - 1, by omega⟩
    rw [Nat.add_sub_cancel] at e0
    have hb1 : 0 ≤ f1 := by omega
    have hb2 : f1 ≤ 1048575 := ha.2.1
    have hw : wrap64 (f1 + 1) = f1 + 1 := by simp only [wrap64]; omega
    clear h hk hf hu ha hlo hf1 hn
    generalize U.low = lw
    generalize U.epoch = ep
    have hne : b ≠ w.heap.size := by omega
    go_enter Tryz.func101, Tryz.ntmps101
    go_wp2
    go_ret
    exact ⟨by first | rfl | (rw [hw]), (Below.refl _ _).alloc (Nat.le_refl _) _⟩

theorem rcurU_any (e : Int) (lv : Value) : Calls Tryz.prog 102 #[docU U lv, .int .i64 e] w fun r w' => r = .returned (.int .i64 (ucur U e : Int)) ∧ Below w.heap.size w w' := by
  unfold docU ucur
  generalize U.low = lw
  generalize U.epoch = ep
  by_cases h1 : e < ep
  · rw [if_pos h1]
    go_enter Tryz.func102, Tryz.ntmps102
    go_wp2
    go_ret
    exact ⟨rfl, (Below.refl _ _).alloc (Nat.le_refl _) _⟩
  · rw [if_neg h1]
    by_cases h2 : ep < e
    · rw [if_pos h2]
      go_enter Tryz.func102, Tryz.ntmps102
      go_wp2
      go_ret
      exact ⟨rfl, (Below.refl _ _).alloc (Nat.le_refl _) _⟩
    · rw [if_neg h2]
      go_enter Tryz.func102, Tryz.ntmps102
      go_wp2
      go_ret
      exact ⟨rfl, (Below.refl _ _).alloc (Nat.le_refl _) _⟩
theorem iget_snoc {l : Im IC} {k : Nat} {f : Int × IC} {a : Int} (h : iget (l.take k) a = none) (hf : l[k]? = some f) (hne : f.1 ≠ a) : iget (l.take (k + 1)) a = none := by
  rw [take_snocU hf]
  unfold iget at h ⊢
  rw [Option.map_eq_none_iff, List.find?_eq_none] at h ⊢
  intro x hx
  rcases List.mem_append.1 hx with hx | hx
  · exact h x hx
  · obtain rfl : x = f := by simpa using hx
    simpa using hne
def dCell (c : IC) : Value := .agg #[.int .i64 c.1, .string (S8 c.2)]
set_option maxHeartbeats 1000000 in
set_option maxRecDepth 100000 in
theorem ratU_any (h : DocU w B lv U) (hk : UOk U) (a : Int) : Calls Tryz.prog 103 #[docU U lv, .int .i64 a] w fun r w' => r = .returned (dCell (uat U a)) ∧ Below w.heap.size w w' := by
  obtain ⟨ao, cap, rfl⟩ := h.val
  unfold uat
  by_cases h0 : a < U.low
  · rw [if_pos h0]
    clear h hk
    unfold docU
    generalize U.low = lw at *
    generalize U.epoch = ep
    go_enter Tryz.func103, Tryz.ntmps103
    go_wp2
    exact bodyPost_ret (v := dCell (3, [])) (by simp [dCell, S8, strOfNums, results, Tryz.results103, go_sem]) rfl ⟨rfl, ((Below.refl _ _).alloc (Nat.le_refl _) _).alloc (by simp) _⟩
  · rw [if_neg h0]
    have H := Lib.hid h
    have HR := Lib.hid hk.rise
    have HL := Lib.hid hk.len
    obtain ⟨cs, hcs⟩ : ∃ c, c = U.cells := ⟨_, rfl⟩
    have HC := Lib.hid hcs
    rw [← hcs] at HR HL ⊢
    clear h hk hcs
    unfold docU
    generalize hlw : U.low = lw at *
    generalize hep : U.epoch = ep
    obtain ⟨x, hx⟩ : ∃ x, x = (iget cs a).getD (0, []) := ⟨_, rfl⟩
    have HX := Lib.hid hx
    rw [← hx]
    clear hx hlw hep
    go_enter Tryz.func103, Tryz.ntmps103
    go_wp2
    go_loopw [5] (fun i wr => ∃ k : Nat, k ≤ cs.length ∧ i = .int .i64 (k : Int) ∧ iget (cs.take k) a = none ∧ wr = (w.alloc (.cells #[.int .i64 ep, .int .i64 lw, .slice ao cs.length cap] 41)).alloc (.cells #[.int .i64 0, .string ⟨#[]⟩] 89))
      (fun i _ => cs.length - (intOf i).toNat)
    case atStart => exact ⟨0, Nat.zero_le _, rfl, rfl, rfl⟩
    case round =>
      obtain ⟨k, hk, rfl, hno, rfl⟩ := hrel
      have HL1 : cs.length ≤ 1048576 := HL.out
      by_cases hlt : k < cs.length
      · obtain ⟨f, hf⟩ : ∃ f, cs[k]? = some f := ⟨_, List.getElem?_eq_getElem hlt⟩
        obtain ⟨b, off, rfl, hb, _, e0, e1, e2⟩ := H.out.at' (by rw [← HC.out]; exact hf)
        have HF := Lib.hid hf
        have HN := Lib.hid hno
        obtain ⟨f1, hf1⟩ : ∃ n, n = f.1 := ⟨_, rfl⟩
        obtain ⟨fk, hfk⟩ : ∃ n, n = f.2.1 := ⟨_, rfl⟩
        obtain ⟨fs, hfs⟩ : ∃ n, n = S8 f.2.2 := ⟨_, rfl⟩
        rw [← hf1] at e0
        rw [← hfk] at e1
        rw [← hfs] at e2
        have HF1 := Lib.hid hf1
        have HFK := Lib.hid hfk
        have HFS := Lib.hid hfs
        have hlti : (k : Int) < cs.length := by omega
        have HK := Lib.hid hlt
        have hne : b ≠ w.heap.size := by omega
        have hne2 : b ≠ w.heap.size + 1 := by omega
        clear hf hno hf1 hfk hfs
        by_cases hq : f1 = a
        · have hxf : x = f.2 := by
            rw [HX.out, ← hq, HF1.out, iget_mem HR.out (List.mem_of_getElem? HF.out)]
            rfl
          go_wp2
          exact bodyPost_ret (v := .agg #[.int .i64 fk, .string fs]) (by simp [results, Tryz.results103, go_sem]) rfl ⟨by rw [hxf, HFK.out, HFS.out]; rfl, ((Below.refl _ _).alloc (Nat.le_refl _) _).alloc (by simp) _⟩
        · go_wp2
          go_roundw
          case rel => exact ⟨k + 1, HK.out, rfl, iget_snoc HN.out HF.out (by rw [← HF1.out]; exact hq), trivial⟩
          case measure => have := HK.out; simp [intOf]; omega
      · obtain rfl : k = cs.length := by omega
        have hxf : x = (0, []) := by
          rw [HX.out]
          rw [List.take_length] at hno
          rw [hno]
          rfl
        go_wp2
        exact bodyPost_ret (v := dCell (0, [])) (by simp [dCell, S8, strOfNums, results, Tryz.results103, go_sem]) rfl ⟨by rw [hxf], ((Below.refl _ _).alloc (Nat.le_refl _) _).alloc (by simp) _⟩
end
end Go.Proofs.YtiaijpknnomlnaaGreat

namespace Go.Proofs.YtiaijpknnomlnaaGreat
open Go.RowKit

theorem DocU.grown {w w' : World} {B : Nat → Prop} {lv : Value} {U : US} (h : DocU w B lv U) (hb : Below w.heap.size w w') : DocU w' B lv U := RecAt.keep h (kept_new hb _)
theorem allocU_at {w : World} (o : Obj) {Y : Nat} (h : Y = w.heap.size) : (w.alloc o).heap[Y]? = some o := by subst h; exact heap_alloc_new _ _
/-- Three stores into one box. -/
def tri (W : World) (p : Nat) (a b c : Value) : World := ((W.setCell ⟨p, 0, none⟩ a).setCell ⟨p, 1, none⟩ b).setCell ⟨p, 2, none⟩ c
theorem fr_tri (W : World) (p : Nat) (a b c : Value) : Fr (fun j => j = p) W (tri W p a b c) :=
  ((fr_set W p 0 a).trans (fr_set _ p 1 b) (fun _ _ h => h) (fun _ _ h => h)).trans (fr_set _ p 2 c) (fun _ _ h => h) (fun _ _ h => h)
theorem tri_blk {W : World} {p : Nat} {x0 x1 x2 : Value} {T : TypeId} (h : W.heap[p]? = some (.cells #[x0, x1, x2] T (0, 0))) (a b c : Value) : (tri W p a b c).heap[p]? = some (.cells #[a, b, c] T (0, 0)) := by
  unfold tri
  have h1 := heap_setCell_same W p 0 _ _ a h
  have h2 := heap_setCell_same _ p 1 _ _ b h1
  exact heap_setCell_same _ p 2 _ _ c h2
/-- A document's unit in its box, and the result's box behind it. -/
structure Bx3 (w W : World) (U : US) (lv : Value) : Prop where
  below : Below w.heap.size w W
  box : W.heap[w.heap.size]? = some (.cells #[.int .i64 U.epoch, .int .i64 U.low, lv] 41 (0, 0))
  res : ∃ x0 x1 x2, W.heap[w.heap.size + 1]? = some (.cells #[x0, x1, x2] 41 (0, 0))
section
variable {w W W' : World} {U U' : US} {lv lv' : Value}
theorem bx3_new (w : World) (U : US) (lv : Value) : Bx3 w ((w.alloc (.cells #[.int .i64 U.epoch, .int .i64 U.low, lv] 41)).alloc (.cells #[.int .i64 0, .int .i64 0, .slice none 0 0] 41)) U lv := by
  refine ⟨((Below.refl _ _).alloc (Nat.le_refl _) _).alloc (by simp) _, ?_, _, _, _, allocU_at _ (by simp)⟩
  rw [Below.heap_alloc _ _ _ (by simp)]
  exact heap_alloc_new _ _
theorem Bx3.lt (h : Bx3 w W U lv) : w.heap.size + 1 < W.heap.size := by
  obtain ⟨_, _, _, h⟩ := h.res
  exact (Array.getElem?_eq_some_iff.1 h).1
theorem Bx3.old (h : Bx3 w W U lv) (hb : Below W.heap.size W W') : Bx3 w W' U lv := by
  have hl := h.lt
  obtain ⟨x0, x1, x2, hr⟩ := h.res
  exact ⟨h.below.trans (hb.mono h.below.size), (hb.block _ (by omega)).trans h.box, x0, x1, x2, (hb.block _ hl).trans hr⟩
theorem Bx3.set (h : Bx3 w W U lv) (U' : US) (lv' : Value) : Bx3 w (tri W w.heap.size (.int .i64 U'.epoch) (.int .i64 U'.low) lv') U' lv' := by
  have hf := fr_tri W w.heap.size (.int .i64 U'.epoch) (.int .i64 U'.low) lv'
  have hl := h.lt
  obtain ⟨x0, x1, x2, hr⟩ := h.res
  exact ⟨h.below.trans (hf.below h.below.size fun j hj e => by omega), tri_blk h.box _ _ _, x0, x1, x2, (hf.block _ hl (by omega)).trans hr⟩
theorem Bx3.c (h : Bx3 w W U lv) : W.cell? ⟨w.heap.size, 0, none⟩ = some (.int .i64 U.epoch) ∧ W.cell? ⟨w.heap.size, 1, none⟩ = some (.int .i64 U.low) ∧ W.cell? ⟨w.heap.size, 2, none⟩ = some lv :=
  ⟨by rw [cell_of_row _ _ 0 _ _ _ h.box]; rfl, by rw [cell_of_row _ _ 1 _ _ _ h.box]; rfl, by rw [cell_of_row _ _ 2 _ _ _ h.box]; rfl⟩
theorem Bx3.f (h : Bx3 w W U lv) (i : Nat) : W.frozen? ⟨w.heap.size, i, none⟩ = false := frozen_of_row _ _ i _ _ h.box
theorem Bx3.g (h : Bx3 w W U lv) (i : Nat) : W.frozen? ⟨w.heap.size + 1, i, none⟩ = false := by
  obtain ⟨_, _, _, h⟩ := h.res
  exact frozen_of_row _ _ i _ _ h
theorem Bx3.r (h : Bx3 w W U lv) : ∃ x0 x1 x2, W.cell? ⟨w.heap.size + 1, 0, none⟩ = some x0 ∧ W.cell? ⟨w.heap.size + 1, 1, none⟩ = some x1 ∧ W.cell? ⟨w.heap.size + 1, 2, none⟩ = some x2 := by
  obtain ⟨x0, x1, x2, h⟩ := h.res
  exact ⟨x0, x1, x2, by rw [cell_of_row _ _ 0 _ _ _ h]; rfl, by rw [cell_of_row _ _ 1 _ _ _ h]; rfl, by rw [cell_of_row _ _ 2 _ _ _ h]; rfl⟩
theorem Bx3.res_below (h : Bx3 w W U lv) (a b c : Value) : Below w.heap.size w (tri W (w.heap.size + 1) a b c) :=
  h.below.trans ((fr_tri W (w.heap.size + 1) a b c).below h.below.size fun j hj e => by omega)
theorem Bx3.drew (h : Bx3 w W U lv) : Bx3 w W.drew U lv := h.old ⟨rfl, rfl, rfl, Nat.le_refl _, fun _ _ => rfl⟩
end
section
variable {w : World} {B : Nat → Prop} {U : US} {lv : Value}
set_option maxHeartbeats 1000000 in
set_option maxRecDepth 100000 in
theorem rsealU_any (h : DocU w B lv U) (hk : UOk U) (e : Int) : Calls Tryz.prog 57 #[docU U lv, .int .i64 e] w fun r w' =>
    r = .returned (.tuple #[.int .i64 (useal U e).1, docU (useal U e).2.1 lv, .int .i64 ((useal U e).2.2 : Int)]) ∧ Below w.heap.size w w' := by
  obtain ⟨ao, cap, rfl⟩ := h.val
  obtain ⟨n, hn⟩ : ∃ n, n = U.cells.length := ⟨_, rfl⟩
  rw [← hn] at h ⊢
  unfold useal
  by_cases h1 : e < 0 ∨ 1099511627776 < e
  · rw [if_pos h1]
    clear h hk hn
    unfold docU
    generalize U.low = lw at *
    generalize U.epoch = ep
    by_cases h2 : e < 0
    · clear h1
      go_enter Tryz.func57, Tryz.ntmps57
      go_wp2
      go_region
      all_goals
        go_wp2
        exact bodyPost_ret (v := .tuple #[.int .i64 0, .agg #[.int .i64 ep, .int .i64 lw, .slice ao n cap], .int .i64 ((1 : Nat) : Int)]) (by simp [results, Tryz.results57, go_sem]) rfl ⟨rfl, (((Below.refl _ _).alloc (Nat.le_refl _) _).alloc (by simp) _).drew⟩
    · have h3 : 1099511627776 < e := by omega
      clear h1
      go_enter Tryz.func57, Tryz.ntmps57
      go_wp2
      go_region
      all_goals
        go_wp2
        exact bodyPost_ret (v := .tuple #[.int .i64 0, .agg #[.int .i64 ep, .int .i64 lw, .slice ao n cap], .int .i64 ((1 : Nat) : Int)]) (by simp [results, Tryz.results57, go_sem]) rfl ⟨rfl, (((Below.refl _ _).alloc (Nat.le_refl _) _).alloc (by simp) _).drew⟩
  · rw [if_neg h1]
    have h2 : ¬ e < 0 := fun hx => h1 (.inl hx)
    have h3 : ¬ 1099511627776 < e := fun hx => h1 (.inr hx)
    clear h1
    by_cases h4 : e ≤ U.epoch
    · rw [if_pos h4]
      clear h hk hn
      unfold docU
      generalize U.low = lw at *
      generalize U.epoch = ep at *
      go_enter Tryz.func57, Tryz.ntmps57
      go_wp2
      go_region
      all_goals
        go_wp2
        exact bodyPost_ret (v := .tuple #[.int .i64 0, .agg #[.int .i64 ep, .int .i64 lw, .slice ao n cap], .int .i64 ((6 : Nat) : Int)]) (by simp [results, Tryz.results57, go_sem]) rfl ⟨rfl, (((Below.refl _ _).alloc (Nat.le_refl _) _).alloc (by simp) _).drew⟩
    · rw [if_neg h4]
      have hk2 : UOk { U with epoch := e } := ⟨⟨by show 0 ≤ e; omega, by show e ≤ 1099511627776; omega⟩, hk.low, hk.at', hk.rise⟩
      obtain ⟨tl, htl⟩ : ∃ t, t = utail { U with epoch := e } := ⟨_, rfl⟩
      rw [← htl]
      have HT : Hid (∀ w', Below w.heap.size w w' → Calls Tryz.prog 101 #[.agg #[.int .i64 e, .int .i64 U.low, .slice ao n cap]] w' fun r w'' => r = .returned (.int .i64 tl) ∧ Below w'.heap.size w' w'') := Lib.hid (fun w' hb => by
        have := rtailU_any (U := { U with epoch := e }) (show DocU w' B (.slice ao n cap) { U with epoch := e } from DocU.grown h hb) hk2
        rw [← htl] at this
        exact this)
      have HBX : Hid (Bx3 w ((w.alloc (.cells #[.int .i64 e, .int .i64 U.low, .slice ao n cap] 41)).alloc (.cells #[.int .i64 0, .int .i64 0, .slice none 0 0] 41)) { U with epoch := e } (.slice ao n cap)) := Lib.hid (bx3_new w { U with epoch := e } _)
      clear h hk hk2 htl hn
      unfold docU
      show Calls Tryz.prog 57 #[.agg #[.int .i64 U.epoch, .int .i64 U.low, .slice ao n cap], .int .i64 e] w fun r w' => r = .returned (.tuple #[.int .i64 tl, .agg #[.int .i64 e, .int .i64 U.low, .slice ao n cap], .int .i64 ((0 : Nat) : Int)]) ∧ Below w.heap.size w w'
      obtain ⟨lw, hlw⟩ : ∃ l, l = U.low := ⟨_, rfl⟩
      obtain ⟨ep, hep⟩ : ∃ l, l = U.epoch := ⟨_, rfl⟩
      rw [← hlw] at HT HBX ⊢
      rw [← hep] at h4 ⊢
      clear hlw hep
      go_enter Tryz.func57, Tryz.ntmps57
      go_wp2
      obtain ⟨W, hW⟩ : ∃ W, W = (w.alloc (.cells #[.int .i64 e, .int .i64 lw, .slice ao n cap] 41)).alloc (.cells #[.int .i64 0, .int .i64 0, .slice none 0 0] 41) := ⟨_, rfl⟩
      rw [← hW] at HBX ⊢
      have hwd : W.drew.heap.size = W.heap.size := rfl
      obtain ⟨z0, z1, z2⟩ := HBX.out.c
      dsimp only at z0 z1
      clear hW
      go_region_with (first
        | (go_at_call 101
           refine (HT.out _ HBX.out.drew.below).mono ?_
           rintro r w9 ⟨rfl, hb9⟩
           have hbx9 := HBX.out.drew.old hb9
           obtain ⟨p0, p1, p2⟩ := hbx9.c
           dsimp only at p0 p1
           obtain ⟨x0, x1, x2, y0, y1, y2⟩ := hbx9.r
           have pf := hbx9.f
           have pg := hbx9.g
           have HB9 := Lib.hid hbx9
           clear hb9 hbx9))
      all_goals
        go_wp2
        exact bodyPost_ret (v := .tuple #[.int .i64 tl, .agg #[.int .i64 e, .int .i64 lw, .slice ao n cap], .int .i64 ((0 : Nat) : Int)]) (by simp [results, Tryz.results57, go_sem, y0, y1, y2]) rfl ⟨rfl, HB9.out.res_below _ _ _⟩
end
end Go.Proofs.YtiaijpknnomlnaaGreat

namespace Go.Proofs.YtiaijpknnomlnaaGreat
open Go.RowKit

theorem Tryz.infoDoc : (Tryz.prog.info? 93).map (fun i => (i.zero, i.size, i.bytes)) = some (some (.agg #[.int .i64 0, .int .i64 0, .string ⟨#[]⟩]), 3, 32) := by kernel_rfl
/-- Rows of a document's unit, of a call's own. -/
def DocO (w : World) (base : Nat) (v : Value) (l : Im IC) : Prop := RecOwn w base 93 3 v (l.map dRow)
theorem DocO.val {w : World} {base : Nat} {v : Value} {l : Im IC} (h : DocO w base v l) : ∃ ao cap, v = .slice ao l.length cap := by
  obtain ⟨ao, cap, hv, _⟩ := RecOwn.val h
  exact ⟨ao, cap, by rw [hv, List.length_map]⟩
/-- An append of one row. -/
theorem wpList_appDU (w : World) {ops : Array Oper} {rest : List Oper} {o : Oper} {a : Act} {Q : Exit → Act → World → Prop} (hgd : o.guard = none) (s x : Operand)
    (ho : o.op = .call { callee := .builtin .append, args := #[s, x], argTypes := #[39, 39] })
    (base : Nat) (v : Value) (l : Im IC) (hs : a.eval s = v) (W : World) (f1 fk : Int) (fs : ByteArray) (f : Int × IC) (hf1 : f1 = f.1) (hfk : fk = f.2.1) (hfs : fs = S8 f.2.2) (hW : w = W.alloc (.cells #[.int .i64 f1, .int .i64 fk, .string fs] 93)) (hown : DocO W base v l)
    (hx : a.eval x = .slice (some ⟨W.heap.size, 0, none⟩) 1 1) (hlen : l.length ≤ 1048577) (hbase : base ≤ W.heap.size)
    (h : ∀ v' w', DocO w' base v' (l ++ [f]) → Below base W w' → wpList Tryz.prog ops Q rest (a.put o.dst v') w') : wpList Tryz.prog ops Q (o :: rest) a w := by
  subst hW hf1 hfk hfs
  have hal : Below W.heap.size W (W.alloc (.cells #[.int .i64 f.1, .int .i64 f.2.1, .string (S8 f.2.2)] 93)) := (Below.refl _ _).alloc (Nat.le_refl _) _
  have h1' : RecOwn (W.alloc (.cells #[.int .i64 f.1, .int .i64 f.2.1, .string (S8 f.2.2)] 93)) base 93 3 v (l.map dRow) := RecOwn.keep hown fun j hj => hal.block j (RecOwn.block hown hj).2.1
  refine wpList_appRec _ hgd s x 39 ho base 93 _ 3 32 Tryz.underlying39 Tryz.infoDoc rfl (by decide) v (l.map dRow) hs h1' (dRow f) rfl (by
    intro y hy
    simp only [dRow, List.mem_cons, List.not_mem_nil, or_false] at hy
    rcases hy with rfl | rfl | rfl
    · rfl
    · rfl
    · rfl) ⟨W.heap.size, 0, none⟩ hx (rec_cell W (dRow f) _) (by rw [List.length_map]; simp only [maxLen]; omega) (by rw [List.length_map]; omega) (by simp; omega) ?_
  intro v' w' ho' hg' _
  refine h v' w' (by unfold DocO; rw [List.map_append]; exact ho') ((hal.mono hbase).grown hg' (Nat.le_trans hbase (by simp)) fun j hj => (RecOwn.block hown hj).1)

/-- What `with` has made of the first k rows. -/
def WithR (a : Int) (c : IC) (l : Im IC) (k : Nat) (dn : Bool) (o : Im IC) : Prop := (if dn then o ++ l.drop k else o ++ iins a c (l.drop k)) = iins a c l ∧ o.length = k + dn.toNat
theorem withR_new (a : Int) (c : IC) (l : Im IC) : WithR a c l 0 false [] := ⟨rfl, by simp⟩
theorem drop_consU {l : Im IC} {k : Nat} {f : Int × IC} (hf : l[k]? = some f) : l.drop k = f :: l.drop (k + 1) := by
  obtain ⟨h, e⟩ := List.getElem?_eq_some_iff.1 hf
  rw [List.drop_eq_getElem_cons h, e]
theorem WithR.put {a : Int} {c : IC} {l : Im IC} {k : Nat} {o : Im IC} {f : Int × IC} (h : WithR a c l k false o) (hf : l[k]? = some f) (ha : a < f.1) : WithR a c l (k + 1) true (o ++ [(a, c)] ++ [f]) := by
  refine ⟨?_, by have := h.2; simp at this ⊢; omega⟩
  have := h.1
  rw [drop_consU hf] at this
  simp only [Bool.false_eq_true, if_false, iins, if_pos ha] at this
  simp only [if_true]
  rw [← this]
  simp
theorem WithR.skip {a : Int} {c : IC} {l : Im IC} {k : Nat} {o : Im IC} {f : Int × IC} (h : WithR a c l k false o) (hf : l[k]? = some f) (ha : ¬ a < f.1) : WithR a c l (k + 1) false (o ++ [f]) := by
  refine ⟨?_, by have := h.2; simp at this ⊢; omega⟩
  have := h.1
  rw [drop_consU hf] at this
  simp only [Bool.false_eq_true, if_false, iins, if_neg ha] at this
  simp only [Bool.false_eq_true, if_false]
  rw [← this]
  simp
theorem WithR.on {a : Int} {c : IC} {l : Im IC} {k : Nat} {o : Im IC} {f : Int × IC} (h : WithR a c l k true o) (hf : l[k]? = some f) : WithR a c l (k + 1) true (o ++ [f]) := by
  refine ⟨?_, by have := h.2; simp at this ⊢; omega⟩
  have := h.1
  rw [drop_consU hf] at this
  simp only [if_true] at this ⊢
  rw [← this]
  simp
/-- The boxes of `with`. -/
structure WB (g : Nat) (W : World) (ep lw ck : Int) (sl : Value) (cb : ByteArray) : Prop where
  b0 : W.heap[g]? = some (.cells #[.int .i64 ep, .int .i64 lw, sl] 41 (0, 0))
  b1 : W.heap[g + 1]? = some (.cells #[.int .i64 ck, .string cb] 89 (0, 0))
  b2 : W.heap[g + 1 + 1]? = some (.cells #[.int .i64 0, .int .i64 0, .slice none 0 0] 41 (0, 0))
section
variable {g bs : Nat} {W W' : World} {ep lw ck : Int} {sl : Value} {cb : ByteArray}
theorem WB.old (h : WB g W ep lw ck sl cb) (hb : Below bs W W') (hs : g + 1 + 1 < bs) : WB g W' ep lw ck sl cb :=
  ⟨(hb.block _ (by omega)).trans h.b0, (hb.block _ (by omega)).trans h.b1, (hb.block _ hs).trans h.b2⟩
theorem WB.c (h : WB g W ep lw ck sl cb) : (W.cell? ⟨g, 0, none⟩ = some (.int .i64 ep) ∧ W.cell? ⟨g, 1, none⟩ = some (.int .i64 lw) ∧ W.cell? ⟨g, 2, none⟩ = some sl) ∧ W.cell? ⟨g + 1, 0, none⟩ = some (.int .i64 ck) ∧ W.cell? ⟨g + 1, 1, none⟩ = some (.string cb) :=
  ⟨⟨by rw [cell_of_row _ _ 0 _ _ _ h.b0]; rfl, by rw [cell_of_row _ _ 1 _ _ _ h.b0]; rfl, by rw [cell_of_row _ _ 2 _ _ _ h.b0]; rfl⟩, by rw [cell_of_row _ _ 0 _ _ _ h.b1]; rfl, by rw [cell_of_row _ _ 1 _ _ _ h.b1]; rfl⟩
end
theorem WB.f {g : Nat} {W : World} {ep lw ck : Int} {sl : Value} {cb : ByteArray} (h : WB g W ep lw ck sl cb) : (∀ i, W.frozen? ⟨g, i, none⟩ = false) ∧ (∀ i, W.frozen? ⟨g + 1 + 1, i, none⟩ = false) ∧
    W.cell? ⟨g + 1 + 1, 0, none⟩ = some (.int .i64 0) ∧ W.cell? ⟨g + 1 + 1, 1, none⟩ = some (.int .i64 0) ∧ W.cell? ⟨g + 1 + 1, 2, none⟩ = some (.slice none 0 0) :=
  ⟨fun i => frozen_of_row _ _ i _ _ h.b0, fun i => frozen_of_row _ _ i _ _ h.b2, by rw [cell_of_row _ _ 0 _ _ _ h.b2]; rfl, by rw [cell_of_row _ _ 1 _ _ _ h.b2]; rfl, by rw [cell_of_row _ _ 2 _ _ _ h.b2]; rfl⟩
theorem with_fin {w W : World} {bs : Nat} {v : Value} {l : Im IC} (ho : DocO W bs v l) (hgb : w.heap.size + 1 + 1 < bs) (hb : Below w.heap.size w W) (x a b c : Value) :
    DocO (tri (W.setCell ⟨w.heap.size, 2, none⟩ x) (w.heap.size + 1 + 1) a b c) w.heap.size v l ∧ Below w.heap.size w (tri (W.setCell ⟨w.heap.size, 2, none⟩ x) (w.heap.size + 1 + 1) a b c) := by
  have hf1 := fr_set W w.heap.size 2 x
  have hf2 := fr_tri (W.setCell ⟨w.heap.size, 2, none⟩ x) (w.heap.size + 1 + 1) a b c
  refine ⟨(RecOwn.keep ho fun j hj => ?_).mono (by omega), (hb.trans (hf1.below hb.size fun j hj e => by omega)).trans (hf2.below (Nat.le_trans hb.size hf1.size) fun j hj e => by omega)⟩
  have hj2 := RecOwn.block ho hj
  exact (hf2.block j (Nat.lt_of_lt_of_le hj2.2.1 hf1.size) (by omega)).trans (hf1.block j hj2.2.1 (by omega))
section
variable {w : World} {B : Nat → Prop} {U : US} {lv : Value}
set_option maxHeartbeats 4000000 in
set_option maxRecDepth 100000 in
theorem rwithU_any (h : DocU w B lv U) (hl : U.cells.length ≤ 1048576) (a : Int) (c : IC) : Calls Tryz.prog 104 #[docU U lv, .int .i64 a, dCell c] w fun r w' =>
    ∃ lv', r = .returned (docU { U with cells := iins a c U.cells } lv') ∧ DocO w' w.heap.size lv' (iins a c U.cells) ∧ Below w.heap.size w w' := by
  obtain ⟨ao, cap, rfl⟩ := h.val
  obtain ⟨cs, hcs⟩ : ∃ c, c = U.cells := ⟨_, rfl⟩
  have H := Lib.hid h
  have HC := Lib.hid hcs
  rw [← hcs] at hl ⊢
  have HL := Lib.hid hl
  clear h hl hcs
  obtain ⟨ck, cd⟩ := c
  obtain ⟨cb, hcb⟩ : ∃ s, s = S8 cd := ⟨_, rfl⟩
  have HCB := Lib.hid hcb
  unfold docU dCell
  show Calls Tryz.prog 104 #[.agg #[.int .i64 U.epoch, .int .i64 U.low, .slice ao cs.length cap], .int .i64 a, .agg #[.int .i64 ck, .string (S8 cd)]] w fun r w' => ∃ lv', r = .returned (.agg #[.int .i64 U.epoch, .int .i64 U.low, lv']) ∧ DocO w' w.heap.size lv' (iins a (ck, cd) cs) ∧ Below w.heap.size w w'
  rw [← hcb]
  obtain ⟨lw, hlw⟩ : ∃ l, l = U.low := ⟨_, rfl⟩
  obtain ⟨ep, hep⟩ : ∃ l, l = U.epoch := ⟨_, rfl⟩
  rw [← hlw, ← hep]
  clear hcb hlw hep
  go_enter Tryz.func104, Tryz.ntmps104
  go_wp2
  obtain ⟨W2, hW2⟩ : ∃ W, W = ((w.alloc (.cells #[.int .i64 ep, .int .i64 lw, .slice ao cs.length cap] 41)).alloc (.cells #[.int .i64 ck, .string cb] 89)).alloc (.cells #[.int .i64 0, .int .i64 0, .slice none 0 0] 41) := ⟨_, rfl⟩
  rw [← hW2]
  have hs2 : W2.heap.size = w.heap.size + 1 + 1 + 1 := by rw [hW2]; simp
  have hb2 : Below w.heap.size w W2 := by rw [hW2]; exact (((Below.refl _ _).alloc (Nat.le_refl _) _).alloc (by simp) _).alloc (by simp; omega) _
  have e0 : W2.heap[w.heap.size]? = some (.cells #[.int .i64 ep, .int .i64 lw, .slice ao cs.length cap] 41 (0, 0)) := by
    rw [hW2, Below.heap_alloc _ _ _ (by simp; omega), Below.heap_alloc _ _ _ (by simp)]; exact heap_alloc_new _ _
  have e1 : W2.heap[w.heap.size + 1]? = some (.cells #[.int .i64 ck, .string cb] 89 (0, 0)) := by
    rw [hW2, Below.heap_alloc _ _ _ (by simp)]; exact allocU_at _ (by simp)
  have e2 : W2.heap[w.heap.size + 1 + 1]? = some (.cells #[.int .i64 0, .int .i64 0, .slice none 0 0] 41 (0, 0)) := by
    rw [hW2]; exact allocU_at _ (by simp)
  have HWB : Hid (WB w.heap.size W2 ep lw ck (.slice ao cs.length cap) cb) := Lib.hid ⟨e0, e1, e2⟩
  have HB2 := Lib.hid hb2
  clear hW2 e0 e1 e2 hb2
  obtain ⟨bs, hbs⟩ : ∃ b, b = W2.heap.size := ⟨_, rfl⟩
  go_loopw [7, 8, 9] (fun o d i wr => ∃ (k : Nat) (dn : Bool) (l : Im IC), k ≤ cs.length ∧ i = .int .i64 (k : Int) ∧ d = .bool dn ∧ DocO wr bs o l ∧ WithR a (ck, cd) cs k dn l ∧ Below bs W2 wr)
    (fun _ _ i _ => cs.length - (intOf i).toNat)
  case atStart => exact ⟨0, false, [], Nat.zero_le _, rfl, rfl, by rw [hbs, ← hs2]; exact recOwn_empty _ _ _ _ (Nat.le_refl _), withR_new _ _ _, by rw [hbs]; exact (Below.refl _ _).alloc (Nat.le_refl _) _⟩
  case round =>
    obtain ⟨k, dn, l, hk, rfl, rfl, ho, hr, hbw⟩ := hrel
    have hgb : w.heap.size + 1 + 1 < bs := by omega
    have hwb : WB w.heap.size wr ep lw ck (.slice ao cs.length cap) cb := HWB.out.old hbw hgb
    obtain ⟨⟨z0, z1, z2⟩, y0, y1⟩ := hwb.c
    obtain ⟨lo, lc, rfl⟩ := ho.val
    have HO := Lib.hid ho
    have HR := Lib.hid hr
    have HBW := Lib.hid hbw
    have HLL : Hid (l.length ≤ 1048577) := Lib.hid (by have := hr.2; have := HL.out; cases dn <;> simp at this <;> omega)
    have HWS : Hid (bs ≤ wr.heap.size) := Lib.hid (by have := hbw.size; omega)
    clear ho hr hbw
    by_cases hlt : k < cs.length
    · obtain ⟨f, hf⟩ : ∃ f, cs[k]? = some f := ⟨_, List.getElem?_eq_getElem hlt⟩
      obtain ⟨b, off, rfl, hb, _, d0, d1, d2⟩ := H.out.at' (by rw [← HC.out]; exact hf)
      have hww : Below w.heap.size w wr := HB2.out.trans (HBW.out.mono (by omega))
      replace d0 := (hww.cell (p := ⟨b, off + k * 3, none⟩) hb).trans d0
      replace d1 := (hww.cell (p := ⟨b, off + k * 3 + 1, none⟩) hb).trans d1
      replace d2 := (hww.cell (p := ⟨b, off + k * 3 + 2, none⟩) hb).trans d2
      have HF := Lib.hid hf
      obtain ⟨f1, hf1⟩ : ∃ n, n = f.1 := ⟨_, rfl⟩
      obtain ⟨fk, hfk⟩ : ∃ n, n = f.2.1 := ⟨_, rfl⟩
      obtain ⟨fs, hfs⟩ : ∃ n, n = S8 f.2.2 := ⟨_, rfl⟩
      rw [← hf1] at d0
      rw [← hfk] at d1
      rw [← hfs] at d2
      have HF1 := Lib.hid hf1
      have HFK := Lib.hid hfk
      have HFS := Lib.hid hfs
      have hlti : (k : Int) < cs.length := by omega
      have HK := Lib.hid hlt
      have HL1 : cs.length ≤ 1048576 := HL.out
      have HBB := Lib.hid hb
      have HGB := Lib.hid hgb
      have HD : Hid (wr.cell? ⟨b, off + k * 3, none⟩ = some (.int .i64 f1) ∧ wr.cell? ⟨b, off + k * 3 + 1, none⟩ = some (.int .i64 fk) ∧ wr.cell? ⟨b, off + k * 3 + 2, none⟩ = some (.string fs)) := Lib.hid ⟨d0, d1, d2⟩
      have HWR := Lib.hid hwb
      clear hf hf1 hfk hfs hbs hs2 hgb hwb hww
      cases dn
      · by_cases hq : a < f1
        · go_wp2_with (at_builtin; go_must (refine wpList_appDU _ rfl _ _ rfl bs _ _ rfl wr a ck cb (a, (ck, cd)) rfl rfl HCB.out rfl HO.out rfl HLL.out HWS.out ?_))
          intro v5 w5 ho5 hb5
          obtain ⟨lo5, lc5, rfl⟩ := ho5.val
          have HO5 := Lib.hid ho5
          have HB5 := Lib.hid hb5
          have HL5 : Hid ((l ++ [(a, (ck, cd))]).length ≤ 1048577) := Lib.hid (by have := HR.out.2; have := HL.out; have := HK.out; simp at *; omega)
          have HS5 : Hid (bs ≤ w5.heap.size) := Lib.hid (Nat.le_trans HWS.out hb5.size)
          have hwb5 := HWR.out.old hb5 HGB.out
          obtain ⟨⟨p0, p1, p2⟩, q0, q1⟩ := hwb5.c
          obtain ⟨d0', d1', d2'⟩ := HD.out
          have hbb : b < bs := by have := HBB.out; have := HGB.out; omega
          have r0 := (hb5.cell (p := ⟨b, off + k * 3, none⟩) hbb).trans d0'
          have r1 := (hb5.cell (p := ⟨b, off + k * 3 + 1, none⟩) hbb).trans d1'
          have r2 := (hb5.cell (p := ⟨b, off + k * 3 + 2, none⟩) hbb).trans d2'
          clear ho5 hb5 hwb5 hbb d0' d1' d2' z0 z1 z2 y0 y1
          go_wp2_with (at_builtin; go_must (refine wpList_appDU _ rfl _ _ rfl bs _ _ rfl w5 f1 fk fs f HF1.out HFK.out HFS.out rfl HO5.out rfl HL5.out HS5.out ?_))
          intro v6 w6 ho6 hb6
          have HR6 := HR.out.put HF.out (by rw [← HF1.out]; exact hq)
          have HO6 := Lib.hid ho6
          have HB6 := Lib.hid hb6
          clear ho6 hb6
          go_wp2
          go_roundw
          case rel => exact ⟨k + 1, true, _, HK.out, rfl, rfl, HO6.out, (by first | exact HR6 | (rw [List.append_assoc] at HR6; exact HR6)), (HBW.out.trans HB5.out).trans HB6.out⟩
          case measure => have := HK.out; simp [intOf]; omega
        · go_wp2_with (at_builtin; go_must (refine wpList_appDU _ rfl _ _ rfl bs _ _ rfl wr f1 fk fs f HF1.out HFK.out HFS.out rfl HO.out rfl HLL.out HWS.out ?_))
          intro v5 w5 ho5 hb5
          have HR5 := HR.out.skip HF.out (by rw [← HF1.out]; omega)
          have HO5 := Lib.hid ho5
          have HB5 := Lib.hid hb5
          clear ho5 hb5
          go_wp2
          go_roundw
          case rel => exact ⟨k + 1, false, _, HK.out, rfl, rfl, HO5.out, HR5, HBW.out.trans HB5.out⟩
          case measure => have := HK.out; simp [intOf]; omega
      · go_wp2_with (at_builtin; go_must (refine wpList_appDU _ rfl _ _ rfl bs _ _ rfl wr f1 fk fs f HF1.out HFK.out HFS.out rfl HO.out rfl HLL.out HWS.out ?_))
        intro v5 w5 ho5 hb5
        have HR5 := HR.out.on HF.out
        have HO5 := Lib.hid ho5
        have HB5 := Lib.hid hb5
        clear ho5 hb5
        go_wp2
        go_roundw
        case rel => exact ⟨k + 1, true, _, HK.out, rfl, rfl, HO5.out, HR5, HBW.out.trans HB5.out⟩
        case measure => have := HK.out; simp [intOf]; omega
    · have hke : k = cs.length := by omega
      have hdk : cs.drop k = [] := by rw [hke]; exact List.drop_length
      have HGB := Lib.hid hgb
      have HWR := Lib.hid hwb
      clear hbs hs2 hgb
      cases dn
      · have hfin : l ++ [(a, (ck, cd))] = iins a (ck, cd) cs := by
          have := HR.out.1
          rw [hdk] at this
          simpa [iins] using this
        have HFIN := Lib.hid hfin
        clear hfin hdk hwb
        go_wp2_with (at_builtin; go_must (refine wpList_appDU _ rfl _ _ rfl bs _ _ rfl wr a ck cb (a, (ck, cd)) rfl rfl HCB.out rfl HO.out rfl HLL.out HWS.out ?_))
        intro v5 w5 ho5 hb5
        obtain ⟨lo5, lc5, rfl⟩ := ho5.val
        rw [HFIN.out] at ho5 ⊢
        obtain ⟨⟨p0, p1, p2⟩, _, _⟩ := (HWR.out.old hb5 HGB.out).c
        obtain ⟨pf, pg, q0, q1, q2⟩ := (HWR.out.old hb5 HGB.out).f
        obtain ⟨nl, hnl⟩ : ∃ n, n = (iins a (ck, cd) cs).length := ⟨_, rfl⟩
        rw [← hnl] at ho5 ⊢
        have HE := Lib.hid (with_fin ho5 HGB.out (HB2.out.trans ((HBW.out.trans hb5).mono (by have := HGB.out; have := HB2.out.size; omega))))
        clear ho5 hb5 z0 z1 z2 y0 y1 hnl
        go_wp2
        exact bodyPost_ret (v := .agg #[.int .i64 ep, .int .i64 lw, .slice lo5 nl lc5]) (by simp [results, Tryz.results104, go_sem, q0, q1, q2]) rfl ⟨_, rfl, HE.out _ _ _ _⟩
      · have hfin : l = iins a (ck, cd) cs := by
          have := HR.out.1
          rw [hdk] at this
          simpa using this
        have HX : Hid (DocO wr bs (.slice lo l.length lc) (iins a (ck, cd) cs)) := Lib.hid (by rw [← hfin]; exact HO.out)
        obtain ⟨pf, pg, q0, q1, q2⟩ := HWR.out.f
        obtain ⟨nl, hnl⟩ : ∃ n, n = l.length := ⟨_, rfl⟩
        rw [← hnl] at HX ⊢
        have HE := Lib.hid (with_fin HX.out HGB.out (HB2.out.trans (HBW.out.mono (by have := HGB.out; omega))))
        clear hfin hnl hdk hwb
        go_wp2
        exact bodyPost_ret (v := .agg #[.int .i64 ep, .int .i64 lw, .slice lo nl lc]) (by simp [results, Tryz.results104, go_sem, q0, q1, q2]) rfl ⟨_, rfl, HE.out _ _ _ _⟩
end
end Go.Proofs.YtiaijpknnomlnaaGreat

namespace Go.Proofs.YtiaijpknnomlnaaGreat
open Go.RowKit

/-- What an operation of the document's answers. -/
def DPostU (B : Nat → Prop) (w : World) (x : US × Nat) (r : Ending) (w' : World) : Prop :=
  ∃ lv', r = .returned (.tuple #[docU x.1 lv', .int .i64 (x.2 : Int)]) ∧ DocU w' (fun j => B j ∨ w.heap.size ≤ j) lv' x.1 ∧ Below w.heap.size w w'
theorem DocU.wide {w : World} {B C : Nat → Prop} {lv : Value} {U : US} (h : DocU w B lv U) (hc : ∀ j, B j → C j) : DocU w C lv U := RecAt.mono h fun j _ hj => hc j hj
section
variable {w W : World} {B : Nat → Prop} {U : US} {lv : Value}
theorem dpost_same {w' : World} (h : DocU w B lv U) (hb : Below w.heap.size w w') (k : Nat) : DPostU B w (U, k) (.returned (.tuple #[docU U lv, .int .i64 (k : Int)])) w' :=
  ⟨lv, rfl, (h.grown hb).wide fun _ hj => .inl hj, hb⟩
theorem dpost_box (h : DocU w B lv U) (hx : Bx3 w W U lv) (a b c : Value) (k : Nat) : DPostU B w (U, k) (.returned (.tuple #[docU U lv, .int .i64 (k : Int)])) (tri W (w.heap.size + 1) a b c) :=
  dpost_same h (hx.res_below a b c) k
theorem dpost_put {W' : World} {U' : US} {lv' : Value} (hx : Bx3 w W U lv) (ho : DocO W' W.heap.size lv' U'.cells) (hb : Below W.heap.size W W') (a b c : Value) (k : Nat) :
    DPostU B w (U', k) (.returned (.tuple #[docU U' lv', .int .i64 (k : Int)])) (tri W' (w.heap.size + 1) a b c) := by
  have hlt := hx.lt
  have hf := fr_tri W' (w.heap.size + 1) a b c
  refine ⟨lv', rfl, ?_, (hx.old hb).res_below a b c⟩
  have h2 := RecOwn.keep (w' := tri W' (w.heap.size + 1) a b c) ho fun j hj => by
    have hj2 := RecOwn.block ho hj
    exact hf.block j hj2.2.1 (by omega)
  exact RecAt.mono h2.at' fun j _ hj => .inr (by omega)
theorem ufieldD (k : Int) (s : ByteArray) (w : World) : (Instr.field 89 (.agg #[.int .i64 k, .string s]) 0).run Tryz.prog w = .ok (.int .i64 k) w := by kernel_rfl

set_option maxHeartbeats 4000000 in
set_option maxRecDepth 100000 in
theorem rwriteU_any (h : DocU w B lv U) (hk : UOk U) (e a : Int) (d : List Nat) (hd : d.length ≤ 9223372036854775807) :
    Calls Tryz.prog 58 #[docU U lv, .int .i64 e, .int .i64 a, .string (S8 d)] w (DPostU B w (uwrite U e a d)) := by
  obtain ⟨ao, cap, rfl⟩ := h.val
  obtain ⟨s, hs⟩ : ∃ s, s = S8 d := ⟨_, rfl⟩
  have hsz : s.size = d.length := by rw [hs, S8_size]
  have HS := Lib.hid hs
  rw [← hs]
  obtain ⟨X, hX⟩ : ∃ X, X = uwrite U e a d := ⟨_, rfl⟩
  rw [← hX]
  have HW : Hid (X = if a < 0 ∨ 1048575 < a then (U, 1) else if 64 < d.length then (U, 3) else if ucur U e ≠ 0 then (U, ucur U e) else if (uat U a).1 = 3 then (U, 9) else if (uat U a).1 = 0 then ({ U with cells := iput U.cells a (1, d) }, 0) else (U, 8)) := Lib.hid hX
  obtain ⟨k0, hk0⟩ : ∃ k, k = (uat U a).1 := ⟨_, rfl⟩
  obtain ⟨cu, hcu⟩ : ∃ k, k = ucur U e := ⟨_, rfl⟩
  obtain ⟨sd, hsd⟩ : ∃ k, k = S8 (uat U a).2 := ⟨_, rfl⟩
  have HCU : Hid (∀ W, Calls Tryz.prog 102 #[.agg #[.int .i64 U.epoch, .int .i64 U.low, .slice ao U.cells.length cap], .int .i64 e] W fun r w' => r = .returned (.int .i64 (cu : Int)) ∧ Below W.heap.size W w') := Lib.hid fun W => by
    rw [hcu]; exact rcurU_any e _
  have HAT : Hid (∀ W, Below w.heap.size w W → Calls Tryz.prog 103 #[.agg #[.int .i64 U.epoch, .int .i64 U.low, .slice ao U.cells.length cap], .int .i64 a] W fun r w' => r = .returned (.agg #[.int .i64 k0, .string sd]) ∧ Below W.heap.size W w') := Lib.hid fun W hb => by
    rw [hk0, hsd]; exact ratU_any (h.grown hb) hk a
  have HWI : Hid (∀ W, Below w.heap.size w W → Calls Tryz.prog 104 #[.agg #[.int .i64 U.epoch, .int .i64 U.low, .slice ao U.cells.length cap], .int .i64 a, .agg #[.int .i64 1, .string s]] W fun r w' =>
      ∃ lv', r = .returned (.agg #[.int .i64 U.epoch, .int .i64 U.low, lv']) ∧ DocO w' W.heap.size lv' (iins a (1, d) U.cells) ∧ Below W.heap.size W w') := Lib.hid fun W hb => by
    rw [hs]; exact rwithU_any (h.grown hb) hk.len a (1, d)
  rw [← hk0, ← hcu] at HW
  have HK0 := Lib.hid hk0
  have H := Lib.hid h
  have HK := Lib.hid hk
  have HBX : Hid (Bx3 w ((w.alloc (.cells #[.int .i64 U.epoch, .int .i64 U.low, .slice ao U.cells.length cap] 41)).alloc (.cells #[.int .i64 0, .int .i64 0, .slice none 0 0] 41)) U (.slice ao U.cells.length cap)) := Lib.hid (bx3_new w U _)
  have HSM : Hid (∀ w' (k : Nat), Below w.heap.size w w' → DPostU B w (U, k) (.returned (.tuple #[.agg #[.int .i64 U.epoch, .int .i64 U.low, .slice ao U.cells.length cap], .int .i64 (k : Int)])) w') := Lib.hid fun w' k hb => dpost_same h hb k
  clear h hk hk0 hcu hs hX hsd
  unfold docU
  by_cases h1 : a < 0 ∨ 1048575 < a
  · obtain rfl : X = (U, 1) := by rw [HW.out, if_pos h1]
    by_cases h2 : a < 0
    · clear h1
      go_enter Tryz.func58, Tryz.ntmps58
      go_wp2
      exact bodyPost_ret (v := .tuple #[.agg #[.int .i64 U.epoch, .int .i64 U.low, .slice ao U.cells.length cap], .int .i64 ((1 : Nat) : Int)]) (by simp [results, Tryz.results58, go_sem]) rfl (HSM.out _ 1 (((Below.refl _ _).alloc (Nat.le_refl _) _).alloc (by simp) _))
    · have h3 : 1048575 < a := by omega
      clear h1
      go_enter Tryz.func58, Tryz.ntmps58
      go_wp2
      exact bodyPost_ret (v := .tuple #[.agg #[.int .i64 U.epoch, .int .i64 U.low, .slice ao U.cells.length cap], .int .i64 ((1 : Nat) : Int)]) (by simp [results, Tryz.results58, go_sem]) rfl (HSM.out _ 1 (((Below.refl _ _).alloc (Nat.le_refl _) _).alloc (by simp) _))
  have HW1 : Hid (X = if 64 < d.length then (U, 3) else if cu ≠ 0 then (U, cu) else if k0 = 3 then (U, 9) else if k0 = 0 then ({ U with cells := iput U.cells a (1, d) }, 0) else (U, 8)) := Lib.hid (by rw [HW.out, if_neg h1])
  have h1a : ¬ a < 0 := fun hx => h1 (.inl hx)
  have h1b : ¬ 1048575 < a := fun hx => h1 (.inr hx)
  clear h1
  by_cases h2 : 64 < d.length
  · obtain rfl : X = (U, 3) := by rw [HW1.out, if_pos h2]
    have h2i : (64 : Int) < (d.length : Int) := by omega
    clear h2
    go_enter Tryz.func58, Tryz.ntmps58
    go_wp2
    exact bodyPost_ret (v := .tuple #[.agg #[.int .i64 U.epoch, .int .i64 U.low, .slice ao U.cells.length cap], .int .i64 ((3 : Nat) : Int)]) (by simp [results, Tryz.results58, go_sem]) rfl (HSM.out _ 3 (((Below.refl _ _).alloc (Nat.le_refl _) _).alloc (by simp) _))
  have HW2 : Hid (X = if cu ≠ 0 then (U, cu) else if k0 = 3 then (U, 9) else if k0 = 0 then ({ U with cells := iput U.cells a (1, d) }, 0) else (U, 8)) := Lib.hid (by rw [HW1.out, if_neg h2])
  have h2i : ¬ (64 : Int) < (d.length : Int) := by omega
  clear h2
  go_enter Tryz.func58, Tryz.ntmps58
  go_wp2_with fail
  refine (HCU.out _).mono ?_
  rintro r w1 ⟨rfl, hb1⟩
  have hx1 := HBX.out.old hb1
  have HX1 := Lib.hid hx1
  obtain ⟨z0, z1, z2⟩ := hx1.c
  obtain ⟨x0, x1, x2, y0, y1, y2⟩ := hx1.r
  have pf := hx1.f
  have pg := hx1.g
  clear hx1 hb1 h1a h1b h2i
  by_cases h3 : cu = 0
  rotate_left
  · obtain rfl : X = (U, cu) := by rw [HW2.out, if_pos h3]
    have h3i : ¬ ((cu : Int) = 0) := by omega
    clear h3
    go_wp2
    exact bodyPost_ret (v := .tuple #[.agg #[.int .i64 U.epoch, .int .i64 U.low, .slice ao U.cells.length cap], .int .i64 ((cu : Nat) : Int)]) (by simp [results, Tryz.results58, go_sem, y0, y1, y2]) rfl (dpost_box H.out HX1.out _ _ _ cu)
  have HW3 : Hid (X = if k0 = 3 then (U, 9) else if k0 = 0 then ({ U with cells := iput U.cells a (1, d) }, 0) else (U, 8)) := Lib.hid (by rw [HW2.out, if_neg (by omega)])
  subst h3
  go_wp2_with fail
  refine (HAT.out _ HX1.out.below).mono ?_
  rintro r w2 ⟨rfl, hb2⟩
  clear z0 z1 z2 y0 y1 y2 pf pg x0 x1 x2
  have hx2 := HX1.out.old hb2
  have HX2 := Lib.hid hx2
  obtain ⟨z0, z1, z2⟩ := hx2.c
  obtain ⟨x0, x1, x2, y0, y1, y2⟩ := hx2.r
  have pf := hx2.f
  have pg := hx2.g
  have hfd := ufieldD k0 sd w2
  clear hx2 hb2
  by_cases h4 : k0 = 3
  · obtain rfl : X = (U, 9) := by rw [HW3.out, if_pos h4]
    subst h4
    go_wp2
    exact bodyPost_ret (v := .tuple #[.agg #[.int .i64 U.epoch, .int .i64 U.low, .slice ao U.cells.length cap], .int .i64 ((9 : Nat) : Int)]) (by simp [results, Tryz.results58, go_sem, y0, y1, y2]) rfl (dpost_box H.out HX2.out _ _ _ 9)
  by_cases h5 : k0 = 0
  rotate_left
  · obtain rfl : X = (U, 8) := by rw [HW3.out, if_neg h4, if_neg h5]
    have p4 : (k0 == 3) = false := beq_eq_false_iff_ne.2 h4
    have p5 : (k0 == 0) = false := beq_eq_false_iff_ne.2 h5
    clear h4 h5
    go_wp2
    exact bodyPost_ret (v := .tuple #[.agg #[.int .i64 U.epoch, .int .i64 U.low, .slice ao U.cells.length cap], .int .i64 ((8 : Nat) : Int)]) (by simp [results, Tryz.results58, go_sem, y0, y1, y2]) rfl (dpost_box H.out HX2.out _ _ _ 8)
  obtain rfl : X = ({ U with cells := iput U.cells a (1, d) }, 0) := by rw [HW3.out, if_neg h4, if_pos h5]
  have HPU : Hid (iput U.cells a (1, d) = iins a (1, d) U.cells) := Lib.hid (iput_none (uat_kind HK.out (by rw [← HK0.out]; exact h5)).2 _)
  subst h5
  clear h4
  go_wp2_with fail
  refine (HWI.out _ HX2.out.below).mono ?_
  rintro r w3 ⟨v3, rfl, ho3, hb3⟩
  obtain ⟨ao3, cap3, rfl⟩ := ho3.val
  clear z0 z1 z2 y0 y1 y2 pf pg x0 x1 x2 hfd
  have HE := Lib.hid (fun x0 x1 x2 => dpost_put (B := B) (U' := { U with cells := iins a (1, d) U.cells }) HX2.out ho3 hb3 x0 x1 x2 0)
  have hx3 := HX2.out.old hb3
  have HX3 := Lib.hid hx3
  obtain ⟨z0, z1, z2⟩ := hx3.c
  obtain ⟨x0, x1, x2, y0, y1, y2⟩ := hx3.r
  have pf := hx3.f
  have pg := hx3.g
  obtain ⟨n3, hn3⟩ : ∃ n, n = (iins a (1, d) U.cells).length := ⟨_, rfl⟩
  rw [← hn3] at HE ⊢
  clear hx3 hb3 ho3 hn3
  go_wp2
  exact bodyPost_ret (v := .tuple #[.agg #[.int .i64 U.epoch, .int .i64 U.low, .slice ao3 n3 cap3], .int .i64 ((0 : Nat) : Int)]) (by simp [results, Tryz.results58, go_sem, y0, y1, y2]) rfl (by rw [HPU.out]; exact HE.out _ _ _)
end
end Go.Proofs.YtiaijpknnomlnaaGreat

namespace Go.Proofs.YtiaijpknnomlnaaGreat
open Go.RowKit

theorem iput_same {l : Im IC} (h : IRise l) {a : Int} {t : IC} (hg : iget l a = some t) : iput l a t = l := by
  induction l with
  | nil => simp [iget] at hg
  | cons x r ih =>
    have h2 := List.pairwise_cons.1 h
    by_cases hx : x.1 = a
    · have hgx := iget_mem h (List.mem_cons_self (a := x) (l := r))
      rw [hx, hg] at hgx
      have ht : t = x.2 := by simpa using hgx
      have hr : idel r a = r := List.filter_eq_self.2 fun y hy => by
        have := h2.1 y hy
        have e : (y.1 == a) = false := by rw [beq_eq_false_iff_ne]; omega
        simp [e]
      have e1 : idel (x :: r) a = r := by
        have e : (x.1 == a) = true := by rw [beq_iff_eq]; exact hx
        unfold idel at hr ⊢
        rw [List.filter_cons, e]
        exact hr
      unfold iput
      rw [e1]
      cases r with
      | nil => unfold iins; rw [ht, ← hx]
      | cons y r2 =>
        have := h2.1 y List.mem_cons_self
        unfold iins
        rw [if_pos (by omega), ht, ← hx]
    · have hgr : iget r a = some t := by
        unfold iget at hg ⊢
        have e : (x.1 == a) = false := by rw [beq_eq_false_iff_ne]; exact hx
        rw [List.find?_cons, e] at hg
        exact hg
      have hm := h2.1 _ (iget_some hgr)
      have e1 : idel (x :: r) a = x :: idel r a := by
        have e : (x.1 == a) = false := by rw [beq_eq_false_iff_ne]; exact hx
        unfold idel
        rw [List.filter_cons, e]
        rfl
      have := ih h2.2 hgr
      unfold iput at this ⊢
      rw [e1]
      unfold iins
      simp only at hm
      rw [if_neg (by omega), this]
theorem fill_same {U : US} (h : UOk U) {a : Int} (h3 : (uat U a).1 ≠ 3) (h1 : (uat U a).1 ≠ 1) (h0 : (uat U a).1 ≠ 0) : ({ U with cells := iput U.cells a (2, []) } : US) = U := by
  unfold uat at h3 h1 h0
  by_cases hl : a < U.low
  · rw [if_pos hl] at h3; exact absurd rfl h3
  rw [if_neg hl] at h3 h1 h0
  cases hg : iget U.cells a with
  | none => rw [hg] at h0; exact absurd rfl h0
  | some t =>
    rw [hg, Option.getD_some] at h1
    have hok := (h.at' _ (iget_some hg)).2.2
    have h2 : t.1 = 2 := by rcases hok.1 with h9 | h9
                            · exact absurd h9 h1
                            · exact h9
    have hz := hok.2.1
    simp only at hz
    have ht : t = (2, []) := by
      obtain ⟨k, dd⟩ := t
      simp only at h2 hz
      subst h2
      have := chk_zero hz
      cases dd with
      | nil => rfl
      | cons y r => simp at this
    rw [iput_same h.rise (by rw [hg, ht])]
section
variable {w W : World} {B : Nat → Prop} {U : US} {lv : Value}
set_option maxHeartbeats 4000000 in
set_option maxRecDepth 100000 in
theorem rfillU_any (h : DocU w B lv U) (hk : UOk U) (e a : Int) :
    Calls Tryz.prog 59 #[docU U lv, .int .i64 e, .int .i64 a] w (DPostU B w (ufill U e a)) := by
  obtain ⟨ao, cap, rfl⟩ := h.val
  obtain ⟨X, hX⟩ : ∃ X, X = ufill U e a := ⟨_, rfl⟩
  rw [← hX]
  have HW : Hid (X = if a < 0 ∨ 1048575 < a then (U, 1) else if ucur U e ≠ 0 then (U, ucur U e) else if (uat U a).1 = 3 then (U, 9) else if (uat U a).1 = 1 then (U, 8) else ({ U with cells := iput U.cells a (2, []) }, 0)) := Lib.hid hX
  obtain ⟨k0, hk0⟩ : ∃ k, k = (uat U a).1 := ⟨_, rfl⟩
  obtain ⟨cu, hcu⟩ : ∃ k, k = ucur U e := ⟨_, rfl⟩
  obtain ⟨sd, hsd⟩ : ∃ k, k = S8 (uat U a).2 := ⟨_, rfl⟩
  have HCU : Hid (∀ W, Calls Tryz.prog 102 #[.agg #[.int .i64 U.epoch, .int .i64 U.low, .slice ao U.cells.length cap], .int .i64 e] W fun r w' => r = .returned (.int .i64 (cu : Int)) ∧ Below W.heap.size W w') := Lib.hid fun W => by
    rw [hcu]; exact rcurU_any e _
  have HAT : Hid (∀ W, Below w.heap.size w W → Calls Tryz.prog 103 #[.agg #[.int .i64 U.epoch, .int .i64 U.low, .slice ao U.cells.length cap], .int .i64 a] W fun r w' => r = .returned (.agg #[.int .i64 k0, .string sd]) ∧ Below W.heap.size W w') := Lib.hid fun W hb => by
    rw [hk0, hsd]; exact ratU_any (h.grown hb) hk a
  have HWI : Hid (∀ W, Below w.heap.size w W → Calls Tryz.prog 104 #[.agg #[.int .i64 U.epoch, .int .i64 U.low, .slice ao U.cells.length cap], .int .i64 a, dCell (2, [])] W fun r w' =>
      ∃ lv', r = .returned (.agg #[.int .i64 U.epoch, .int .i64 U.low, lv']) ∧ DocO w' W.heap.size lv' (iins a (2, []) U.cells) ∧ Below W.heap.size W w') := Lib.hid fun W hb => by
    exact rwithU_any (h.grown hb) hk.len a (2, [])
  rw [← hk0, ← hcu] at HW
  have HK0 := Lib.hid hk0
  have H := Lib.hid h
  have HK := Lib.hid hk
  have HBX : Hid (Bx3 w ((w.alloc (.cells #[.int .i64 U.epoch, .int .i64 U.low, .slice ao U.cells.length cap] 41)).alloc (.cells #[.int .i64 0, .int .i64 0, .slice none 0 0] 41)) U (.slice ao U.cells.length cap)) := Lib.hid (bx3_new w U _)
  have HSM : Hid (∀ w' (k : Nat), Below w.heap.size w w' → DPostU B w (U, k) (.returned (.tuple #[.agg #[.int .i64 U.epoch, .int .i64 U.low, .slice ao U.cells.length cap], .int .i64 (k : Int)])) w') := Lib.hid fun w' k hb => dpost_same h hb k
  clear h hk hk0 hcu hX hsd
  unfold docU
  by_cases h1 : a < 0 ∨ 1048575 < a
  · obtain rfl : X = (U, 1) := by rw [HW.out, if_pos h1]
    by_cases h2 : a < 0
    · clear h1
      go_enter Tryz.func59, Tryz.ntmps59
      go_wp2
      exact bodyPost_ret (v := .tuple #[.agg #[.int .i64 U.epoch, .int .i64 U.low, .slice ao U.cells.length cap], .int .i64 ((1 : Nat) : Int)]) (by simp [results, Tryz.results59, go_sem]) rfl (HSM.out _ 1 (((Below.refl _ _).alloc (Nat.le_refl _) _).alloc (by simp) _))
    · have h3 : 1048575 < a := by omega
      clear h1
      go_enter Tryz.func59, Tryz.ntmps59
      go_wp2
      exact bodyPost_ret (v := .tuple #[.agg #[.int .i64 U.epoch, .int .i64 U.low, .slice ao U.cells.length cap], .int .i64 ((1 : Nat) : Int)]) (by simp [results, Tryz.results59, go_sem]) rfl (HSM.out _ 1 (((Below.refl _ _).alloc (Nat.le_refl _) _).alloc (by simp) _))
  have HW2 : Hid (X = if cu ≠ 0 then (U, cu) else if k0 = 3 then (U, 9) else if k0 = 1 then (U, 8) else ({ U with cells := iput U.cells a (2, []) }, 0)) := Lib.hid (by rw [HW.out, if_neg h1])
  have h1a : ¬ a < 0 := fun hx => h1 (.inl hx)
  have h1b : ¬ 1048575 < a := fun hx => h1 (.inr hx)
  clear h1
  go_enter Tryz.func59, Tryz.ntmps59
  go_wp2_with fail
  refine (HCU.out _).mono ?_
  rintro r w1 ⟨rfl, hb1⟩
  have hx1 := HBX.out.old hb1
  have HX1 := Lib.hid hx1
  obtain ⟨z0, z1, z2⟩ := hx1.c
  obtain ⟨x0, x1, x2, y0, y1, y2⟩ := hx1.r
  have pf := hx1.f
  have pg := hx1.g
  clear hx1 hb1 h1a h1b
  by_cases h3 : cu = 0
  rotate_left
  · obtain rfl : X = (U, cu) := by rw [HW2.out, if_pos h3]
    have h3i : ¬ ((cu : Int) = 0) := by omega
    clear h3
    go_wp2
    exact bodyPost_ret (v := .tuple #[.agg #[.int .i64 U.epoch, .int .i64 U.low, .slice ao U.cells.length cap], .int .i64 ((cu : Nat) : Int)]) (by simp [results, Tryz.results59, go_sem, y0, y1, y2]) rfl (dpost_box H.out HX1.out _ _ _ cu)
  have HW3 : Hid (X = if k0 = 3 then (U, 9) else if k0 = 1 then (U, 8) else ({ U with cells := iput U.cells a (2, []) }, 0)) := Lib.hid (by rw [HW2.out, if_neg (by omega)])
  subst h3
  go_wp2_with fail
  refine (HAT.out _ HX1.out.below).mono ?_
  rintro r w2 ⟨rfl, hb2⟩
  clear z0 z1 z2 y0 y1 y2 pf pg x0 x1 x2
  have hx2 := HX1.out.old hb2
  have HX2 := Lib.hid hx2
  obtain ⟨z0, z1, z2⟩ := hx2.c
  obtain ⟨x0, x1, x2, y0, y1, y2⟩ := hx2.r
  have pf := hx2.f
  have pg := hx2.g
  have hfd := ufieldD k0 sd w2
  clear hx2 hb2
  by_cases h4 : k0 = 3
  · obtain rfl : X = (U, 9) := by rw [HW3.out, if_pos h4]
    subst h4
    go_wp2
    exact bodyPost_ret (v := .tuple #[.agg #[.int .i64 U.epoch, .int .i64 U.low, .slice ao U.cells.length cap], .int .i64 ((9 : Nat) : Int)]) (by simp [results, Tryz.results59, go_sem, y0, y1, y2]) rfl (dpost_box H.out HX2.out _ _ _ 9)
  by_cases h6 : k0 = 1
  · obtain rfl : X = (U, 8) := by rw [HW3.out, if_neg h4, if_pos h6]
    subst h6
    clear h4
    go_wp2
    exact bodyPost_ret (v := .tuple #[.agg #[.int .i64 U.epoch, .int .i64 U.low, .slice ao U.cells.length cap], .int .i64 ((8 : Nat) : Int)]) (by simp [results, Tryz.results59, go_sem, y0, y1, y2]) rfl (dpost_box H.out HX2.out _ _ _ 8)
  obtain rfl : X = ({ U with cells := iput U.cells a (2, []) }, 0) := by rw [HW3.out, if_neg h4, if_neg h6]
  have p4 : (k0 == 3) = false := beq_eq_false_iff_ne.2 h4
  have p6 : (k0 == 1) = false := beq_eq_false_iff_ne.2 h6
  by_cases h5 : k0 = 0
  rotate_left
  · have HSA : Hid (({ U with cells := iput U.cells a (2, []) } : US) = U) := Lib.hid (fill_same HK.out (by rw [← HK0.out]; exact h4) (by rw [← HK0.out]; exact h6) (by rw [← HK0.out]; exact h5))
    have p5 : (k0 == 0) = false := beq_eq_false_iff_ne.2 h5
    clear h4 h5 h6
    go_wp2
    exact bodyPost_ret (v := .tuple #[.agg #[.int .i64 U.epoch, .int .i64 U.low, .slice ao U.cells.length cap], .int .i64 ((0 : Nat) : Int)]) (by simp [results, Tryz.results59, go_sem, y0, y1, y2]) rfl (by rw [HSA.out]; exact dpost_box H.out HX2.out _ _ _ 0)
  have HPU : Hid (iput U.cells a (2, []) = iins a (2, []) U.cells) := Lib.hid (iput_none (uat_kind HK.out (by rw [← HK0.out]; exact h5)).2 _)
  subst h5
  clear h4 h6 p4 p6
  go_wp2_with fail
  refine (HWI.out _ HX2.out.below).mono ?_
  rintro r w3 ⟨v3, rfl, ho3, hb3⟩
  obtain ⟨ao3, cap3, rfl⟩ := ho3.val
  clear z0 z1 z2 y0 y1 y2 pf pg x0 x1 x2 hfd
  have HE := Lib.hid (fun x0 x1 x2 => dpost_put (B := B) (U' := { U with cells := iins a (2, []) U.cells }) HX2.out ho3 hb3 x0 x1 x2 0)
  have hx3 := HX2.out.old hb3
  have HX3 := Lib.hid hx3
  obtain ⟨z0, z1, z2⟩ := hx3.c
  obtain ⟨x0, x1, x2, y0, y1, y2⟩ := hx3.r
  have pf := hx3.f
  have pg := hx3.g
  obtain ⟨n3, hn3⟩ : ∃ n, n = (iins a (2, []) U.cells).length := ⟨_, rfl⟩
  rw [← hn3] at HE ⊢
  clear hx3 hb3 ho3 hn3
  go_wp2
  exact bodyPost_ret (v := .tuple #[.agg #[.int .i64 U.epoch, .int .i64 U.low, .slice ao3 n3 cap3], .int .i64 ((0 : Nat) : Int)]) (by simp [results, Tryz.results59, go_sem, y0, y1, y2]) rfl (by rw [HPU.out]; exact HE.out _ _ _)
end
end Go.Proofs.YtiaijpknnomlnaaGreat

namespace Go.Proofs.YtiaijpknnomlnaaGreat
open Go.RowKit

/-- A document's unit in its box, and a cell's box behind it. -/
structure BxC (w W : World) (U : US) (lv : Value) : Prop where
  below : Below w.heap.size w W
  box : W.heap[w.heap.size]? = some (.cells #[.int .i64 U.epoch, .int .i64 U.low, lv] 41 (0, 0))
  res : ∃ x0 x1, W.heap[w.heap.size + 1]? = some (.cells #[x0, x1] 89 (0, 0))
section
variable {w W W' : World} {U : US} {lv : Value}
theorem bxC_new (w : World) (U : US) (lv : Value) : BxC w ((w.alloc (.cells #[.int .i64 U.epoch, .int .i64 U.low, lv] 41)).alloc (.cells #[.int .i64 0, .string ⟨#[]⟩] 89)) U lv := by
  refine ⟨((Below.refl _ _).alloc (Nat.le_refl _) _).alloc (by simp) _, ?_, _, _, allocU_at _ (by simp)⟩
  rw [Below.heap_alloc _ _ _ (by simp)]
  exact heap_alloc_new _ _
theorem BxC.lt (h : BxC w W U lv) : w.heap.size + 1 < W.heap.size := by
  obtain ⟨_, _, h⟩ := h.res
  exact (Array.getElem?_eq_some_iff.1 h).1
theorem BxC.old (h : BxC w W U lv) (hb : Below W.heap.size W W') : BxC w W' U lv := by
  have hl := h.lt
  obtain ⟨x0, x1, hr⟩ := h.res
  exact ⟨h.below.trans (hb.mono h.below.size), (hb.block _ (by omega)).trans h.box, x0, x1, (hb.block _ hl).trans hr⟩
theorem BxC.c (h : BxC w W U lv) : W.cell? ⟨w.heap.size, 0, none⟩ = some (.int .i64 U.epoch) ∧ W.cell? ⟨w.heap.size, 1, none⟩ = some (.int .i64 U.low) ∧ W.cell? ⟨w.heap.size, 2, none⟩ = some lv :=
  ⟨by rw [cell_of_row _ _ 0 _ _ _ h.box]; rfl, by rw [cell_of_row _ _ 1 _ _ _ h.box]; rfl, by rw [cell_of_row _ _ 2 _ _ _ h.box]; rfl⟩
theorem BxC.g (h : BxC w W U lv) (i : Nat) : W.frozen? ⟨w.heap.size + 1, i, none⟩ = false := by
  obtain ⟨_, _, h⟩ := h.res
  exact frozen_of_row _ _ i _ _ h
theorem BxC.r (h : BxC w W U lv) : ∃ x0 x1, W.cell? ⟨w.heap.size + 1, 0, none⟩ = some x0 ∧ W.cell? ⟨w.heap.size + 1, 1, none⟩ = some x1 := by
  obtain ⟨x0, x1, h⟩ := h.res
  exact ⟨x0, x1, by rw [cell_of_row _ _ 0 _ _ _ h]; rfl, by rw [cell_of_row _ _ 1 _ _ _ h]; rfl⟩
theorem BxC.res_below (h : BxC w W U lv) (a b : Value) : Below w.heap.size w ((W.setCell ⟨w.heap.size + 1, 0, none⟩ a).setCell ⟨w.heap.size + 1, 1, none⟩ b) :=
  h.below.trans (((fr_set W (w.heap.size + 1) 0 a).trans (fr_set _ (w.heap.size + 1) 1 b) (fun _ _ h => h) (fun _ _ h => h)).below (S := fun j => j = w.heap.size + 1) h.below.size fun j hj e => by omega)
end
section
variable {w : World} {B : Nat → Prop} {U : US} {lv : Value}
end
end Go.Proofs.YtiaijpknnomlnaaGreat

namespace Go.Proofs.YtiaijpknnomlnaaGreat
open Go.RowKit

theorem Bx3.setLow {w W : World} {U : US} {lv : Value} (h : Bx3 w W U lv) (b : Int) : Bx3 w (W.setCell ⟨w.heap.size, 1, none⟩ (.int .i64 b)) { U with low := b } lv := by
  have hf := fr_set W w.heap.size 1 (.int .i64 b)
  have hl := h.lt
  obtain ⟨x0, x1, x2, hr⟩ := h.res
  exact ⟨h.below.trans (hf.below h.below.size fun j hj e => by omega), heap_setCell_same W w.heap.size 1 _ _ _ h.box, x0, x1, x2, (hf.block _ hl (by omega)).trans hr⟩
theorem trim_fin {w W : World} {B : Nat → Prop} {U2 U' : US} {sl v : Value} {bs : Nat} (hx : Bx3 w W U2 sl) (ho : DocO W bs v U'.cells) (hgb : w.heap.size + 1 < bs) (x a b c : Value) (k : Nat) :
    DPostU B w (U', k) (.returned (.tuple #[docU U' v, .int .i64 (k : Int)])) (tri (W.setCell ⟨w.heap.size, 2, none⟩ x) (w.heap.size + 1) a b c) := by
  have hf1 := fr_set W w.heap.size 2 x
  have hf2 := fr_tri (W.setCell ⟨w.heap.size, 2, none⟩ x) (w.heap.size + 1) a b c
  refine ⟨v, rfl, ?_, (hx.below.trans (hf1.below hx.below.size fun j hj e => by omega)).trans (hf2.below (Nat.le_trans hx.below.size hf1.size) fun j hj e => by omega)⟩
  have h2 := RecOwn.keep (w' := tri (W.setCell ⟨w.heap.size, 2, none⟩ x) (w.heap.size + 1) a b c) ho fun j hj => by
    have hj2 := RecOwn.block ho hj
    exact (hf2.block j (Nat.lt_of_lt_of_le hj2.2.1 hf1.size) (by omega)).trans (hf1.block j hj2.2.1 (by omega))
  exact RecAt.mono h2.at' fun j _ hj => .inr (by omega)
section
variable {w W : World} {B : Nat → Prop} {U : US} {lv : Value}
set_option maxHeartbeats 4000000 in
set_option maxRecDepth 100000 in
theorem rtrimU_any (h : DocU w B lv U) (hk : UOk U) (e b : Int) :
    Calls Tryz.prog 60 #[docU U lv, .int .i64 e, .int .i64 b] w (DPostU B w (utrim U e b)) := by
  obtain ⟨ao, cap, rfl⟩ := h.val
  obtain ⟨X, hX⟩ : ∃ X, X = utrim U e b := ⟨_, rfl⟩
  rw [← hX]
  have HW : Hid (X = if b < 0 ∨ 1048576 < b then (U, 1) else if ucur U e ≠ 0 then (U, ucur U e) else ({ U with low := max U.low b, cells := U.cells.filter fun f => !decide (f.1 < max U.low b) }, 0)) := Lib.hid hX
  obtain ⟨cu, hcu⟩ : ∃ k, k = ucur U e := ⟨_, rfl⟩
  have HCU : Hid (∀ W, Calls Tryz.prog 102 #[.agg #[.int .i64 U.epoch, .int .i64 U.low, .slice ao U.cells.length cap], .int .i64 e] W fun r w' => r = .returned (.int .i64 (cu : Int)) ∧ Below W.heap.size W w') := Lib.hid fun W => by
    rw [hcu]; exact rcurU_any e _
  rw [← hcu] at HW
  have H := Lib.hid h
  have HK := Lib.hid hk
  have HBX : Hid (Bx3 w ((w.alloc (.cells #[.int .i64 U.epoch, .int .i64 U.low, .slice ao U.cells.length cap] 41)).alloc (.cells #[.int .i64 0, .int .i64 0, .slice none 0 0] 41)) U (.slice ao U.cells.length cap)) := Lib.hid (bx3_new w U _)
  have HSM : Hid (∀ w' (k : Nat), Below w.heap.size w w' → DPostU B w (U, k) (.returned (.tuple #[.agg #[.int .i64 U.epoch, .int .i64 U.low, .slice ao U.cells.length cap], .int .i64 (k : Int)])) w') := Lib.hid fun w' k hb => dpost_same h hb k
  clear h hk hcu hX
  unfold docU
  by_cases h1 : b < 0 ∨ 1048576 < b
  · obtain rfl : X = (U, 1) := by rw [HW.out, if_pos h1]
    by_cases h2 : b < 0
    · clear h1
      go_enter Tryz.func60, Tryz.ntmps60
      go_wp2
      exact bodyPost_ret (v := .tuple #[.agg #[.int .i64 U.epoch, .int .i64 U.low, .slice ao U.cells.length cap], .int .i64 ((1 : Nat) : Int)]) (by simp [results, Tryz.results60, go_sem]) rfl (HSM.out _ 1 (((Below.refl _ _).alloc (Nat.le_refl _) _).alloc (by simp) _))
    · have h3 : 1048576 < b := by omega
      clear h1
      go_enter Tryz.func60, Tryz.ntmps60
      go_wp2
      exact bodyPost_ret (v := .tuple #[.agg #[.int .i64 U.epoch, .int .i64 U.low, .slice ao U.cells.length cap], .int .i64 ((1 : Nat) : Int)]) (by simp [results, Tryz.results60, go_sem]) rfl (HSM.out _ 1 (((Below.refl _ _).alloc (Nat.le_refl _) _).alloc (by simp) _))
  have HW2 : Hid (X = if cu ≠ 0 then (U, cu) else ({ U with low := max U.low b, cells := U.cells.filter fun f => !decide (f.1 < max U.low b) }, 0)) := Lib.hid (by rw [HW.out, if_neg h1])
  have h1a : ¬ b < 0 := fun hx => h1 (.inl hx)
  have h1b : ¬ 1048576 < b := fun hx => h1 (.inr hx)
  clear h1
  go_enter Tryz.func60, Tryz.ntmps60
  go_wp2_with fail
  refine (HCU.out _).mono ?_
  rintro r w1 ⟨rfl, hb1⟩
  have hx1 := HBX.out.old hb1
  have HX1 := Lib.hid hx1
  obtain ⟨z0, z1, z2⟩ := hx1.c
  obtain ⟨x0, x1, x2, y0, y1, y2⟩ := hx1.r
  have pf := hx1.f
  have pg := hx1.g
  clear hx1 hb1 h1a h1b
  by_cases h3 : cu = 0
  rotate_left
  · obtain rfl : X = (U, cu) := by rw [HW2.out, if_pos h3]
    have h3i : ¬ ((cu : Int) = 0) := by omega
    clear h3
    go_wp2
    exact bodyPost_ret (v := .tuple #[.agg #[.int .i64 U.epoch, .int .i64 U.low, .slice ao U.cells.length cap], .int .i64 ((cu : Nat) : Int)]) (by simp [results, Tryz.results60, go_sem, y0, y1, y2]) rfl (dpost_box H.out HX1.out _ _ _ cu)
  obtain rfl : X = ({ U with low := max U.low b, cells := U.cells.filter fun f => !decide (f.1 < max U.low b) }, 0) := by rw [HW2.out, if_neg (by omega)]
  subst h3
  obtain ⟨mx, hmx⟩ : ∃ m, m = max U.low b := ⟨_, rfl⟩
  by_cases hlo : U.low < b
  · obtain rfl : mx = b := by rw [hmx]; exact Int.max_eq_right (by omega)
    have HMX : Hid (max U.low mx = mx) := Lib.hid hmx.symm
    clear hmx
    go_wp2
    obtain ⟨W2, hW2⟩ : ∃ W, W = w1.setCell ⟨w.heap.size, 1, none⟩ (.int .i64 mx) := ⟨_, rfl⟩
    rw [← hW2]
    have hsz2 : W2.heap.size = w1.heap.size := by rw [hW2]; simp
    have HBY : Hid (Bx3 w W2 { U with low := mx } (.slice ao U.cells.length cap)) := Lib.hid (by rw [hW2]; exact HX1.out.setLow mx)
    clear hW2 z0 z1 z2 x0 x1 x2 y0 y1 y2 pf pg
    have hbx := HBY.out
    obtain ⟨z0, z1, z2⟩ := hbx.c
    dsimp only at z0 z1 z2
    obtain ⟨bs, hbs⟩ : ∃ x, x = W2.heap.size := ⟨_, rfl⟩
    have hgb : w.heap.size + 1 < bs := by rw [hbs]; exact hbx.lt
    have HGB := Lib.hid hgb
    have HB2 := Lib.hid hbx.below
    have HBS := Lib.hid hbs
    go_loopw [9, 10] (fun o i wr => ∃ k : Nat, k ≤ U.cells.length ∧ i = .int .i64 (k : Int) ∧ DocO wr bs o ((U.cells.take k).filter fun f => !decide (f.1 < mx)) ∧ Below bs W2 wr)
      (fun _ i _ => U.cells.length - (intOf i).toNat)
    case atStart => exact ⟨0, Nat.zero_le _, rfl, by rw [hbs, ← hsz2]; exact recOwn_empty _ _ _ _ (Nat.le_refl _), by rw [hbs]; exact (Below.refl _ _).alloc (Nat.le_refl _) _⟩
    case round =>
      obtain ⟨k, hk, rfl, ho, hbw⟩ := hrel
      have hbr : Bx3 w wr { U with low := mx } (.slice ao U.cells.length cap) := HBY.out.old (by rw [← HBS.out]; exact hbw)
      obtain ⟨z0, z1, z2⟩ := hbr.c
      dsimp only at z0 z1 z2
      obtain ⟨l, hl⟩ : ∃ l, l = (U.cells.take k).filter fun f => !decide (f.1 < mx) := ⟨_, rfl⟩
      rw [← hl] at ho
      obtain ⟨lo, lc, rfl⟩ := ho.val
      have HO := Lib.hid ho
      have HLE := Lib.hid hl
      have HBR := Lib.hid hbr
      have HBW := Lib.hid hbw
      have HLL : Hid (l.length ≤ 1048577) := Lib.hid (by
        have h1 := HK.out.len
        have h2 := List.length_filter_le (fun f : Int × IC => !decide (f.1 < mx)) (U.cells.take k)
        rw [← hl, List.length_take] at h2
        omega)
      have HWS : Hid (bs ≤ wr.heap.size) := Lib.hid (by rw [HBS.out]; exact hbw.size)
      by_cases hlt : k < U.cells.length
      · obtain ⟨f, hf⟩ : ∃ f, U.cells[k]? = some f := ⟨_, List.getElem?_eq_getElem hlt⟩
        obtain ⟨g, off, rfl, hb, _, d0, d1, d2⟩ := H.out.at' hf
        have hww := hbr.below
        replace d0 := (hww.cell (p := ⟨g, off + k * 3, none⟩) hb).trans d0
        replace d1 := (hww.cell (p := ⟨g, off + k * 3 + 1, none⟩) hb).trans d1
        replace d2 := (hww.cell (p := ⟨g, off + k * 3 + 2, none⟩) hb).trans d2
        have HF := Lib.hid hf
        obtain ⟨f1, hf1⟩ : ∃ n, n = f.1 := ⟨_, rfl⟩
        obtain ⟨fk, hfk⟩ : ∃ n, n = f.2.1 := ⟨_, rfl⟩
        obtain ⟨fs, hfs⟩ : ∃ n, n = S8 f.2.2 := ⟨_, rfl⟩
        rw [← hf1] at d0
        rw [← hfk] at d1
        rw [← hfs] at d2
        have HF1 := Lib.hid hf1
        have HFK := Lib.hid hfk
        have HFS := Lib.hid hfs
        have hlti : (k : Int) < U.cells.length := by omega
        have HKK := Lib.hid hlt
        have HL1 : U.cells.length ≤ 1048576 := HK.out.len
        clear hf hf1 hfk hfs hbs hgb hbr hbw ho hl hww
        have HWD : Hid (∀ n, DocO (wr.drewN n) bs (.slice lo l.length lc) l ∧ bs ≤ (wr.drewN n).heap.size) := Lib.hid fun n => ⟨RecOwn.keep HO.out fun _ _ => rfl, HWS.out⟩
        have HBD : Hid (∀ n, Below bs W2 (wr.drewN n)) := Lib.hid fun n => ⟨HBW.out.os, HBW.out.tape, HBW.out.output, HBW.out.size, HBW.out.block⟩
        by_cases hq : mx ≤ f1
        · go_wp2_with fail
          go_quiet (fail)
          go_wp2_with (at_builtin; go_must (refine wpList_appDU _ rfl _ _ rfl bs _ _ rfl (wr.drewN _) f1 fk fs f HF1.out HFK.out HFS.out rfl (HWD.out _).1 rfl HLL.out (HWD.out _).2 ?_))
          intro v5 w5 ho5 hb5
          have HO5 : Hid (DocO w5 bs v5 ((U.cells.take (k + 1)).filter fun f => !decide (f.1 < mx))) := Lib.hid (by
            rw [take_snocU HF.out, List.filter_append, ← HLE.out, List.filter_cons, if_pos (by rw [← HF1.out]; simp; omega)]
            exact ho5)
          have HB5 : Hid (Below bs W2 w5) := Lib.hid ((HBD.out _).trans hb5)
          clear ho5 hb5
          go_wp2
          go_roundw
          case rel => exact ⟨k + 1, HKK.out, rfl, HO5.out, HB5.out⟩
          case measure => have := HKK.out; simp [intOf]; omega
        · have HOE : ∀ W, DocO W bs (.slice lo l.length lc) l → DocO W bs (.slice lo l.length lc) ((U.cells.take (k + 1)).filter fun f => !decide (f.1 < mx)) := fun W h => by
            rw [take_snocU HF.out, List.filter_append, ← HLE.out, List.filter_cons, if_neg (by rw [← HF1.out]; simp; omega)]
            simpa using h
          have HOE := Lib.hid HOE
          go_wp2_with fail
          go_quiet (fail)
          go_wp2
          go_roundw
          case rel => exact ⟨k + 1, HKK.out, rfl, HOE.out _ (HWD.out _).1, HBD.out _⟩
          case measure => have := HKK.out; simp [intOf]; omega
      · have hke : k = U.cells.length := by omega
        have hcs : (U.cells.take k).filter (fun f => !decide (f.1 < mx)) = U.cells.filter (fun f => !decide (f.1 < mx)) := by rw [hke, List.take_length]
        have ho2 : DocO wr bs (.slice lo l.length lc) (U.cells.filter fun f => !decide (f.1 < mx)) := by rw [← hcs, ← HLE.out]; exact HO.out
        obtain ⟨x0, x1, x2, y0, y1, y2⟩ := hbr.r
        have pf := hbr.f
        have pg := hbr.g
        obtain ⟨nl, hnl⟩ : ∃ n, n = l.length := ⟨_, rfl⟩
        rw [← hnl] at ho2 ⊢
        have HE := Lib.hid (fun x a b c => trim_fin (B := B) (U' := { U with low := mx, cells := U.cells.filter fun f => !decide (f.1 < mx) }) hbr ho2 HGB.out x a b c 0)
        clear hcs ho2 hnl hbs hgb hbr hbw ho hl
        go_wp2
        exact bodyPost_ret (v := .tuple #[.agg #[.int .i64 U.epoch, .int .i64 mx, .slice lo nl lc], .int .i64 ((0 : Nat) : Int)]) (by simp [results, Tryz.results60, go_sem, y0, y1, y2]) rfl (by rw [HMX.out]; exact HE.out _ _ _ _)
  · obtain rfl : mx = U.low := by rw [hmx]; exact Int.max_eq_left (by omega)
    have HMX : Hid (max U.low b = U.low) := Lib.hid hmx.symm
    clear hmx
    go_wp2
    obtain ⟨W2, hW2⟩ : ∃ W, W = w1 := ⟨_, rfl⟩
    rw [← hW2]
    have HBY : Hid (Bx3 w W2 U (.slice ao U.cells.length cap)) := Lib.hid (by rw [hW2]; exact HX1.out)
    clear hlo hW2 z0 z1 z2 x0 x1 x2 y0 y1 y2 pf pg
    have hbx := HBY.out
    obtain ⟨z0, z1, z2⟩ := hbx.c
    obtain ⟨bs, hbs⟩ : ∃ x, x = W2.heap.size := ⟨_, rfl⟩
    have hgb : w.heap.size + 1 < bs := by rw [hbs]; exact hbx.lt
    have HGB := Lib.hid hgb
    have HB2 := Lib.hid hbx.below
    have HBS := Lib.hid hbs
    go_loopw [9, 10] (fun o i wr => ∃ k : Nat, k ≤ U.cells.length ∧ i = .int .i64 (k : Int) ∧ DocO wr bs o ((U.cells.take k).filter fun f => !decide (f.1 < U.low)) ∧ Below bs W2 wr)
      (fun _ i _ => U.cells.length - (intOf i).toNat)
    case atStart => exact ⟨0, Nat.zero_le _, rfl, by rw [hbs]; exact recOwn_empty _ _ _ _ (Nat.le_refl _), by rw [hbs]; exact (Below.refl _ _).alloc (Nat.le_refl _) _⟩
    case round =>
      obtain ⟨k, hk, rfl, ho, hbw⟩ := hrel
      have hbr : Bx3 w wr U (.slice ao U.cells.length cap) := HBY.out.old (by rw [← HBS.out]; exact hbw)
      obtain ⟨z0, z1, z2⟩ := hbr.c
      obtain ⟨l, hl⟩ : ∃ l, l = (U.cells.take k).filter fun f => !decide (f.1 < U.low) := ⟨_, rfl⟩
      rw [← hl] at ho
      obtain ⟨lo, lc, rfl⟩ := ho.val
      have HO := Lib.hid ho
      have HLE := Lib.hid hl
      have HBR := Lib.hid hbr
      have HBW := Lib.hid hbw
      have HLL : Hid (l.length ≤ 1048577) := Lib.hid (by
        have h1 := HK.out.len
        have h2 := List.length_filter_le (fun f : Int × IC => !decide (f.1 < U.low)) (U.cells.take k)
        rw [← hl, List.length_take] at h2
        omega)
      have HWS : Hid (bs ≤ wr.heap.size) := Lib.hid (by rw [HBS.out]; exact hbw.size)
      by_cases hlt : k < U.cells.length
      · obtain ⟨f, hf⟩ : ∃ f, U.cells[k]? = some f := ⟨_, List.getElem?_eq_getElem hlt⟩
        obtain ⟨g, off, rfl, hb, _, d0, d1, d2⟩ := H.out.at' hf
        have hww := hbr.below
        replace d0 := (hww.cell (p := ⟨g, off + k * 3, none⟩) hb).trans d0
        replace d1 := (hww.cell (p := ⟨g, off + k * 3 + 1, none⟩) hb).trans d1
        replace d2 := (hww.cell (p := ⟨g, off + k * 3 + 2, none⟩) hb).trans d2
        have HF := Lib.hid hf
        obtain ⟨f1, hf1⟩ : ∃ n, n = f.1 := ⟨_, rfl⟩
        obtain ⟨fk, hfk⟩ : ∃ n, n = f.2.1 := ⟨_, rfl⟩
        obtain ⟨fs, hfs⟩ : ∃ n, n = S8 f.2.2 := ⟨_, rfl⟩
        rw [← hf1] at d0
        rw [← hfk] at d1
        rw [← hfs] at d2
        have HF1 := Lib.hid hf1
        have HFK := Lib.hid hfk
        have HFS := Lib.hid hfs
        have hlti : (k : Int) < U.cells.length := by omega
        have HKK := Lib.hid hlt
        have HL1 : U.cells.length ≤ 1048576 := HK.out.len
        clear hf hf1 hfk hfs hbs hgb hbr hbw ho hl hww
        have HWD : Hid (∀ n, DocO (wr.drewN n) bs (.slice lo l.length lc) l ∧ bs ≤ (wr.drewN n).heap.size) := Lib.hid fun n => ⟨RecOwn.keep HO.out fun _ _ => rfl, HWS.out⟩
        have HBD : Hid (∀ n, Below bs W2 (wr.drewN n)) := Lib.hid fun n => ⟨HBW.out.os, HBW.out.tape, HBW.out.output, HBW.out.size, HBW.out.block⟩
        by_cases hq : U.low ≤ f1
        · go_wp2_with fail
          go_quiet (fail)
          go_wp2_with (at_builtin; go_must (refine wpList_appDU _ rfl _ _ rfl bs _ _ rfl (wr.drewN _) f1 fk fs f HF1.out HFK.out HFS.out rfl (HWD.out _).1 rfl HLL.out (HWD.out _).2 ?_))
          intro v5 w5 ho5 hb5
          have HO5 : Hid (DocO w5 bs v5 ((U.cells.take (k + 1)).filter fun f => !decide (f.1 < U.low))) := Lib.hid (by
            rw [take_snocU HF.out, List.filter_append, ← HLE.out, List.filter_cons, if_pos (by rw [← HF1.out]; simp; omega)]
            exact ho5)
          have HB5 : Hid (Below bs W2 w5) := Lib.hid ((HBD.out _).trans hb5)
          clear ho5 hb5
          go_wp2
          go_roundw
          case rel => exact ⟨k + 1, HKK.out, rfl, HO5.out, HB5.out⟩
          case measure => have := HKK.out; simp [intOf]; omega
        · have HOE : ∀ W, DocO W bs (.slice lo l.length lc) l → DocO W bs (.slice lo l.length lc) ((U.cells.take (k + 1)).filter fun f => !decide (f.1 < U.low)) := fun W h => by
            rw [take_snocU HF.out, List.filter_append, ← HLE.out, List.filter_cons, if_neg (by rw [← HF1.out]; simp; omega)]
            simpa using h
          have HOE := Lib.hid HOE
          go_wp2_with fail
          go_quiet (fail)
          go_wp2
          go_roundw
          case rel => exact ⟨k + 1, HKK.out, rfl, HOE.out _ (HWD.out _).1, HBD.out _⟩
          case measure => have := HKK.out; simp [intOf]; omega
      · have hke : k = U.cells.length := by omega
        have hcs : (U.cells.take k).filter (fun f => !decide (f.1 < U.low)) = U.cells.filter (fun f => !decide (f.1 < U.low)) := by rw [hke, List.take_length]
        have ho2 : DocO wr bs (.slice lo l.length lc) (U.cells.filter fun f => !decide (f.1 < U.low)) := by rw [← hcs, ← HLE.out]; exact HO.out
        obtain ⟨x0, x1, x2, y0, y1, y2⟩ := hbr.r
        have pf := hbr.f
        have pg := hbr.g
        obtain ⟨nl, hnl⟩ : ∃ n, n = l.length := ⟨_, rfl⟩
        rw [← hnl] at ho2 ⊢
        have HE := Lib.hid (fun x a b c => trim_fin (B := B) (U' := { U with cells := U.cells.filter fun f => !decide (f.1 < U.low) }) hbr ho2 HGB.out x a b c 0)
        clear hcs ho2 hnl hbs hgb hbr hbw ho hl
        go_wp2
        exact bodyPost_ret (v := .tuple #[.agg #[.int .i64 U.epoch, .int .i64 U.low, .slice lo nl lc], .int .i64 ((0 : Nat) : Int)]) (by simp [results, Tryz.results60, go_sem, y0, y1, y2]) rfl (by rw [HMX.out]; exact HE.out _ _ _ _)
end
end Go.Proofs.YtiaijpknnomlnaaGreat

namespace Go.Proofs.YtiaijpknnomlnaaGreat
open Go.RowKit

/-- What Cut of the document's answers. -/
def CPostU (B : Nat → Prop) (w : World) (x : Int × US × Nat) (r : Ending) (w' : World) : Prop :=
  ∃ lv', r = .returned (.tuple #[.int .i64 x.1, docU x.2.1 lv', .int .i64 (x.2.2 : Int)]) ∧ DocU w' (fun j => B j ∨ w.heap.size ≤ j) lv' x.2.1 ∧ Below w.heap.size w w'
theorem DPostU.cut {B : Nat → Prop} {w w' : World} {U : US} {v : Value} {k : Nat} (n : Int) (h : DPostU B w (U, k) (.returned (.tuple #[docU U v, .int .i64 (k : Int)])) w') : CPostU B w (n, U, k) (.returned (.tuple #[.int .i64 n, docU U v, .int .i64 (k : Int)])) w' := by
  obtain ⟨lv', e, h1, h2⟩ := h
  have : v = lv' := by simpa [docU] using e
  subst this
  exact ⟨v, rfl, h1, h2⟩
theorem CPostU.drew {B : Nat → Prop} {w w' : World} {x : Int × US × Nat} {r : Ending} (h : CPostU B w x r w') : CPostU B w x r w'.drew := by
  obtain ⟨lv', e, h1, h2⟩ := h
  exact ⟨lv', e, DocU.grown h1 ⟨rfl, rfl, rfl, Nat.le_refl _, fun _ _ => rfl⟩, h2.drew⟩
theorem cpost_same {w w' : World} {B : Nat → Prop} {U : US} {lv : Value} (h : DocU w B lv U) (hb : Below w.heap.size w w') (k : Nat) : CPostU B w (0, U, k) (.returned (.tuple #[.int .i64 0, docU U lv, .int .i64 (k : Int)])) w' := (dpost_same h hb k).cut 0
theorem cpost_box {w W : World} {B : Nat → Prop} {U : US} {lv : Value} (h : DocU w B lv U) (hx : Bx3 w W U lv) (a b c : Value) (k : Nat) : CPostU B w (0, U, k) (.returned (.tuple #[.int .i64 0, docU U lv, .int .i64 (k : Int)])) (tri W (w.heap.size + 1) a b c) := (dpost_box h hx a b c k).cut 0
section
variable {w W : World} {B : Nat → Prop} {U : US} {lv : Value}
set_option maxHeartbeats 4000000 in
set_option maxRecDepth 100000 in
theorem rcutU_any (h : DocU w B lv U) (hk : UOk U) (e b : Int) :
    Calls Tryz.prog 61 #[docU U lv, .int .i64 e, .int .i64 b] w (CPostU B w (ucut U e b)) := by
  obtain ⟨ao, cap, rfl⟩ := h.val
  obtain ⟨X, hX⟩ : ∃ X, X = ucut U e b := ⟨_, rfl⟩
  rw [← hX]
  have HW : Hid (X = if b < 0 ∨ 1048576 < b then (0, U, 1) else if ucur U e ≠ 0 then (0, U, ucur U e) else if b < U.low then (0, U, 9) else ((U.cells.length : Int) - ((U.cells.filter fun f => !decide (b ≤ f.1)).length : Int), { U with cells := U.cells.filter fun f => !decide (b ≤ f.1) }, 0)) := Lib.hid hX
  obtain ⟨cu, hcu⟩ : ∃ k, k = ucur U e := ⟨_, rfl⟩
  have HCU : Hid (∀ W, Calls Tryz.prog 102 #[.agg #[.int .i64 U.epoch, .int .i64 U.low, .slice ao U.cells.length cap], .int .i64 e] W fun r w' => r = .returned (.int .i64 (cu : Int)) ∧ Below W.heap.size W w') := Lib.hid fun W => by
    rw [hcu]; exact rcurU_any e _
  rw [← hcu] at HW
  have H := Lib.hid h
  have HK := Lib.hid hk
  have HBX : Hid (Bx3 w ((w.alloc (.cells #[.int .i64 U.epoch, .int .i64 U.low, .slice ao U.cells.length cap] 41)).alloc (.cells #[.int .i64 0, .int .i64 0, .slice none 0 0] 41)) U (.slice ao U.cells.length cap)) := Lib.hid (bx3_new w U _)
  have HSM : Hid (∀ w' (k : Nat), Below w.heap.size w w' → CPostU B w (0, U, k) (.returned (.tuple #[.int .i64 0, .agg #[.int .i64 U.epoch, .int .i64 U.low, .slice ao U.cells.length cap], .int .i64 (k : Int)])) w') := Lib.hid fun w' k hb => cpost_same h hb k
  clear h hk hcu hX
  unfold docU
  by_cases h1 : b < 0 ∨ 1048576 < b
  · obtain rfl : X = (0, U, 1) := by rw [HW.out, if_pos h1]
    by_cases h2 : b < 0
    · clear h1
      go_enter Tryz.func61, Tryz.ntmps61
      go_wp2
      go_region
      all_goals
       go_wp2
       exact bodyPost_ret (v := .tuple #[.int .i64 0, .agg #[.int .i64 U.epoch, .int .i64 U.low, .slice ao U.cells.length cap], .int .i64 ((1 : Nat) : Int)]) (by simp [results, Tryz.results61, go_sem]) rfl (HSM.out _ 1 (((Below.refl _ _).alloc (Nat.le_refl _) _).alloc (by simp) _).drew)
    · have h3 : 1048576 < b := by omega
      clear h1
      go_enter Tryz.func61, Tryz.ntmps61
      go_wp2
      go_region
      all_goals
       go_wp2
       exact bodyPost_ret (v := .tuple #[.int .i64 0, .agg #[.int .i64 U.epoch, .int .i64 U.low, .slice ao U.cells.length cap], .int .i64 ((1 : Nat) : Int)]) (by simp [results, Tryz.results61, go_sem]) rfl (HSM.out _ 1 (((Below.refl _ _).alloc (Nat.le_refl _) _).alloc (by simp) _).drew)
  have HW2 : Hid (X = if cu ≠ 0 then (0, U, cu) else if b < U.low then (0, U, 9) else ((U.cells.length : Int) - ((U.cells.filter fun f => !decide (b ≤ f.1)).length : Int), { U with cells := U.cells.filter fun f => !decide (b ≤ f.1) }, 0)) := Lib.hid (by rw [HW.out, if_neg h1])
  have h1a : ¬ b < 0 := fun hx => h1 (.inl hx)
  have h1b : ¬ 1048576 < b := fun hx => h1 (.inr hx)
  clear h1
  go_enter Tryz.func61, Tryz.ntmps61
  go_wp2_with fail
  refine (HCU.out _).mono ?_
  rintro r w1 ⟨rfl, hb1⟩
  have hx1 := HBX.out.old hb1
  have HX1 := Lib.hid hx1
  obtain ⟨z0, z1, z2⟩ := hx1.c
  obtain ⟨x0, x1, x2, y0, y1, y2⟩ := hx1.r
  have pf := hx1.f
  have pg := hx1.g
  clear hx1 hb1 h1a h1b
  by_cases h3 : cu = 0
  rotate_left
  · obtain rfl : X = (0, U, cu) := by rw [HW2.out, if_pos h3]
    have h3i : ¬ ((cu : Int) = 0) := by omega
    clear h3
    go_wp2
    go_region
    all_goals
     go_wp2
     exact bodyPost_ret (v := .tuple #[.int .i64 0, .agg #[.int .i64 U.epoch, .int .i64 U.low, .slice ao U.cells.length cap], .int .i64 ((cu : Nat) : Int)]) (by simp [results, Tryz.results61, go_sem, y0, y1, y2]) rfl (by first | exact cpost_box H.out HX1.out _ _ _ cu | exact (cpost_box H.out HX1.out _ _ _ cu).drew)
  have HW3 : Hid (X = if b < U.low then (0, U, 9) else ((U.cells.length : Int) - ((U.cells.filter fun f => !decide (b ≤ f.1)).length : Int), { U with cells := U.cells.filter fun f => !decide (b ≤ f.1) }, 0)) := Lib.hid (by rw [HW2.out, if_neg (by omega)])
  subst h3
  by_cases h4 : b < U.low
  · obtain rfl : X = (0, U, 9) := by rw [HW3.out, if_pos h4]
    go_wp2
    go_region
    all_goals
     go_wp2
     exact bodyPost_ret (v := .tuple #[.int .i64 0, .agg #[.int .i64 U.epoch, .int .i64 U.low, .slice ao U.cells.length cap], .int .i64 ((9 : Nat) : Int)]) (by simp [results, Tryz.results61, go_sem, y0, y1, y2]) rfl (by first | exact cpost_box H.out HX1.out _ _ _ 9 | exact (cpost_box H.out HX1.out _ _ _ 9).drew)
  · obtain rfl : X = ((U.cells.length : Int) - ((U.cells.filter fun f => !decide (b ≤ f.1)).length : Int), { U with cells := U.cells.filter fun f => !decide (b ≤ f.1) }, 0) := by rw [HW3.out, if_neg h4]
    go_wp2
    obtain ⟨W2, hW2⟩ : ∃ W, W = w1 := ⟨_, rfl⟩
    rw [← hW2]
    have HBY : Hid (Bx3 w W2 U (.slice ao U.cells.length cap)) := Lib.hid (by rw [hW2]; exact HX1.out)
    clear h4 hW2 z0 z1 z2 x0 x1 x2 y0 y1 y2 pf pg
    have hbx := HBY.out
    obtain ⟨z0, z1, z2⟩ := hbx.c
    obtain ⟨bs, hbs⟩ : ∃ x, x = W2.heap.size := ⟨_, rfl⟩
    have hgb : w.heap.size + 1 < bs := by rw [hbs]; exact hbx.lt
    have HGB := Lib.hid hgb
    have HB2 := Lib.hid hbx.below
    have HBS := Lib.hid hbs
    go_loopw [10, 11] (fun o i wr => ∃ k : Nat, k ≤ U.cells.length ∧ i = .int .i64 (k : Int) ∧ DocO wr bs o ((U.cells.take k).filter fun f => !decide (b ≤ f.1)) ∧ Below bs W2 wr)
      (fun _ i _ => U.cells.length - (intOf i).toNat)
    case atStart => exact ⟨0, Nat.zero_le _, rfl, by rw [hbs]; exact recOwn_empty _ _ _ _ (Nat.le_refl _), by rw [hbs]; exact (Below.refl _ _).alloc (Nat.le_refl _) _⟩
    case round =>
      obtain ⟨k, hk, rfl, ho, hbw⟩ := hrel
      have hbr : Bx3 w wr U (.slice ao U.cells.length cap) := HBY.out.old (by rw [← HBS.out]; exact hbw)
      obtain ⟨z0, z1, z2⟩ := hbr.c
      obtain ⟨l, hl⟩ : ∃ l, l = (U.cells.take k).filter fun f => !decide (b ≤ f.1) := ⟨_, rfl⟩
      rw [← hl] at ho
      obtain ⟨lo, lc, rfl⟩ := ho.val
      have HO := Lib.hid ho
      have HLE := Lib.hid hl
      have HBR := Lib.hid hbr
      have HBW := Lib.hid hbw
      have HLL : Hid (l.length ≤ 1048577) := Lib.hid (by
        have h1 := HK.out.len
        have h2 := List.length_filter_le (fun f : Int × IC => !decide (b ≤ f.1)) (U.cells.take k)
        rw [← hl, List.length_take] at h2
        omega)
      have HWS : Hid (bs ≤ wr.heap.size) := Lib.hid (by rw [HBS.out]; exact hbw.size)
      by_cases hlt : k < U.cells.length
      · obtain ⟨f, hf⟩ : ∃ f, U.cells[k]? = some f := ⟨_, List.getElem?_eq_getElem hlt⟩
        obtain ⟨g, off, rfl, hb, _, d0, d1, d2⟩ := H.out.at' hf
        have hww := hbr.below
        replace d0 := (hww.cell (p := ⟨g, off + k * 3, none⟩) hb).trans d0
        replace d1 := (hww.cell (p := ⟨g, off + k * 3 + 1, none⟩) hb).trans d1
        replace d2 := (hww.cell (p := ⟨g, off + k * 3 + 2, none⟩) hb).trans d2
        have HF := Lib.hid hf
        obtain ⟨f1, hf1⟩ : ∃ n, n = f.1 := ⟨_, rfl⟩
        obtain ⟨fk, hfk⟩ : ∃ n, n = f.2.1 := ⟨_, rfl⟩
        obtain ⟨fs, hfs⟩ : ∃ n, n = S8 f.2.2 := ⟨_, rfl⟩
        rw [← hf1] at d0
        rw [← hfk] at d1
        rw [← hfs] at d2
        have HF1 := Lib.hid hf1
        have HFK := Lib.hid hfk
        have HFS := Lib.hid hfs
        have hlti : (k : Int) < U.cells.length := by omega
        have HKK := Lib.hid hlt
        have HL1 : U.cells.length ≤ 1048576 := HK.out.len
        clear hf hf1 hfk hfs hbs hgb hbr hbw ho hl hww
        by_cases hq : f1 < b
        · go_wp2_with (at_builtin; go_must (refine wpList_appDU _ rfl _ _ rfl bs _ _ rfl wr f1 fk fs f HF1.out HFK.out HFS.out rfl HO.out rfl HLL.out HWS.out ?_))
          intro v5 w5 ho5 hb5
          have HO5 : Hid (DocO w5 bs v5 ((U.cells.take (k + 1)).filter fun f => !decide (b ≤ f.1))) := Lib.hid (by
            rw [take_snocU HF.out, List.filter_append, ← HLE.out, List.filter_cons, if_pos (by rw [← HF1.out]; simp; omega)]
            exact ho5)
          have HB5 : Hid (Below bs W2 w5) := Lib.hid (HBW.out.trans hb5)
          clear ho5 hb5
          go_wp2
          go_roundw
          case rel => exact ⟨k + 1, HKK.out, rfl, HO5.out, HB5.out⟩
          case measure => have := HKK.out; simp [intOf]; omega
        · have HOE : ∀ W, DocO W bs (.slice lo l.length lc) l → DocO W bs (.slice lo l.length lc) ((U.cells.take (k + 1)).filter fun f => !decide (b ≤ f.1)) := fun W h => by
            rw [take_snocU HF.out, List.filter_append, ← HLE.out, List.filter_cons, if_neg (by rw [← HF1.out]; simp; omega)]
            simpa using h
          have HOE := Lib.hid HOE
          go_wp2
          go_roundw
          case rel => exact ⟨k + 1, HKK.out, rfl, HOE.out _ HO.out, HBW.out⟩
          case measure => have := HKK.out; simp [intOf]; omega
      · have hke : k = U.cells.length := by omega
        have hcs : (U.cells.take k).filter (fun f => !decide (b ≤ f.1)) = U.cells.filter (fun f => !decide (b ≤ f.1)) := by rw [hke, List.take_length]
        have ho2 : DocO wr bs (.slice lo l.length lc) (U.cells.filter fun f => !decide (b ≤ f.1)) := by rw [← hcs, ← HLE.out]; exact HO.out
        obtain ⟨x0, x1, x2, y0, y1, y2⟩ := hbr.r
        have pf := hbr.f
        have pg := hbr.g
        obtain ⟨nl, hnl⟩ : ∃ n, n = l.length := ⟨_, rfl⟩
        rw [← hnl] at ho2 ⊢
        have hnf : (U.cells.filter fun f => !decide (b ≤ f.1)).length = nl := by rw [hnl, HLE.out, hcs]
        have hnle : nl ≤ U.cells.length := by rw [← hnf]; exact List.length_filter_le _ _
        have hn1 := HK.out.len
        have hwr : wrap64 ((U.cells.length : Int) - (nl : Int)) = (U.cells.length : Int) - (nl : Int) := by simp only [wrap64]; omega
        have HE := Lib.hid (fun x x1 x2 x3 => (trim_fin (B := B) (U' := { U with cells := U.cells.filter fun f => !decide (b ≤ f.1) }) hbr ho2 HGB.out x x1 x2 x3 0).cut ((U.cells.length : Int) - (nl : Int)))
        have HNF := Lib.hid hnf
        clear hcs ho2 hnl hbs hgb hbr hbw ho hl hnf
        go_wp2
        go_region
        all_goals
         go_wp2
         exact bodyPost_ret (v := .tuple #[.int .i64 ((U.cells.length : Int) - (nl : Int)), .agg #[.int .i64 U.epoch, .int .i64 U.low, .slice lo nl lc], .int .i64 ((0 : Nat) : Int)]) (by simp [results, Tryz.results61, go_sem, y0, y1, y2]) rfl (by rw [HNF.out]; first | exact HE.out _ _ _ _ | exact (HE.out _ _ _ _).drew)
end
end Go.Proofs.YtiaijpknnomlnaaGreat

namespace Go.Proofs.YtiaijpknnomlnaaGreat
open Go.RowKit

set_option maxRecDepth 100000 in
theorem eq_in_cell (d : Nat) (k1 k2 : Int) (s1 s2 : ByteArray) (w : World) :
    (Op.equalIn (d + 2) 89 (.agg #[.int .i64 k1, .string s1]) (.agg #[.int .i64 k2, .string s2])).run Tryz.prog w = .ok (k1 == k2 && s1.toList == s2.toList) w := by
  have ht : Tryz.prog.underlying 89 = some (.struct (Tryz.prog.fieldsOf 89)) := by kernel_rfl
  have hp : Tryz.prog.stoodInHeld 89 = false := by kernel_rfl
  have h1 : Tryz.prog.underlying 3 = some (.int .i64) := Tryz.underlying3
  have h2 : Tryz.prog.underlying 9 = some .string := Tryz.underlying9
  obtain ⟨L, hL⟩ : ∃ L, L = (Tryz.prog.fieldsOf 89).toList := ⟨_, rfl⟩
  have hm : (L.map fun f => (f.name, f.type, f.offset)) = [("Kind", 3, 0), ("Data", 9, 1)] := by rw [hL]; kernel_rfl
  obtain ⟨f0, f1, hf, n0, hf0, g0, n1, hf1, g1⟩ : ∃ f0 f1, L = [f0, f1] ∧ f0.name = "Kind" ∧ f0.type = 3 ∧ f0.offset = 0 ∧ f1.name = "Data" ∧ f1.type = 9 ∧ f1.offset = 1 := by
    rcases L with _ | ⟨f0, _ | ⟨f1, _ | ⟨f2, r⟩⟩⟩
    · have := congrArg List.length hm; simp at this
    · have := congrArg List.length hm; simp at this
    · simp only [List.map_cons, List.map_nil, List.cons.injEq, Prod.mk.injEq, and_true] at hm
      exact ⟨f0, f1, rfl, hm.1.1, hm.1.2.1, hm.1.2.2, hm.2.1, hm.2.2.1, hm.2.2.2⟩
    · have := congrArg List.length hm
      simp at this
  rw [hL] at hf
  clear hm hL
  have hn0 : ¬ f0.name = "_" := by rw [n0]; decide
  have hn1 : ¬ f1.name = "_" := by rw [n1]; decide
  clear n0 n1
  rw [run_equalIn_agg _ _ _ _ _ ht hp, hf]
  go_simp
  by_cases e1 : k1 = k2
  · by_cases e2 : s1.toList = s2.toList
    · simp [e1, e2]
    · simp [e1, e2]
  · simp [e1]

set_option maxRecDepth 100000 in
theorem neq_ents (a1 a2 k1 k2 : Int) (s1 s2 : ByteArray) (w : World) :
    (binOp .neq 93 (.agg #[.int .i64 a1, .int .i64 k1, .string s1]) (.agg #[.int .i64 a2, .int .i64 k2, .string s2])).run Tryz.prog w = .ok (.bool (!(a1 == a2 && (k1 == k2 && s1.toList == s2.toList)))) w := by
  have ht : Tryz.prog.underlying 93 = some (.struct (Tryz.prog.fieldsOf 93)) := by kernel_rfl
  have hp : Tryz.prog.stoodInHeld 93 = false := by kernel_rfl
  have h1 : Tryz.prog.underlying 3 = some (.int .i64) := Tryz.underlying3
  obtain ⟨L, hL⟩ : ∃ L, L = (Tryz.prog.fieldsOf 93).toList := ⟨_, rfl⟩
  have hm : (L.map fun f => (f.name == "_", f.type, f.offset)) = [(false, 3, 0), (false, 89, 1)] := by rw [hL]; kernel_rfl
  obtain ⟨f0, f1, hf, n0, hf0, g0, n1, hf1, g1⟩ : ∃ f0 f1, L = [f0, f1] ∧ (f0.name == "_") = false ∧ f0.type = 3 ∧ f0.offset = 0 ∧ (f1.name == "_") = false ∧ f1.type = 89 ∧ f1.offset = 1 := by
    rcases L with _ | ⟨f0, _ | ⟨f1, _ | ⟨f2, r⟩⟩⟩
    · have := congrArg List.length hm; simp at this
    · have := congrArg List.length hm; simp at this
    · simp only [List.map_cons, List.map_nil, List.cons.injEq, Prod.mk.injEq, and_true] at hm
      exact ⟨f0, f1, rfl, hm.1.1, hm.1.2.1, hm.1.2.2, hm.2.1, hm.2.2.1, hm.2.2.2⟩
    · have := congrArg List.length hm
      simp at this
  rw [hL] at hf
  clear hm hL
  have hn0 : ¬ f0.name = "_" := beq_eq_false_iff_ne.1 n0
  have hn1 : ¬ f1.name = "_" := beq_eq_false_iff_ne.1 n1
  clear n0 n1
  rw [run_neq_struct, run_equalIn_agg _ _ _ _ _ ht hp, hf]
  go_simp
  by_cases e0 : a1 = a2
  · by_cases e1 : k1 = k2
    · by_cases e2 : s1.toList = s2.toList
      · simp [e0, e1, e2]
      · simp [e0, e1, e2]
    · simp [e0, e1]
  · simp [e0]

section
variable {w : World} {B B2 : Nat → Prop} {U : US} {lv lv2 : Value}
set_option maxHeartbeats 1000000 in
set_option maxRecDepth 100000 in
/-- Two units of the document's that read alike are the same. -/
theorem rsameU_any (h : DocU w B lv U) (h' : DocU w B2 lv2 U) (hl : U.cells.length ≤ 1048576) :
    Calls Tryz.prog 14 #[docU U lv, docU U lv2] w fun r w' => r = .returned (.bool true) ∧ Below w.heap.size w w' := by
  obtain ⟨ao, cap, rfl⟩ := h.val
  obtain ⟨ao2, cap2, rfl⟩ := h'.val
  have H := Lib.hid h
  have H' := Lib.hid h'
  have HL := Lib.hid hl
  obtain ⟨cs, hcs⟩ : ∃ c, c = U.cells := ⟨_, rfl⟩
  have HC := Lib.hid hcs
  unfold docU
  rw [← hcs] at HL ⊢
  clear h h' hl hcs
  generalize U.low = lw at *
  generalize U.epoch = ep at *
  go_enter Tryz.func14, Tryz.ntmps14
  go_wp2
  obtain ⟨W0, hW0⟩ : ∃ W, W = (w.alloc (.cells #[.int .i64 ep, .int .i64 lw, .slice ao cs.length cap] 41)).alloc (.cells #[.int .i64 ep, .int .i64 lw, .slice ao2 cs.length cap2] 41) := ⟨_, rfl⟩
  rw [← hW0]
  have hs0 : w.heap.size + 1 < W0.heap.size := by rw [hW0]; simp
  have hb0 : Below w.heap.size w W0 := by rw [hW0]; exact ((Below.refl _ _).alloc (Nat.le_refl _) _).alloc (by simp) _
  have q0 : W0.heap[w.heap.size]? = some (.cells #[.int .i64 ep, .int .i64 lw, .slice ao cs.length cap] 41 (0, 0)) := by
    rw [hW0, Below.heap_alloc _ _ _ (by simp)]; exact heap_alloc_new _ _
  have q1 : W0.heap[w.heap.size + 1]? = some (.cells #[.int .i64 ep, .int .i64 lw, .slice ao2 cs.length cap2] 41 (0, 0)) := by
    rw [hW0]; exact allocU_at _ (by simp)
  have HS0 := Lib.hid hs0
  have HB0 := Lib.hid hb0
  have HQ0 := Lib.hid q0
  have HQ1 := Lib.hid q1
  clear hW0 hs0 hb0 q0 q1
  go_loopw [5] (fun i wr => ∃ k : Nat, k ≤ cs.length ∧ i = .int .i64 (k : Int) ∧ Below W0.heap.size W0 wr)
    (fun i _ => cs.length - (intOf i).toNat)
  case atStart => exact ⟨0, Nat.zero_le _, rfl, Below.refl _ _⟩
  case round =>
    obtain ⟨k, hk, rfl, hbr⟩ := hrel
    have hs0 := HS0.out
    have g0 := (hbr.block _ (by omega)).trans HQ0.out
    have g1 := (hbr.block _ hs0).trans HQ1.out
    have z2 : wr.cell? ⟨w.heap.size, 2, none⟩ = some (.slice ao cs.length cap) := by rw [cell_of_row _ _ 2 _ _ _ g0]; rfl
    have y2 : wr.cell? ⟨w.heap.size + 1, 2, none⟩ = some (.slice ao2 cs.length cap2) := by rw [cell_of_row _ _ 2 _ _ _ g1]; rfl
    have hww : Below w.heap.size w wr := HB0.out.trans (hbr.mono (by omega))
    have HBR := Lib.hid hbr
    have HWW := Lib.hid hww
    have HBD : Hid (∀ n, Below W0.heap.size W0 (wr.drewN n)) := Lib.hid fun n => ⟨hbr.os, hbr.tape, hbr.output, hbr.size, hbr.block⟩
    clear g0 g1 hbr hs0
    by_cases hlt : k < cs.length
    · obtain ⟨f, hf⟩ : ∃ f, cs[k]? = some f := ⟨_, List.getElem?_eq_getElem hlt⟩
      obtain ⟨b, off, rfl, hb, _, d0, d1, d2⟩ := H.out.at' (by rw [← HC.out]; exact hf)
      obtain ⟨b', off', rfl, hb', _, d0', d1', d2'⟩ := H'.out.at' (by rw [← HC.out]; exact hf)
      replace d0 := (hww.cell (p := ⟨b, off + k * 3, none⟩) hb).trans d0
      replace d1 := (hww.cell (p := ⟨b, off + k * 3 + 1, none⟩) hb).trans d1
      replace d2 := (hww.cell (p := ⟨b, off + k * 3 + 2, none⟩) hb).trans d2
      replace d0' := (hww.cell (p := ⟨b', off' + k * 3, none⟩) hb').trans d0'
      replace d1' := (hww.cell (p := ⟨b', off' + k * 3 + 1, none⟩) hb').trans d1'
      replace d2' := (hww.cell (p := ⟨b', off' + k * 3 + 2, none⟩) hb').trans d2'
      generalize f.1 = f1 at *
      generalize f.2.1 = fk at *
      generalize S8 f.2.2 = fs at *
      have hne := fun W => neq_ents f1 f1 fk fk fs fs W
      simp only [beq_self_eq_true, Bool.and_self, Bool.not_true] at hne
      have hlti : (k : Int) < cs.length := by omega
      have HKK := Lib.hid hlt
      have HL1 : cs.length ≤ 1048576 := HL.out
      clear hf hww
      go_wp2_with fail
      go_quiet (fail)
      go_wp2
      go_roundw
      case rel => exact ⟨k + 1, HKK.out, rfl, HBD.out _⟩
      case measure => have := HKK.out; simp [intOf]; omega
    · go_wp2
      go_ret
      exact ⟨rfl, HWW.out⟩
end
end Go.Proofs.YtiaijpknnomlnaaGreat

namespace Go.Proofs.YtiaijpknnomlnaaGreat
open Go.RowKit

section
variable {w : World} {B : Nat → Prop} {U : US} {lv : Value}
set_option maxHeartbeats 4000000 in
set_option maxRecDepth 100000 in
theorem rcheckU_any (h : DocU w B lv U) (hk : UOk U) : Calls Tryz.prog 19 #[docU U lv] w fun r w' => r = .returned (.int .i64 0) ∧ Below w.heap.size w w' := by
  obtain ⟨ao, cap, rfl⟩ := h.val
  have H := Lib.hid h
  have HK := Lib.hid hk
  have HL := Lib.hid hk.len
  obtain ⟨cs, hcs⟩ : ∃ c, c = U.cells := ⟨_, rfl⟩
  obtain ⟨lw, hlw⟩ : ∃ l, l = U.low := ⟨_, rfl⟩
  obtain ⟨ep, hep⟩ : ∃ l, l = U.epoch := ⟨_, rfl⟩
  have HC := Lib.hid hcs
  have HLW := Lib.hid hlw.symm
  obtain ⟨b1, b2⟩ := hk.epoch
  obtain ⟨b3, b4⟩ := hk.low
  unfold docU
  rw [← hcs] at HL ⊢
  rw [← hlw] at b3 b4 ⊢
  rw [← hep] at b1 b2 ⊢
  have c1 : ¬ ep < 0 := by omega
  have c2 : ¬ 1099511627776 < ep := by omega
  have c3 : ¬ lw < 0 := by omega
  have c4 : ¬ 1048576 < lw := by omega
  clear h hk hcs hlw hep b1 b2 b3 b4
  go_enter Tryz.func19, Tryz.ntmps19
  go_wp2
  obtain ⟨W0, hW0⟩ : ∃ W, W = w.alloc (.cells #[.int .i64 ep, .int .i64 lw, .slice ao cs.length cap] 41) := ⟨_, rfl⟩
  rw [← hW0]
  have HS0 : Hid (w.heap.size < W0.heap.size) := Lib.hid (by rw [hW0]; simp)
  have HB0 : Hid (Below w.heap.size w W0) := Lib.hid (by rw [hW0]; exact (Below.refl _ _).alloc (Nat.le_refl _) _)
  have HQ0 : Hid (W0.heap[w.heap.size]? = some (.cells #[.int .i64 ep, .int .i64 lw, .slice ao cs.length cap] 41 (0, 0))) := Lib.hid (by rw [hW0]; exact heap_alloc_new _ _)
  clear hW0 c1 c2 c3 c4
  go_loopw [3] (fun i wr => ∃ k : Nat, k ≤ cs.length ∧ i = .int .i64 (k : Int) ∧ Below W0.heap.size W0 wr)
    (fun i _ => cs.length - (intOf i).toNat)
  case atStart => exact ⟨0, Nat.zero_le _, rfl, Below.refl _ _⟩
  case round =>
    obtain ⟨k, hk, rfl, hbr⟩ := hrel
    have g0 := (hbr.block _ HS0.out).trans HQ0.out
    have z0 : wr.cell? ⟨w.heap.size, 0, none⟩ = some (.int .i64 ep) := by rw [cell_of_row _ _ 0 _ _ _ g0]; rfl
    have z1 : wr.cell? ⟨w.heap.size, 1, none⟩ = some (.int .i64 lw) := by rw [cell_of_row _ _ 1 _ _ _ g0]; rfl
    have z2 : wr.cell? ⟨w.heap.size, 2, none⟩ = some (.slice ao cs.length cap) := by rw [cell_of_row _ _ 2 _ _ _ g0]; rfl
    have hww : Below w.heap.size w wr := HB0.out.trans (hbr.mono (by have := HS0.out; omega))
    have HBR := Lib.hid hbr
    have HBD : Hid (∀ n, Below W0.heap.size W0 (wr.drewN n)) := Lib.hid fun n => ⟨hbr.os, hbr.tape, hbr.output, hbr.size, hbr.block⟩
    have HL1 : cs.length ≤ 1048576 := HL.out
    clear g0 hbr
    by_cases hlt : k < cs.length
    · obtain ⟨f, hf⟩ : ∃ f, cs[k]? = some f := ⟨_, List.getElem?_eq_getElem hlt⟩
      have hok := HK.out.at' f (by rw [← HC.out]; exact List.mem_of_getElem? hf)
      rw [HLW.out] at hok
      obtain ⟨b, off, hao, hb, _, d0, d1, d2⟩ := H.out.at' (by rw [← HC.out]; exact hf)
      replace d0 := (hww.cell (p := ⟨b, off + k * 3, none⟩) hb).trans d0
      replace d1 := (hww.cell (p := ⟨b, off + k * 3 + 1, none⟩) hb).trans d1
      replace d2 := (hww.cell (p := ⟨b, off + k * 3 + 2, none⟩) hb).trans d2
      subst hao
      have hlti : (k : Int) < cs.length := by omega
      have HKK := Lib.hid hlt
      obtain ⟨e1, e2, _⟩ := hok
      generalize f.1 = f1 at *
      have e1' : ¬ f1 < lw := by omega
      have e2' : ¬ 1048575 < f1 := by omega
      clear hf hww d1 d2 e1 e2
      go_wp2_with fail
      go_quiet (fail)
      go_wp2
      go_roundw
      case rel => exact ⟨k + 1, HKK.out, rfl, HBD.out _⟩
      case measure => have := HKK.out; simp [intOf]; omega
    · go_wp2
      have hbr := HBR.out
      clear z0 z1 z2 hww HBD
      go_loopw [4] (fun i wr => ∃ k : Nat, k ≤ cs.length ∧ i = .int .i64 (k : Int) ∧ Below W0.heap.size W0 wr)
        (fun i _ => cs.length - (intOf i).toNat)
      case atStart => exact ⟨0, Nat.zero_le _, rfl, by first | exact HBR.out | exact hbr⟩
      case round =>
        clear hlt hk HBR hbr
        obtain ⟨k, hk, rfl, hbr⟩ := hrel
        have g0 := (hbr.block _ HS0.out).trans HQ0.out
        have z0 : wr.cell? ⟨w.heap.size, 0, none⟩ = some (.int .i64 ep) := by rw [cell_of_row _ _ 0 _ _ _ g0]; rfl
        have z1 : wr.cell? ⟨w.heap.size, 1, none⟩ = some (.int .i64 lw) := by rw [cell_of_row _ _ 1 _ _ _ g0]; rfl
        have z2 : wr.cell? ⟨w.heap.size, 2, none⟩ = some (.slice ao cs.length cap) := by rw [cell_of_row _ _ 2 _ _ _ g0]; rfl
        have hww : Below w.heap.size w wr := HB0.out.trans (hbr.mono (by have := HS0.out; omega))
        have HBR := Lib.hid hbr
        have HWW := Lib.hid hww
        have HBD : Hid (∀ n, Below W0.heap.size W0 (wr.drewN n)) := Lib.hid fun n => ⟨hbr.os, hbr.tape, hbr.output, hbr.size, hbr.block⟩
        have HL1 : cs.length ≤ 1048576 := HL.out
        clear g0 hbr
        by_cases hlt : k < cs.length
        · obtain ⟨f, hf⟩ : ∃ f, cs[k]? = some f := ⟨_, List.getElem?_eq_getElem hlt⟩
          have hok := HK.out.at' f (by rw [← HC.out]; exact List.mem_of_getElem? hf)
          obtain ⟨b, off, hao, hb, _, d0, d1, d2⟩ := H.out.at' (by rw [← HC.out]; exact hf)
          replace d0 := (hww.cell (p := ⟨b, off + k * 3, none⟩) hb).trans d0
          replace d1 := (hww.cell (p := ⟨b, off + k * 3 + 1, none⟩) hb).trans d1
          replace d2 := (hww.cell (p := ⟨b, off + k * 3 + 2, none⟩) hb).trans d2
          subst hao
          have hlti : (k : Int) < cs.length := by omega
          have HKK := Lib.hid hlt
          have HCK := Lib.hid (refCheck_any f.2.1 (S8 f.2.2))
          rw [S8_size, hok.2.2.2.1] at HCK
          generalize f.2.1 = fk at *
          generalize S8 f.2.2 = fs at *
          clear hf hww d0 hok
          go_wp2_with fail
          refine (HCK.out _).mono ?_
          rintro r w9 ⟨rfl, hb9⟩
          have HB9 : Hid (Below W0.heap.size W0 w9) := Lib.hid (HBR.out.trans (hb9.mono HBR.out.size))
          clear hb9
          go_wp2
          go_roundw
          case rel => exact ⟨k + 1, HKK.out, rfl, HB9.out⟩
          case measure => have := HKK.out; simp [intOf]; omega
        · go_wp2
          have hbr := HBR.out
          clear z0 z1 z2 hww HBD
          go_loopw [6] (fun i wr => ∃ k : Nat, k ≤ cs.length ∧ i = .int .i64 (k : Int) ∧ Below W0.heap.size W0 wr)
            (fun i _ => cs.length - (intOf i).toNat)
          case atStart => exact ⟨0, Nat.zero_le _, rfl, by first | exact HBR.out | exact hbr⟩
          case round =>
            clear hlt hk HBR hbr
            obtain ⟨k, hk, rfl, hbr⟩ := hrel
            have g0 := (hbr.block _ HS0.out).trans HQ0.out
            have z0 : wr.cell? ⟨w.heap.size, 0, none⟩ = some (.int .i64 ep) := by rw [cell_of_row _ _ 0 _ _ _ g0]; rfl
            have z1 : wr.cell? ⟨w.heap.size, 1, none⟩ = some (.int .i64 lw) := by rw [cell_of_row _ _ 1 _ _ _ g0]; rfl
            have z2 : wr.cell? ⟨w.heap.size, 2, none⟩ = some (.slice ao cs.length cap) := by rw [cell_of_row _ _ 2 _ _ _ g0]; rfl
            have hww : Below w.heap.size w wr := HB0.out.trans (hbr.mono (by have := HS0.out; omega))
            have HBR := Lib.hid hbr
            have HWW := Lib.hid hww
            have HBD : Hid (∀ n, Below W0.heap.size W0 (wr.drewN n)) := Lib.hid fun n => ⟨hbr.os, hbr.tape, hbr.output, hbr.size, hbr.block⟩
            have HL1 : cs.length ≤ 1048576 := HL.out
            clear g0 hbr
            by_cases hlt : k < cs.length
            · obtain ⟨f, hf⟩ : ∃ f, cs[k]? = some f := ⟨_, List.getElem?_eq_getElem hlt⟩
              have hok := HK.out.at' f (by rw [← HC.out]; exact List.mem_of_getElem? hf)
              obtain ⟨b, off, hao, hb, _, d0, d1, d2⟩ := H.out.at' (by rw [← HC.out]; exact hf)
              replace d0 := (hww.cell (p := ⟨b, off + k * 3, none⟩) hb).trans d0
              replace d1 := (hww.cell (p := ⟨b, off + k * 3 + 1, none⟩) hb).trans d1
              replace d2 := (hww.cell (p := ⟨b, off + k * 3 + 2, none⟩) hb).trans d2
              subst hao
              have hlti : (k : Int) < cs.length := by omega
              have HKK := Lib.hid hlt
              have k0 : ¬ f.2.1 = 0 := by rcases hok.2.2.1 with h9 | h9 <;> rw [h9] <;> decide
              have k3 : ¬ f.2.1 = 3 := by rcases hok.2.2.1 with h9 | h9 <;> rw [h9] <;> decide
              generalize f.2.1 = fk at *
              have p0 : (fk == 0) = false := beq_eq_false_iff_ne.2 k0
              have p3 : (fk == 3) = false := beq_eq_false_iff_ne.2 k3
              clear hf hww d0 d2 hok k0 k3
              go_wp2
              go_roundw
              case rel => exact ⟨k + 1, HKK.out, rfl, HBR.out⟩
              case measure => have := HKK.out; simp [intOf]; omega
            · go_wp2
              have hbr := HBR.out
              clear z0 z1 z2 hww HBD
              go_loopw [8] (fun i wr => ∃ k : Nat, i = .int .i64 ((k : Int) + 1) ∧ Below W0.heap.size W0 wr)
                (fun i _ => cs.length - (intOf i).toNat)
              case atStart => exact ⟨0, rfl, by first | exact HBR.out | exact hbr⟩
              case round =>
                clear hlt hk HBR hbr
                obtain ⟨k, rfl, hbr⟩ := hrel
                have g0 := (hbr.block _ HS0.out).trans HQ0.out
                have z0 : wr.cell? ⟨w.heap.size, 0, none⟩ = some (.int .i64 ep) := by rw [cell_of_row _ _ 0 _ _ _ g0]; rfl
                have z1 : wr.cell? ⟨w.heap.size, 1, none⟩ = some (.int .i64 lw) := by rw [cell_of_row _ _ 1 _ _ _ g0]; rfl
                have z2 : wr.cell? ⟨w.heap.size, 2, none⟩ = some (.slice ao cs.length cap) := by rw [cell_of_row _ _ 2 _ _ _ g0]; rfl
                have hww : Below w.heap.size w wr := HB0.out.trans (hbr.mono (by have := HS0.out; omega))
                have HBR := Lib.hid hbr
                have HWW := Lib.hid hww
                have HBD : Hid (∀ n, Below W0.heap.size W0 (wr.drewN n)) := Lib.hid fun n => ⟨hbr.os, hbr.tape, hbr.output, hbr.size, hbr.block⟩
                have HL1 : cs.length ≤ 1048576 := HL.out
                clear g0 hbr
                by_cases hlt2 : k + 1 < cs.length
                · have hlt : k < cs.length := by omega
                  obtain ⟨f, hf⟩ : ∃ f, cs[k]? = some f := ⟨_, List.getElem?_eq_getElem hlt⟩
                  have hok := HK.out.at' f (by rw [← HC.out]; exact List.mem_of_getElem? hf)
                  obtain ⟨b, off, hao, hb, _, d0, d1, d2⟩ := H.out.at' (by rw [← HC.out]; exact hf)
                  replace d0 := (hww.cell (p := ⟨b, off + k * 3, none⟩) hb).trans d0
                  replace d1 := (hww.cell (p := ⟨b, off + k * 3 + 1, none⟩) hb).trans d1
                  replace d2 := (hww.cell (p := ⟨b, off + k * 3 + 2, none⟩) hb).trans d2
                  subst hao
                  have hlti : (k : Int) < cs.length := by omega
                  have HKK := Lib.hid hlt
                  obtain ⟨f', hf'⟩ : ∃ f', cs[k + 1]? = some f' := ⟨_, List.getElem?_eq_getElem hlt2⟩
                  obtain ⟨b', off', hao', hb', _, d0', _, _⟩ := H.out.at' (by rw [← HC.out]; exact hf')
                  cases hao'
                  replace d0' := (hww.cell (p := ⟨b, off + (k + 1) * 3, none⟩) hb).trans d0'
                  have hri : f.1 < f'.1 := by
                    have hp := HK.out.rise
                    rw [← HC.out] at hp
                    unfold IRise at hp
                    rw [List.pairwise_iff_getElem] at hp
                    obtain ⟨h7, e7⟩ := List.getElem?_eq_some_iff.1 hf
                    obtain ⟨h8, e8⟩ := List.getElem?_eq_some_iff.1 hf'
                    have := hp k (k + 1) h7 h8 (by omega)
                    rw [e7, e8] at this
                    exact this
                  have hri' : ¬ f'.1 ≤ f.1 := by omega
                  have hlti2 : (k : Int) + 1 < cs.length := by omega
                  have HK2 := Lib.hid hlt2
                  generalize f.1 = f1 at *
                  generalize f'.1 = f2 at *
                  clear hf hf' hww d1 d2 hok hri hb'
                  go_wp2_with fail
                  go_quiet (fail)
                  go_wp2
                  go_roundw
                  case rel => exact ⟨k + 1, rfl, HBD.out _⟩
                  case measure => have := HK2.out; simp [intOf]; omega
                · have hlt3 : ¬ (k : Int) + 1 < cs.length := by omega
                  go_wp2
                  go_ret
                  exact ⟨rfl, HWW.out⟩
end
end Go.Proofs.YtiaijpknnomlnaaGreat

namespace Go.Proofs.YtiaijpknnomlnaaGreat
open Go.RowKit

/-- A slice of entries, in blocks of which B holds. -/
def EntAt (w : World) (B : Nat → Prop) (v : Value) (l : Im IC) : Prop :=
  ∃ rows : List (List Value), RecAt w B 3 v rows ∧ rows.length = l.length ∧ ∀ (i : Nat) (f : Int × IC), l[i]? = some f → ∃ dv, rows[i]? = some (eRow f dv) ∧ At w B .u8 dv f.2.2
section
variable {w w' : World} {B : Nat → Prop} {v : Value} {l : Im IC} {base : Nat}
theorem EntO.at' (h : EntO w base v l) : EntAt w (fun j => base ≤ j) v l := by
  obtain ⟨rows, h1, h2, h3⟩ := h
  exact ⟨rows, h1.at'.mono fun _ _ hj => hj.2, h2, fun i f hf => by
    obtain ⟨dv, h4, h5⟩ := h3 i f hf
    exact ⟨dv, h4, h5.mono fun _ _ hj => hj.1⟩⟩
theorem EntAt.keep (h : EntAt w B v l) (hk : Kept B w w') : EntAt w' B v l := by
  obtain ⟨rows, h1, h2, h3⟩ := h
  exact ⟨rows, h1.keep hk, h2, fun i f hf => by
    obtain ⟨dv, h4, h5⟩ := h3 i f hf
    exact ⟨dv, h4, h5.keep hk⟩⟩
theorem EntAt.mono (h : EntAt w B v l) {C : Nat → Prop} (hc : ∀ j, j < w.heap.size → B j → C j) : EntAt w C v l := by
  obtain ⟨rows, h1, h2, h3⟩ := h
  exact ⟨rows, h1.mono hc, h2, fun i f hf => by
    obtain ⟨dv, h4, h5⟩ := h3 i f hf
    exact ⟨dv, h4, h5.mono hc⟩⟩
theorem EntAt.val (h : EntAt w B v l) : ∃ ao cap, v = .slice ao l.length cap ∧ l.length ≤ cap ∧ cap ≤ maxLen ∧ (ao = none → cap = 0) := by
  obtain ⟨rows, h1, h2, _⟩ := h
  obtain ⟨ao, cap, hv, h3, h4, h5⟩ := RecAt.val h1
  rw [h2] at hv h3
  exact ⟨ao, cap, hv, h3, h4, h5⟩
theorem EntAt.at {ao : Option Addr} {n cap : Nat} (h : EntAt w B (.slice ao n cap) l) {i : Nat} {f : Int × IC} (hi : l[i]? = some f) :
    ∃ b off dv, ao = some ⟨b, off, none⟩ ∧ b < w.heap.size ∧ B b ∧ w.cell? ⟨b, off + i * 3, none⟩ = some (.int .i64 f.1) ∧ w.cell? ⟨b, off + i * 3 + 1, none⟩ = some (.int .i64 f.2.1) ∧ w.cell? ⟨b, off + i * 3 + 2, none⟩ = some dv ∧ At w B .u8 dv f.2.2 := by
  obtain ⟨rows, h1, _, h3⟩ := h
  obtain ⟨dv, h4, h5⟩ := h3 i f hi
  obtain ⟨b, off, e, hb, hB, hc⟩ := RecAt.at h1 h4
  exact ⟨b, off, dv, e, hb, hB, hc 0 _ rfl, hc 1 _ rfl, hc 2 _ rfl, h5⟩
end
theorem DocO.at' {w : World} {base : Nat} {v : Value} {U : US} (h : DocO w base v U.cells) : DocU w (fun j => base ≤ j) v U := (RecOwn.at' h).mono fun _ _ hj => hj.2
theorem DocO.grown' {w w' : World} {base : Nat} {v : Value} {l : Im IC} (h : DocO w base v l) (hb : Below w.heap.size w w') : DocO w' base v l := RecOwn.keep h fun _ hj => hb.block _ (RecOwn.block h hj).2.1
theorem docO_new (w : World) {base : Nat} (hb : base ≤ w.heap.size) : DocO (w.alloc (.cells #[] 93)) base (.slice (some ⟨w.heap.size, 0, none⟩) 0 0) [] := recOwn_empty w base _ 3 hb

set_option maxHeartbeats 2000000 in
set_option maxRecDepth 100000 in
theorem lentries_any {w : World} {B : Nat → Prop} {v : Value} {l : Im IC} (h : EntAt w B v l) (hl : l.length ≤ 1048576) :
    Calls Tryz.prog 42 #[v] w fun e w' => ∃ v', e = .returned v' ∧ DocO w' w.heap.size v' l ∧ Below w.heap.size w w' := by
  obtain ⟨ao, cap, rfl, h1, h2, h3⟩ := h.val
  have HR := Lib.hid (h.mono (C := fun j => j < w.heap.size) fun j hj _ => hj)
  have HE := Lib.hid (docO_new w (Nat.le_refl _))
  have HL := Lib.hid hl
  have HLN : Hid (l.length ≤ 9223372036854775807) := Lib.hid (by omega)
  clear h hl
  go_enter Tryz.func42, Tryz.ntmps42
  go_wp2
  go_loopw [3, 5, 9] (fun rv _ i wr => ∃ k : Nat, k ≤ l.length ∧ i = .int .i64 (k : Int) ∧ DocO wr w.heap.size rv (l.take k) ∧ Below w.heap.size w wr)
    (fun _ _ i _ => l.length - (intOf i).toNat)
  case atStart => exact ⟨0, Nat.zero_le _, rfl, HE.out, (Below.refl _ _).alloc (Nat.le_refl _) _⟩
  case round =>
    clear HE
    obtain ⟨k, hk, rfl, hown, hb⟩ := hrel
    have HB := Lib.hid hb
    have HOW := Lib.hid hown
    clear hb hown
    by_cases hlt : k < l.length
    · obtain ⟨f, hf⟩ : ∃ f, l[k]? = some f := ⟨_, List.getElem?_eq_getElem hlt⟩
      obtain ⟨b, off, x, rfl, hbb, _, c0, c1, c2, hat⟩ := HR.out.at hf
      have d0 := (HB.out.cell (p := ⟨b, off + k * 3, none⟩) hbb).trans c0
      have d1 := (HB.out.cell (p := ⟨b, off + k * 3 + 1, none⟩) hbb).trans c1
      have d2 := (HB.out.cell (p := ⟨b, off + k * 3 + 2, none⟩) hbb).trans c2
      have HTK := Lib.hid (take_snocU hf)
      obtain ⟨a, kk, d⟩ := f
      simp only at d0 d1 d2 hat
      obtain ⟨aot, capt, rfl, _, _, _⟩ := hat.reads.val
      have HAT := Lib.hid (hat.keep (kept_below HB.out))
      clear hf hat c0 c1 c2
      have hlti : (k : Int) < l.length := by omega
      have hmk : (l.take k).length = k := by rw [List.length_take]; omega
      have HMK := Lib.hid hmk
      obtain ⟨aor, capr, hv⟩ := HOW.out.val
      rw [hmk] at hv
      subst hv
      obtain ⟨W1, hW1⟩ : ∃ W1, W1 = wr.alloc (.cells #[.int .i64 a, .int .i64 kk, .slice aot d.length capt] 101) := ⟨_, rfl⟩
      have hb1 : Below wr.heap.size wr W1 := by rw [hW1]; exact (Below.refl _ _).alloc (Nat.le_refl _) _
      have hx1 : W1.heap[wr.heap.size]? = some (.cells #[.int .i64 a, .int .i64 kk, .slice aot d.length capt] 101 (0, 0)) := by rw [hW1]; exact heap_alloc_new _ _
      have HO1 := Lib.hid (HOW.out.grown' hb1)
      have HB1 := Lib.hid (HB.out.trans (hb1.mono HB.out.size))
      have HAT1 := Lib.hid (HAT.out.old hb1)
      have HX1 : Hid (∀ wx, Below W1.heap.size W1 wx → wx.cell? ⟨wr.heap.size, 0, none⟩ = some (.int .i64 a) ∧ wx.cell? ⟨wr.heap.size, 1, none⟩ = some (.int .i64 kk) ∧ wx.cell? ⟨wr.heap.size, 2, none⟩ = some (.slice aot d.length capt)) := Lib.hid fun wx hb => by
        have h1 := (hb.block _ (Array.getElem?_eq_some_iff.1 hx1).1).trans hx1
        exact ⟨by rw [cell_of_row _ _ 0 _ _ _ h1]; rfl, by rw [cell_of_row _ _ 1 _ _ _ h1]; rfl, by rw [cell_of_row _ _ 2 _ _ _ h1]; rfl⟩
      have HWL : Hid (wr.heap.size < W1.heap.size) := Lib.hid (Array.getElem?_eq_some_iff.1 hx1).1
      have HNE : Hid ¬ (w.heap.size ≤ wr.heap.size ∧ wr.heap.size < W1.heap.size ∧ ∃ cs, W1.heap[wr.heap.size]? = some (.cells cs 93 (0, 0))) := Lib.hid fun h => by
        obtain ⟨_, _, cs, h⟩ := h
        rw [hx1] at h
        cases h
      have HBS : Hid (w.heap.size ≤ W1.heap.size) := Lib.hid HB1.out.size
      have HLK : Hid ((l.take k).length ≤ 1048576) := Lib.hid (by rw [hmk]; have := HL.out; omega)
      have HK := Lib.hid hlt
      have HW1 := Lib.hid hW1
      obtain ⟨e0, e1, e2⟩ := HX1.out W1 (Below.refl _ _)
      have HD : Hid (Below W1.heap.size W1 W1) := Lib.hid (Below.refl _ _)
      clear hmk hb1 hx1 hW1 HB HOW HAT hlt
      go_wp2_with fail
      rw [← HW1.out]
      go_region_held_law (fun w' => w'.cell? ⟨wr.heap.size, 0, none⟩ = some (.int .i64 a) ∧ w'.cell? ⟨wr.heap.size, 1, none⟩ = some (.int .i64 kk) ∧ w'.cell? ⟨wr.heap.size, 2, none⟩ = some (.slice aot d.length capt)) (go_keep) (first
        | (go_at_call 87; refine (document_any kk _ d _ (by first | exact HAT1.out.reads | exact HAT1.out.reads.drewN 1)).mono ?_; rintro e wx ⟨rfl, hbx⟩
           have HD : Hid (Below W1.heap.size W1 wx) := Lib.hid (by first | exact hbx | exact ⟨hbx.os, hbx.tape, hbx.output, hbx.size, hbx.block⟩)
           obtain ⟨e0, e1, e2⟩ := HX1.out wx HD.out
           have HOX := Lib.hid (HO1.out.grown' HD.out)
           clear hbx)
        | (refine step_appRec (by rfl) _ _ _ (by rfl) w.heap.size 93 _ 3 32 Tryz.underlying39 Tryz.infoDoc rfl (by decide) _ ((l.take k).map dRow) (by rfl) (by first | exact HOX.out.alloc _ | exact HOX.out.drew.alloc _ | exact HOX.out) (dRow (a, kk, d)) rfl (by simp [dRow, Value.oneCell']) ⟨wx.heap.size, 0, none⟩ (by rfl) (by first | exact rec_cell wx (dRow (a, kk, d)) _ | exact rec_cell wx.drew (dRow (a, kk, d)) _) (by have := HLK.out; rw [List.length_map]; simp only [maxLen]; omega) (by have := HLK.out; rw [List.length_map]; omega) (by have := HBS.out; have := HD.out.size; simp; omega) ?_
           intro g cap w2 ho2 hg2 hloc2
           have hb2 : Below W1.heap.size W1 wx := HD.out
           have hnw : ∀ j, (Value.slice aor k capr).ownBlock = some j → w.heap.size ≤ j := fun j hj => (RecOwn.block HOX.out hj).1
           have hdd : Below w.heap.size w w2 := (by
             first
               | exact ((HB1.out.trans (hb2.mono HBS.out)).alloc (Nat.le_trans HBS.out hb2.size) _).grown hg2 (Nat.le_trans (Nat.le_trans HBS.out hb2.size) (by simp)) fun j hj => hnw j hj
               | exact ((HB1.out.trans (hb2.mono HBS.out)).drew.alloc (Nat.le_trans HBS.out hb2.size) _).grown hg2 (Nat.le_trans (Nat.le_trans HBS.out hb2.size) (by simp)) fun j hj => hnw j hj)
           have hne : (Value.slice aor k capr).ownBlock ≠ some wr.heap.size := fun e => HNE.out (RecOwn.block HO1.out e)
           have hxb : w2.heap[wr.heap.size]? = wx.heap[wr.heap.size]? := (hg2.block _ (by have := hb2.size; have := HWL.out; simp; omega) (fun e => hne e.symm)).trans (Below.heap_alloc _ _ _ (by have := hb2.size; have := HWL.out; first | omega | (simp; omega)))
           have e0 : w2.cell? ⟨wr.heap.size, 0, none⟩ = some (.int .i64 a) := (World.cell?_of_block hxb).trans e0
           have e1 : w2.cell? ⟨wr.heap.size, 1, none⟩ = some (.int .i64 kk) := (World.cell?_of_block hxb).trans e1
           have e2 : w2.cell? ⟨wr.heap.size, 2, none⟩ = some (.slice aot d.length capt) := (World.cell?_of_block hxb).trans e2
           have HO2 := Lib.hid ho2
           have HG2 := Lib.hid hdd
           clear ho2 hg2 hloc2 hb2 hnw hdd hne hxb))
      all_goals
        have hk1 : (List.map dRow (l.take k)).length = k := by rw [List.length_map, HMK.out]
        have HO3 : Hid (DocO w2 w.heap.size (.slice (some ⟨g, 0, none⟩) (k + 1) cap) (l.take (k + 1))) := Lib.hid (by
          have h9 := HO2.out
          rw [hk1] at h9
          rw [HTK.out]
          unfold DocO
          rw [List.map_append]
          exact h9)
        rw [hk1]
        clear hk1
        go_wp2
        go_roundw
        case rel => exact ⟨k + 1, HK.out, uinc_eq HK.out HLN.out, HO3.out, HG2.out⟩
        case measure => exact uinc_meas HK.out HLN.out
    · obtain rfl : k = l.length := by omega
      rw [List.take_length] at HOW
      go_wp2
      go_ret
      exact ⟨_, rfl, HOW.out, HB.out⟩

end Go.Proofs.YtiaijpknnomlnaaGreat

namespace Go.Proofs.YtiaijpknnomlnaaGreat
open Go.RowKit

/-- Are two units the same? -/
def sameUS (U M : US) : Bool := decide (U.epoch = M.epoch) && (decide (U.low = M.low) && decide (U.cells = M.cells))
theorem sameUS_self (U : US) : sameUS U U = true := by simp [sameUS]
theorem sameUS_eq {U M : US} (h : sameUS U M = true) : U = M := by
  obtain ⟨e, l, c⟩ := U
  obtain ⟨e', l', c'⟩ := M
  simp [sameUS] at h
  obtain ⟨rfl, rfl, rfl⟩ := h
  rfl
/-- All bytes are bytes. -/
def U256 (U : US) : Prop := ∀ f ∈ U.cells, ∀ y ∈ f.2.2, y < 256
theorem UOk.bytes {U : US} (h : UOk U) : U256 U := fun f hf => (h.at' f hf).2.2.2.2
theorem ent_beq {f g : Int × IC} (hf : ∀ y ∈ f.2.2, y < 256) (hg : ∀ y ∈ g.2.2, y < 256) : (!(f.1 == g.1 && (f.2.1 == g.2.1 && (S8 f.2.2).toList == (S8 g.2.2).toList))) = !decide (f = g) := by
  obtain ⟨a, k, d⟩ := f
  obtain ⟨a', k', d'⟩ := g
  have h := str_beq hf hg
  simp only at h ⊢
  unfold S8
  rw [h]
  congr 1
  rw [Bool.eq_iff_iff]
  simp

section
variable {w : World} {B B2 : Nat → Prop} {U M : US} {lv lv2 : Value}
set_option maxHeartbeats 2000000 in
set_option maxRecDepth 100000 in
/-- Two units of the document's compared. -/
theorem rsameG_any (h : DocU w B lv U) (h' : DocU w B2 lv2 M) (hu : U256 U) (hm : U256 M) (hl : U.cells.length ≤ 1048576) (_ : M.cells.length ≤ 1048576) :
    Calls Tryz.prog 14 #[docU U lv, docU M lv2] w fun r w' => r = .returned (.bool (sameUS U M)) ∧ Below w.heap.size w w' := by
  obtain ⟨ao, cap, rfl⟩ := h.val
  obtain ⟨ao2, cap2, rfl⟩ := h'.val
  have H := Lib.hid h
  have H' := Lib.hid h'
  have HL := Lib.hid hl
  have HU := Lib.hid hu
  have HM := Lib.hid hm
  obtain ⟨cs, hcs⟩ : ∃ c, c = U.cells := ⟨_, rfl⟩
  obtain ⟨ds, hds⟩ : ∃ c, c = M.cells := ⟨_, rfl⟩
  have HC := Lib.hid hcs
  have HDD := Lib.hid hds
  obtain ⟨bb, hbb⟩ : ∃ b, b = sameUS U M := ⟨_, rfl⟩
  rw [← hbb]
  have HBB : Hid (bb = (decide (U.epoch = M.epoch) && (decide (U.low = M.low) && decide (cs = ds)))) := Lib.hid (by rw [hbb, hcs, hds]; rfl)
  unfold docU
  rw [← hcs] at HL ⊢
  rw [← hds]
  clear h h' hl hcs hds hu hm hbb
  obtain ⟨ep, hep⟩ : ∃ z, z = U.epoch := ⟨_, rfl⟩
  obtain ⟨lw, hlw⟩ : ∃ z, z = U.low := ⟨_, rfl⟩
  obtain ⟨ep2, hep2⟩ : ∃ z, z = M.epoch := ⟨_, rfl⟩
  obtain ⟨lw2, hlw2⟩ : ∃ z, z = M.low := ⟨_, rfl⟩
  rw [← hep, ← hep2, ← hlw, ← hlw2] at HBB ⊢
  clear hep hep2 hlw hlw2
  by_cases h1 : ep = ep2
  rotate_left
  · obtain rfl : bb = false := by rw [HBB.out, decide_eq_false h1, Bool.false_and]
    go_enter Tryz.func14, Tryz.ntmps14
    go_wp2
    go_ret
    exact ⟨rfl, ((Below.refl _ _).alloc (Nat.le_refl _) _).alloc (by simp) _⟩
  subst h1
  by_cases h2 : lw = lw2
  rotate_left
  · obtain rfl : bb = false := by rw [HBB.out, decide_eq_false h2, Bool.false_and, Bool.and_false]
    go_enter Tryz.func14, Tryz.ntmps14
    go_wp2
    go_ret
    exact ⟨rfl, ((Below.refl _ _).alloc (Nat.le_refl _) _).alloc (by simp) _⟩
  subst h2
  obtain ⟨n, hn⟩ : ∃ n, n = cs.length := ⟨_, rfl⟩
  obtain ⟨n2, hn2⟩ : ∃ n, n = ds.length := ⟨_, rfl⟩
  rw [← hn] at HL ⊢
  rw [← hn2]
  have HNC := Lib.hid hn
  have HND := Lib.hid hn2
  clear hn hn2
  by_cases h3 : n = n2
  rotate_left
  · obtain rfl : bb = false := by
      rw [HBB.out, decide_eq_false (p := cs = ds) (fun e => h3 (by rw [HNC.out, HND.out, e])), Bool.and_false, Bool.and_false]
    have h3i : ¬ (n : Int) = (n2 : Int) := by omega
    clear h3
    go_enter Tryz.func14, Tryz.ntmps14
    go_wp2
    go_ret
    exact ⟨rfl, ((Below.refl _ _).alloc (Nat.le_refl _) _).alloc (by simp) _⟩
  subst h3
  have HBC : Hid (bb = decide (cs = ds)) := Lib.hid (by rw [HBB.out]; simp)
  clear HBB
  go_enter Tryz.func14, Tryz.ntmps14
  go_wp2
  obtain ⟨W0, hW0⟩ : ∃ W, W = (w.alloc (.cells #[.int .i64 ep, .int .i64 lw, .slice ao n cap] 41)).alloc (.cells #[.int .i64 ep, .int .i64 lw, .slice ao2 n cap2] 41) := ⟨_, rfl⟩
  rw [← hW0]
  have hs0 : w.heap.size + 1 < W0.heap.size := by rw [hW0]; simp
  have hb0 : Below w.heap.size w W0 := by rw [hW0]; exact ((Below.refl _ _).alloc (Nat.le_refl _) _).alloc (by simp) _
  have q0 : W0.heap[w.heap.size]? = some (.cells #[.int .i64 ep, .int .i64 lw, .slice ao n cap] 41 (0, 0)) := by
    rw [hW0, Below.heap_alloc _ _ _ (by simp)]; exact heap_alloc_new _ _
  have q1 : W0.heap[w.heap.size + 1]? = some (.cells #[.int .i64 ep, .int .i64 lw, .slice ao2 n cap2] 41 (0, 0)) := by
    rw [hW0]; exact allocU_at _ (by simp)
  have HS0 := Lib.hid hs0
  have HB0 := Lib.hid hb0
  have HQ0 := Lib.hid q0
  have HQ1 := Lib.hid q1
  clear hW0 hs0 hb0 q0 q1
  go_loopw [5] (fun i wr => ∃ k : Nat, k ≤ n ∧ i = .int .i64 (k : Int) ∧ cs.take k = ds.take k ∧ Below W0.heap.size W0 wr)
    (fun i _ => n - (intOf i).toNat)
  case atStart => exact ⟨0, Nat.zero_le _, rfl, rfl, Below.refl _ _⟩
  case round =>
    obtain ⟨k, hk, rfl, htk, hbr⟩ := hrel
    have hs0 := HS0.out
    have g0 := (hbr.block _ (by omega)).trans HQ0.out
    have g1 := (hbr.block _ hs0).trans HQ1.out
    have z2 : wr.cell? ⟨w.heap.size, 2, none⟩ = some (.slice ao n cap) := by rw [cell_of_row _ _ 2 _ _ _ g0]; rfl
    have y2 : wr.cell? ⟨w.heap.size + 1, 2, none⟩ = some (.slice ao2 n cap2) := by rw [cell_of_row _ _ 2 _ _ _ g1]; rfl
    have hww : Below w.heap.size w wr := HB0.out.trans (hbr.mono (by omega))
    have HBR := Lib.hid hbr
    have HWW := Lib.hid hww
    have HTK := Lib.hid htk
    have HBD : Hid (∀ n, Below W0.heap.size W0 (wr.drewN n)) := Lib.hid fun n => ⟨hbr.os, hbr.tape, hbr.output, hbr.size, hbr.block⟩
    have HWD : Hid (∀ n, Below w.heap.size w (wr.drewN n)) := Lib.hid fun n => ⟨hww.os, hww.tape, hww.output, hww.size, hww.block⟩
    clear g0 g1 hbr hs0 htk
    by_cases hlt : k < n
    · obtain ⟨f, hf⟩ : ∃ f, cs[k]? = some f := ⟨_, List.getElem?_eq_getElem (by rw [← HNC.out]; exact hlt)⟩
      obtain ⟨g, hg⟩ : ∃ g, ds[k]? = some g := ⟨_, List.getElem?_eq_getElem (by rw [← HND.out]; exact hlt)⟩
      have hff : U.cells[k]? = some f := by rw [← HC.out]; exact hf
      have hgg : M.cells[k]? = some g := by rw [← HDD.out]; exact hg
      obtain ⟨b, off, rfl, hb, _, d0, d1, d2⟩ := H.out.at' hff
      obtain ⟨b', off', rfl, hb', _, d0', d1', d2'⟩ := H'.out.at' hgg
      have heq := ent_beq (HU.out f (List.mem_of_getElem? hff)) (HM.out g (List.mem_of_getElem? hgg))
      replace d0 := (hww.cell (p := ⟨b, off + k * 3, none⟩) hb).trans d0
      replace d1 := (hww.cell (p := ⟨b, off + k * 3 + 1, none⟩) hb).trans d1
      replace d2 := (hww.cell (p := ⟨b, off + k * 3 + 2, none⟩) hb).trans d2
      replace d0' := (hww.cell (p := ⟨b', off' + k * 3, none⟩) hb').trans d0'
      replace d1' := (hww.cell (p := ⟨b', off' + k * 3 + 1, none⟩) hb').trans d1'
      replace d2' := (hww.cell (p := ⟨b', off' + k * 3 + 2, none⟩) hb').trans d2'
      have hne := fun W => neq_ents f.1 g.1 f.2.1 g.2.1 (S8 f.2.2) (S8 g.2.2) W
      simp only [heq] at hne
      have HF := Lib.hid hf
      have HG := Lib.hid hg
      generalize f.1 = f1 at *
      generalize f.2.1 = fk at *
      generalize S8 f.2.2 = fs at *
      generalize g.1 = g1 at *
      generalize g.2.1 = gk at *
      generalize S8 g.2.2 = gs at *
      have hlti : (k : Int) < n := by omega
      have HKK := Lib.hid hlt
      have HL1 : n ≤ 1048576 := HL.out
      clear hf hg hff hgg hww heq
      by_cases hfg : f = g
      · subst hfg
        simp only [decide_true, Bool.not_true] at hne
        go_wp2_with fail
        go_quiet (fail)
        go_wp2
        go_roundw
        case rel => exact ⟨k + 1, HKK.out, rfl, by rw [take_snocU HF.out, take_snocU HG.out, HTK.out], HBD.out _⟩
        case measure => have := HKK.out; simp [intOf]; omega
      · obtain rfl : bb = false := by
          rw [HBC.out, decide_eq_false_iff_not]
          intro e
          have h1 := HF.out
          rw [e, HG.out] at h1
          exact hfg (Option.some.inj h1).symm
        simp only [decide_eq_false hfg, Bool.not_false] at hne
        clear hfg
        go_wp2_with fail
        go_quiet (fail)
        go_wp2
        go_ret
        exact ⟨rfl, HWD.out _⟩
    · obtain rfl : bb = true := by
        rw [HBC.out, decide_eq_true_iff]
        have h1 := HTK.out
        obtain rfl : k = n := by omega
        rw [List.take_of_length_le (by rw [← HNC.out]; omega), List.take_of_length_le (by rw [← HND.out]; omega)] at h1
        exact h1
      go_wp2
      go_ret
      exact ⟨rfl, HWW.out⟩

variable {u m : Nat}
set_option maxHeartbeats 1000000 in
set_option maxRecDepth 100000 in
/-- A unit of the program, as the document's. -/
theorem documentU_any (h : Un w B u m U) : Calls Tryz.prog 15 #[.pointer (some ⟨u, 0, none⟩)] w fun r w' => ∃ lv, r = .returned (docU U lv) ∧ DocU w' (fun j => w.heap.size ≤ j) lv U ∧ Below w.heap.size w w' := by
  obtain ⟨W1, hW1⟩ : ∃ W1, W1 = w.alloc (.cells #[.int .i64 0, .int .i64 0, .slice none 0 0] 41) := ⟨_, rfl⟩
  have hb1 : Below w.heap.size w W1 := by rw [hW1]; exact (Below.refl _ _).alloc (Nat.le_refl _) _
  have hx1 : W1.heap[w.heap.size]? = some (.cells #[.int .i64 0, .int .i64 0, .slice none 0 0] 41 (0, 0)) := by rw [hW1]; exact heap_alloc_new _ _
  have h1 := h.old hb1
  have HE := Lib.hid (uepoch_any h1)
  have HLO := Lib.hid (ulow_any h1)
  have HEN := Lib.hid (uentries_any h1)
  have HLE : Hid (U.cells.length ≤ 1048576) := Lib.hid h.ok.len
  have HB1 := Lib.hid hb1
  have HX1 := Lib.hid hx1
  have HW1 := Lib.hid hW1
  clear h h1 hb1 hx1 hW1
  go_enter Tryz.func15, Tryz.ntmps15
  go_wp2_with fail
  rw [← HW1.out]
  refine HE.out.mono ?_
  rintro r w2 ⟨rfl, rfl⟩
  go_wp2_with fail
  refine HLO.out.mono ?_
  rintro r w2 ⟨rfl, rfl⟩
  go_wp2_with fail
  refine HEN.out.mono ?_
  rintro r w3 ⟨v3, rfl, he3, hb3⟩
  have HC := Lib.hid (lentries_any he3.at' HLE.out)
  obtain ⟨ao3, cap3, rfl⟩ := he3.val
  have HB3 := Lib.hid hb3
  clear he3 hb3
  go_wp2_with fail
  refine HC.out.mono ?_
  rintro r w4 ⟨v4, rfl, ho4, hb4⟩
  have hx4 := (hb4.block _ (Nat.lt_of_lt_of_le (Array.getElem?_eq_some_iff.1 HX1.out).1 HB3.out.size)).trans ((HB3.out.block _ (Array.getElem?_eq_some_iff.1 HX1.out).1).trans HX1.out)
  have c0 : w4.cell? ⟨w.heap.size, 0, none⟩ = some (.int .i64 0) := by rw [cell_of_row _ _ 0 _ _ _ hx4]; rfl
  have c1 : w4.cell? ⟨w.heap.size, 1, none⟩ = some (.int .i64 0) := by rw [cell_of_row _ _ 1 _ _ _ hx4]; rfl
  have c2 : w4.cell? ⟨w.heap.size, 2, none⟩ = some (.slice none 0 0) := by rw [cell_of_row _ _ 2 _ _ _ hx4]; rfl
  have f0 : ∀ i, w4.frozen? ⟨w.heap.size, i, none⟩ = false := fun i => frozen_of_row _ _ i _ _ hx4
  obtain ⟨ao4, cap4, rfl⟩ := ho4.val
  have hb14 : Below w2.heap.size w2 w4 := HB3.out.trans (hb4.mono HB3.out.size)
  have hlt : w.heap.size < w3.heap.size := Nat.lt_of_lt_of_le (Array.getElem?_eq_some_iff.1 HX1.out).1 HB3.out.size
  have HF : Hid (∀ a b c, DocU (tri w4 w.heap.size a b c) (fun j => w.heap.size ≤ j) (.slice ao4 U.cells.length cap4) U ∧ Below w.heap.size w (tri w4 w.heap.size a b c)) := Lib.hid fun a b c => by
    have hf := fr_tri w4 w.heap.size a b c
    refine ⟨((DocO.at' ho4).keep (hf.kept _ fun j _ hj e => by omega)).mono fun j _ hj => by omega, (HB1.out.trans (hb14.mono HB1.out.size)).trans (hf.below (Nat.le_trans HB1.out.size hb14.size) fun j hj e => by omega)⟩
  have hx5 := tri_blk hx4 (.int .i64 U.epoch) (.int .i64 U.low) (.slice ao4 U.cells.length cap4)
  have y0 : (tri w4 w.heap.size (.int .i64 U.epoch) (.int .i64 U.low) (.slice ao4 U.cells.length cap4)).cell? ⟨w.heap.size, 0, none⟩ = some (.int .i64 U.epoch) := by rw [cell_of_row _ _ 0 _ _ _ hx5]; rfl
  have y1 : (tri w4 w.heap.size (.int .i64 U.epoch) (.int .i64 U.low) (.slice ao4 U.cells.length cap4)).cell? ⟨w.heap.size, 1, none⟩ = some (.int .i64 U.low) := by rw [cell_of_row _ _ 1 _ _ _ hx5]; rfl
  have y2 : (tri w4 w.heap.size (.int .i64 U.epoch) (.int .i64 U.low) (.slice ao4 U.cells.length cap4)).cell? ⟨w.heap.size, 2, none⟩ = some (.slice ao4 U.cells.length cap4) := by rw [cell_of_row _ _ 2 _ _ _ hx5]; rfl
  clear hx4 ho4 hb4 hb14 hlt hx5
  unfold tri at HF y0 y1 y2
  have Y0 := Lib.hid y0
  have Y1 := Lib.hid y1
  have Y2 := Lib.hid y2
  clear y0 y1 y2
  go_wp2
  exact bodyPost_ret (v := docU U (.slice ao4 U.cells.length cap4)) (by simp [docU, results, Tryz.results15, go_sem, Y0.out, Y1.out, Y2.out]) rfl ⟨_, rfl, HF.out _ _ _⟩
end
end Go.Proofs.YtiaijpknnomlnaaGreat

namespace Go.Proofs.YtiaijpknnomlnaaGreat
open Go.RowKit

/-- An act. -/
structure UA where
  kind : Int
  epoch : Int
  addr : Int
  data : List Nat
/-- What an act makes of a unit. -/
def ustep (U : US) (a : UA) : US :=
  if ((IntKind.u64.wrap a.kind).tmod 8 == 0) = true then (useal U a.epoch).2.1
  else if ((IntKind.u64.wrap a.kind).tmod 8 == 1) = true then (uwrite U a.epoch a.addr a.data).1
  else if ((IntKind.u64.wrap a.kind).tmod 8 == 2) = true then (uwrite U a.epoch a.addr a.data).1
  else if ((IntKind.u64.wrap a.kind).tmod 8 == 3) = true then (ufill U a.epoch a.addr).1
  else if ((IntKind.u64.wrap a.kind).tmod 8 == 4) = true then U
  else if ((IntKind.u64.wrap a.kind).tmod 8 == 5) = true then (utrim U a.epoch a.addr).1
  else if ((IntKind.u64.wrap a.kind).tmod 8 == 6) = true then (ucut U a.epoch a.addr).2.1
  else U
theorem ustep_ok {U : US} (h : UOk U) {a : UA} (ha : ∀ y ∈ a.data, y < 256) : UOk (ustep U a) := by
  unfold ustep
  repeat' split
  · exact useal_ok h _
  · exact uwrite_ok h _ _ ha
  · exact uwrite_ok h _ _ ha
  · exact ufill_ok h _ _
  · exact h
  · exact utrim_ok h _ _
  · exact ucut_ok h _ _
  · exact h

theorem rseal_post {w : World} {B : Nat → Prop} {U : US} {lv : Value} (h : DocU w B lv U) (hk : UOk U) (e : Int) : Calls Tryz.prog 57 #[docU U lv, .int .i64 e] w (CPostU B w (useal U e)) :=
  (rsealU_any h hk e).mono fun r w' ⟨hr, hb⟩ => ⟨lv, hr, by
    have hc : (useal U e).2.1.cells = U.cells := by
      unfold useal
      split
      · rfl
      · split <;> rfl
    unfold DocU
    rw [hc]
    exact RecAt.mono (h.grown hb) fun _ _ hj => .inl hj, hb⟩

/-- Two stores into one box. -/
def two (W : World) (p : Nat) (a b : Value) : World := (W.setCell ⟨p, 0, none⟩ a).setCell ⟨p, 1, none⟩ b
theorem fr_two (W : World) (p : Nat) (a b : Value) : Fr (fun j => j = p) W (two W p a b) := (fr_set W p 0 a).trans (fr_set _ p 1 b) (fun _ _ h => h) (fun _ _ h => h)
theorem two_blk {W : World} {p : Nat} {x0 x1 : Value} {T : TypeId} (h : W.heap[p]? = some (.cells #[x0, x1] T (0, 0))) (a b : Value) : (two W p a b).heap[p]? = some (.cells #[a, b] T (0, 0)) :=
  heap_setCell_same _ p 1 _ _ b (heap_setCell_same W p 0 _ _ a h)

/-- Blocks of a call's old things, and of what was made between s + 1 and t. -/
def Kb (n s t : Nat) (B : Nat → Prop) : Nat → Prop := fun j => B j ∧ j < n ∨ s + 1 < j ∧ j < t
section
variable {w W W' : World} {B BD : Nat → Prop} {u m s t : Nat} {U M U' M' : US} {lv lv' : Value} {acts : Array Value} {ov : Value} {own : List Nat} {xk : Int} {xs : ByteArray} {ck : Int} {cd : Value}
theorem three_cells {w : World} {p : Nat} {c0 c1 c2 : Value} {e : TypeId} (h : w.heap[p]? = some (.cells #[c0, c1, c2] e (0, 0))) :
    w.cell? ⟨p, 0, none⟩ = some c0 ∧ w.cell? ⟨p, 1, none⟩ = some c1 ∧ w.cell? ⟨p, 2, none⟩ = some c2 ∧ ∀ i, w.frozen? ⟨p, i, none⟩ = false :=
  ⟨by rw [cell_of_row _ _ 0 _ _ _ h]; rfl, by rw [cell_of_row _ _ 1 _ _ _ h]; rfl, by rw [cell_of_row _ _ 2 _ _ _ h]; rfl, fun i => frozen_of_row _ _ i _ _ h⟩
theorem four_cells {w : World} {p : Nat} {c0 c1 c2 c3 : Value} {e : TypeId} (h : w.heap[p]? = some (.cells #[c0, c1, c2, c3] e (0, 0))) :
    w.cell? ⟨p, 0, none⟩ = some c0 ∧ w.cell? ⟨p, 1, none⟩ = some c1 ∧ w.cell? ⟨p, 2, none⟩ = some c2 ∧ w.cell? ⟨p, 3, none⟩ = some c3 :=
  ⟨by rw [cell_of_row _ _ 0 _ _ _ h]; rfl, by rw [cell_of_row _ _ 1 _ _ _ h]; rfl, by rw [cell_of_row _ _ 2 _ _ _ h]; rfl, by rw [cell_of_row _ _ 3 _ _ _ h]; rfl⟩
theorem two_cells {w : World} {p : Nat} {c0 c1 : Value} {e : TypeId} (h : w.heap[p]? = some (.cells #[c0, c1] e (0, 0))) :
    w.cell? ⟨p, 0, none⟩ = some c0 ∧ w.cell? ⟨p, 1, none⟩ = some c1 ∧ ∀ i, w.frozen? ⟨p, i, none⟩ = false :=
  ⟨by rw [cell_of_row _ _ 0 _ _ _ h]; rfl, by rw [cell_of_row _ _ 1 _ _ _ h]; rfl, fun i => frozen_of_row _ _ i _ _ h⟩
end

/-- What is left at hand when the bytes are turned. -/
structure DoV (w W : World) (B BD : Nat → Prop) (u m s t : Nat) (U M : US) (lv : Value) (ck : Int) (cd : Value) : Prop where
  un : Un W (Kb w.heap.size s t B) u m U
  doc : DocU W (Kb w.heap.size s t BD) lv M
  box : W.heap[w.heap.size]? = some (.cells #[.int .i64 M.epoch, .int .i64 M.low, lv] 41 (0, 0))
  res : ∃ x0 x1 x2, W.heap[w.heap.size + 2]? = some (.cells #[x0, x1, x2] 41 (0, 0))
  cb : W.heap[s + 1]? = some (.cells #[.int .i64 ck, cd] 99 (0, 0))
  ns : w.heap.size + 3 < s
  st : s + 1 < t
  fr : Fr (fun j => j = u ∨ j = m) w W
  ul : u < w.heap.size
  ml : m < w.heap.size
  mok : UOk M
section
variable {w W W' : World} {B BD : Nat → Prop} {u m s t : Nat} {U M U' M' : US} {lv lv' : Value} {acts : Array Value} {ov : Value} {own : List Nat} {xk : Int} {xs : ByteArray} {ck : Int} {cd : Value}
theorem DoV.lt (h : DoV w W B BD u m s t U M lv ck cd) : s + 1 < W.heap.size := (Array.getElem?_eq_some_iff.1 h.cb).1
theorem DoV.turn (h : DoV w W B BD u m s t U M lv ck cd) {S : Nat → Prop} (hf : Fr S W W') (hs : ∀ j, S j → w.heap.size + 2 < j ∧ (j < s ∨ t ≤ j)) : DoV w W' B BD u m s t U M lv ck cd := by
  have hl := h.lt
  have hn := h.ns
  have hul := h.ul
  have hml := h.ml
  have hst := h.st
  obtain ⟨x0, x1, x2, hr⟩ := h.res
  have hk : ∀ j, j < W.heap.size → ¬ (w.heap.size + 2 < j ∧ (j < s ∨ t ≤ j)) → W'.heap[j]? = W.heap[j]? := fun j h1 h2 => hf.block j h1 fun h3 => h2 (hs j h3)
  exact ⟨h.un.keep (hf.kept _ fun j _ hj e => by have := hs j e; rcases hj with hj | hj <;> omega) (hk _ (by omega) (by omega)) (hk _ (by omega) (by omega)), RecAt.keep h.doc (hf.kept _ fun j _ hj e => by have := hs j e; rcases hj with hj | hj <;> omega), (hk _ (by omega) (by omega)).trans h.box, ⟨x0, x1, x2, (hk _ (by omega) (by omega)).trans hr⟩, (hk _ (by omega) (by omega)).trans h.cb, h.ns, h.st,
    h.fr.trans hf (fun _ _ h => h) (fun j hj e => by have := hs j e; omega), h.ul, h.ml, h.mok⟩
theorem DoV.old (h : DoV w W B BD u m s t U M lv ck cd) (hb : Below W.heap.size W W') : DoV w W' B BD u m s t U M lv ck cd := h.turn (fr_below hb fun _ => False) fun _ h => h.elim
/-- What is left behind Do. -/
theorem DoV.fin (h : DoV w W B BD u m s t U M lv ck cd) (a b c : Value) : UPost w B u m U (tri W (w.heap.size + 1 + 1) a b c) ∧ DocU (tri W (w.heap.size + 1 + 1) a b c) (fun j => BD j ∨ w.heap.size ≤ j) lv M := by
  have hl := h.lt
  have hn := h.ns
  have hul := h.ul
  have hml := h.ml
  have hst := h.st
  have hf := fr_tri W (w.heap.size + 1 + 1) a b c
  have hk : ∀ j, j < W.heap.size → j ≠ w.heap.size + 1 + 1 → (tri W (w.heap.size + 1 + 1) a b c).heap[j]? = W.heap[j]? := fun j h1 h2 => hf.block j h1 h2
  have hu := h.un.keep (hf.kept _ fun j _ hj e => by rcases hj with hj | hj <;> omega) (hk _ (by omega) (by omega)) (hk _ (by omega) (by omega))
  refine ⟨⟨hu.more (fun j _ hB => hB.elim (fun hB => .inl hB.1) fun hB => .inr (by omega)) (fun hc => ?_) (fun hc => ?_), h.fr.trans hf (fun _ _ h => h) (fun j hj e => by omega)⟩, RecAt.mono (RecAt.keep h.doc (hf.kept _ fun j _ hj e => by rcases hj with hj | hj <;> omega)) fun j _ hB => hB.elim (fun hB => .inl hB.1) fun hB => .inr (by omega)⟩
  · rcases hc with hc | hc
    · exact h.un.nu (.inl ⟨hc, hul⟩)
    · omega
  · rcases hc with hc | hc
    · exact h.un.nm (.inl ⟨hc, hml⟩)
    · omega
end
end Go.Proofs.YtiaijpknnomlnaaGreat
