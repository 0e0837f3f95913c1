/- A projection's bytes: Take, the document's own. -/
import Derived.Test.YtjbodokligpcaaaGreatPkP
import Derived.Test.YtjbodokligpcaaaGreatPjP
import Derived.Test.YtjbodokligpcaaaGreatPkG
import Derived.Test.YtjbodokligpcaaaGreatRrP
import Derived.Test.YtjbodokligpcaaaGreatFrR
import Derived.Test.YtjbodokligpcaaaGreatPjI
namespace Go.Proofs.YtjbodokligpcaaaGreat
open Go.RowKit

theorem pj_num_sub {rest r : List Nat} {c n c' : Nat} (h : NumRel rest c n r c') : (∀ y ∈ r, y ∈ rest) ∧ r.length ≤ rest.length := by
  rcases h with ⟨_, _, rfl, _⟩ | ⟨_, _, rfl, _⟩ | ⟨_, _, rfl, _⟩
  · exact ⟨fun _ h => h, Nat.le_refl _⟩
  · exact ⟨fun y hy => by simp [hy], by simp⟩
  · exact ⟨fun _ h => h, Nat.le_refl _⟩
theorem pj_run_sub {rest out r : List Nat} {c m c' : Nat} (h : RunRel rest c m out r c') : (∀ y ∈ r, y ∈ rest) ∧ r.length ≤ rest.length := by
  rcases h with ⟨_, _, rfl, _⟩ | ⟨_, acc, _, _, rfl, _⟩ | ⟨_, acc, _, _, rfl, _⟩
  · exact ⟨fun _ h => h, Nat.le_refl _⟩
  · exact ⟨fun y hy => by simp [hy], by simp⟩
  · exact ⟨fun y hy => by simp [hy], by simp⟩
theorem units8_snoc (ls : List (List Nat)) (o : List Nat) : units8 (ls ++ [o]) = units8 ls ++ [o.map unit8] := by simp [units8]
theorem units8_length (ls : List (List Nat)) : (units8 ls).length = ls.length := by simp [units8]
/-- The first ones, as units. -/
def pre8 (out : List Nat) (q : Nat) : List Int := (out.take q).map unit8
theorem pre8_length (out : List Nat) (q : Nat) : (pre8 out q).length ≤ q := by unfold pre8; rw [List.length_map, List.length_take]; omega
theorem pre8_all (out : List Nat) : pre8 out out.length = out.map unit8 := by unfold pre8; rw [List.take_length]
theorem unit8_take (out : List Nat) {q : Nat} (hq : q < out.length) : pre8 out (q + 1) = pre8 out q ++ [unit8 (out.getD q 0)] := by
  unfold pre8
  rw [List.take_add_one, List.getElem?_eq_getElem hq, List.getD_eq_getElem?_getD, List.getElem?_eq_getElem hq, List.map_append]
  rfl
theorem pj_set_other (W : World) {q j : Nat} (h : j ≠ q) (i : Nat) (x : Value) : (W.setCell ⟨q, i, none⟩ x).heap[j]? = W.heap[j]? := heap_setCell_other W ⟨q, i, none⟩ j x h
theorem pj_alloc_at {w : World} (o : Obj) {Y : Nat} (h : Y = w.heap.size) : (w.alloc o).heap[Y]? = some o := by subst h; exact heap_alloc_new _ _

/-- The boxes of the document's own Take: the result's, the reader's, the projection's. -/
structure T11 (w : World) (p : Nat) (W : World) (e : Int) (lv rs : Value) (c : Nat) : Prop where
  res : W.heap[w.heap.size]? = some (.cells #[.int .i64 0, .slice none 0 0] 32 (0, 0))
  rd : W.heap[p]? = some (.cells #[rs, .int .i64 (c : Int)] 59 (0, 0))
  pj : W.heap[p + 1]? = some (.cells #[.int .i64 e, lv] 32 (0, 0))
  lt : w.heap.size < p
  b : Below w.heap.size w W
section
variable {w W W' : World} {p : Nat} {e : Int} {lv rs : Value} {c : Nat}
theorem T11.lt2 (h : T11 w p W e lv rs c) : p + 1 < W.heap.size := (Array.getElem?_eq_some_iff.1 h.pj).1
theorem T11.low {B : Nat} (h : T11 w p W e lv rs c) (hb : Below B W W') (hB : p + 1 < B) : T11 w p W' e lv rs c := by
  have := h.lt
  exact ⟨(hb.block _ (by omega)).trans h.res, (hb.block _ (by omega)).trans h.rd, (hb.block _ hB).trans h.pj, h.lt, h.b.trans (hb.mono (by omega))⟩
theorem T11.old (h : T11 w p W e lv rs c) (hb : Below W.heap.size W W') : T11 w p W' e lv rs c := h.low hb h.lt2
theorem T11.sete (h : T11 w p W e lv rs c) (x : Int) : T11 w p (W.setCell ⟨p + 1, 0, none⟩ (.int .i64 x)) x lv rs c := by
  have := h.lt
  exact ⟨(pj_set_other W (by omega) _ _).trans h.res, (pj_set_other W (by omega) _ _).trans h.rd, heap_setCell_same _ _ 0 _ _ _ h.pj, h.lt, h.b.setCell (by show w.heap.size ≤ p + 1; omega) _⟩
theorem T11.setv (h : T11 w p W e lv rs c) (x : Value) : T11 w p (W.setCell ⟨p + 1, 1, none⟩ x) e x rs c := by
  have := h.lt
  exact ⟨(pj_set_other W (by omega) _ _).trans h.res, (pj_set_other W (by omega) _ _).trans h.rd, heap_setCell_same _ _ 1 _ _ _ h.pj, h.lt, h.b.setCell (by show w.heap.size ≤ p + 1; omega) _⟩
theorem T11.rdr (h : T11 w p W e lv rs c) (x : Value) (c' : Nat) : T11 w p ((W.setCell ⟨p, 0, none⟩ x).setCell ⟨p, 1, none⟩ (.int .i64 (c' : Int))) e lv x c' := by
  have := h.lt
  exact ⟨(pj_set_other _ (by omega) _ _).trans ((pj_set_other W (by omega) _ _).trans h.res), heap_setCell_same _ _ 1 _ _ _ (heap_setCell_same _ _ 0 _ _ _ h.rd), (pj_set_other _ (by omega) _ _).trans ((pj_set_other W (by omega) _ _).trans h.pj), h.lt, (h.b.setCell (by show w.heap.size ≤ p; omega) _).setCell (by show w.heap.size ≤ p; omega) _⟩
theorem T11.x (h : T11 w p W e lv rs c) : (W.cell? ⟨p, 0, none⟩ = some rs ∧ W.cell? ⟨p, 1, none⟩ = some (.int .i64 (c : Int))) ∧
    (W.cell? ⟨p + 1, 0, none⟩ = some (.int .i64 e) ∧ W.cell? ⟨p + 1, 1, none⟩ = some lv) ∧
    (∀ i, W.frozen? ⟨p, i, none⟩ = false) ∧ (∀ i, W.frozen? ⟨p + 1, i, none⟩ = false) :=
  ⟨⟨by rw [cell_of_row _ _ 0 _ _ _ h.rd]; rfl, by rw [cell_of_row _ _ 1 _ _ _ h.rd]; rfl⟩, ⟨by rw [cell_of_row _ _ 0 _ _ _ h.pj]; rfl, by rw [cell_of_row _ _ 1 _ _ _ h.pj]; rfl⟩, fun i => frozen_of_row _ _ i _ _ h.rd, fun i => frozen_of_row _ _ i _ _ h.pj⟩
theorem T11.r (h : T11 w p W e lv rs c) : W.cell? ⟨w.heap.size, 0, none⟩ = some (.int .i64 0) ∧ W.cell? ⟨w.heap.size, 1, none⟩ = some (.slice none 0 0) ∧ W.frozen? ⟨w.heap.size, 0, none⟩ = false ∧ W.frozen? ⟨w.heap.size, 1, none⟩ = false :=
  ⟨by rw [cell_of_row _ _ 0 _ _ _ h.res]; rfl, by rw [cell_of_row _ _ 1 _ _ _ h.res]; rfl, frozen_of_row _ _ 0 _ _ h.res, frozen_of_row _ _ 1 _ _ h.res⟩
end

theorem q_cellsP {w : World} {p : Nat} {a b : Value} {t : TypeId} (h : w.heap[p]? = some (.cells #[a, b] t (0, 0))) :
    w.cell? ⟨p, 0, none⟩ = some a ∧ w.cell? ⟨p, 1, none⟩ = some b ∧ w.frozen? ⟨p, 0, none⟩ = false ∧ w.frozen? ⟨p, 1, none⟩ = false :=
  ⟨by rw [cell_of_row w p 0 _ _ _ h]; rfl, by rw [cell_of_row w p 1 _ _ _ h]; rfl, frozen_of_row w p 0 _ _ h, frozen_of_row w p 1 _ _ h⟩
/-- How far the document's own loop has come. -/
structure DLJ (w : World) (p bs m : Nat) (rest0 : List Nat) (c0 : Nat) (wr : World) (e : Int) (lo : Option Addr) (lc k : Nat) (done : List (List Nat)) (ao : Option Addr) (cap n : Nat) (rest : List Nat) (c : Nat) : Prop where
  bx : T11 w p wr e (.slice lo k lc) (.slice ao n cap) c
  rows : Rows1 wr bs (.slice lo k lc) (units8 done)
  len : done.length = k
  kle : k ≤ m
  pb : p + 1 < bs
  sz : bs ≤ wr.heap.size
  nl : n = rest.length
  rd : RdU wr w.heap.size (.slice ao n cap) rest
  by8 : ∀ y ∈ rest, y < 256
  rl : rest.length ≤ 65536
  cont : PCont m rest0 c0 k rest c done
/-- What the document's own Take answers. -/
def RPTake (b : List Nat) (w : World) (r : Ending) (w' : World) : Prop :=
  Below w.heap.size w w' ∧ ∃ (ep : Int) (cs : List (List Int)) (c : Nat), RProj b ep cs c ∧ ((c ≠ 0 ∧ r = .returned (.tuple #[.agg #[.int .i64 0, .slice none 0 0], .int .i64 (c : Int)])) ∨
    (c = 0 ∧ ∃ v, r = .returned (.tuple #[.agg #[.int .i64 ep, v], .int .i64 0]) ∧ Chs w' (fun j => w.heap.size ≤ j) v cs))
/-- A result of two cells. -/
theorem res_twoP {w W : World} {x0 x1 : Value} (h : W.heap[w.heap.size]? = some (.cells #[x0, x1] 32 (0, 0))) (hb : Below w.heap.size w W) (a b : Value) :
    (((W.setCell ⟨w.heap.size, 0, none⟩ a).setCell ⟨w.heap.size, 1, none⟩ b).cell? ⟨w.heap.size, 0, none⟩ = some a ∧
     ((W.setCell ⟨w.heap.size, 0, none⟩ a).setCell ⟨w.heap.size, 1, none⟩ b).cell? ⟨w.heap.size, 1, none⟩ = some b) ∧
    Below w.heap.size w ((W.setCell ⟨w.heap.size, 0, none⟩ a).setCell ⟨w.heap.size, 1, none⟩ b) := by
  have h2 := heap_setCell_same _ _ 1 _ _ b (heap_setCell_same _ _ 0 _ _ a h)
  exact ⟨⟨by rw [cell_of_row _ _ 0 _ _ _ h2]; rfl, by rw [cell_of_row _ _ 1 _ _ _ h2]; rfl⟩, (hb.setCell (Nat.le_refl _) _).setCell (Nat.le_refl _) _⟩
theorem pj_wrapU_succ (k : Nat) (h : k ≤ 65536) : IntKind.u64.wrap ((k : Int) + 1) = ((k + 1 : Nat) : Int) := by rw [IntKind.wrap_u64]; omega

set_option maxHeartbeats 16000000 in
set_option maxRecDepth 100000 in
theorem rptake_any (v : Value) (b : List Nat) (w : World) (hr : Reads w .u8 v b) (hb : ∀ y ∈ b, y < 256) : Calls Tryz.prog 8 #[v] w (RPTake b w) := by
  obtain ⟨ao, cap, rfl, _, _, _⟩ := hr.val
  obtain ⟨W2, hW2⟩ : ∃ W2, W2 = w.alloc (.cells #[.int .i64 0, .slice none 0 0] 32) := ⟨_, rfl⟩
  have hb2 : Below w.heap.size w W2 := by rw [hW2]; exact (Below.refl _ _).alloc (Nat.le_refl _) _
  have hx2 : W2.heap[w.heap.size]? = some (.cells #[.int .i64 0, .slice none 0 0] 32 (0, 0)) := by rw [hW2]; exact heap_alloc_new _ _
  have HT := Lib.hid (refFrTakeU_any _ b W2 _ (hr.at'.old hb2) hb)
  have HB2 := Lib.hid hb2
  have HX2 := Lib.hid hx2
  have HBB := Lib.hid hb
  have HW2 := Lib.hid hW2
  obtain ⟨nb, hnb⟩ : ∃ n, n = b.length := ⟨_, rfl⟩
  have HN := Lib.hid hnb
  rw [← hnb] at HT ⊢
  clear hr hb hb2 hx2 hW2 hnb
  go_enter Tryz.func8, Tryz.ntmps8
  go_wp2_with fail
  rw [← HW2.out]
  refine HT.out.mono ?_
  rintro r w3 ⟨v3, t, s, c0, rfl, hft, hat, hb3, hbk⟩
  obtain ⟨ao3, n3, cap3, rfl, hbk⟩ := hbk
  obtain ⟨ao3', cap3', hv, _, _, _⟩ := hat.reads.val
  obtain ⟨rfl, rfl, rfl⟩ : ao3 = ao3' ∧ n3 = t.length ∧ cap3 = cap3' := by simpa using hv
  have HF := Lib.hid hft
  have HB3 : Hid (Below w.heap.size w w3) := Lib.hid (HB2.out.trans (hb3.mono HB2.out.size))
  have HX3 := Lib.hid ((hb3.block _ (Array.getElem?_eq_some_iff.1 HX2.out).1).trans HX2.out)
  have HRU : Hid (RdU w3 w.heap.size (.slice ao3 t.length cap3) t) := Lib.hid ⟨hat.reads, ao3, t.length, cap3, rfl, hbk.imp id fun ⟨b, off, h1, h2, _⟩ => ⟨b, off, h1, h2⟩⟩
  have xc0 : w3.cell? ⟨w.heap.size, 0, none⟩ = some (.int .i64 0) := by rw [cell_of_row _ _ 0 _ _ _ HX3.out]; rfl
  have xc1 : w3.cell? ⟨w.heap.size, 1, none⟩ = some (.slice none 0 0) := by rw [cell_of_row _ _ 1 _ _ _ HX3.out]; rfl
  have xf0 := frozen_of_row w3 _ 0 _ _ HX3.out
  have xf1 := frozen_of_row w3 _ 1 _ _ HX3.out
  obtain ⟨⟨z0, z1⟩, hbz⟩ := res_twoP HX3.out HB3.out (.int .i64 0) (.slice none 0 0)
  have HBZ := Lib.hid hbz
  obtain ⟨nt, hnt⟩ : ∃ n, n = t.length := ⟨_, rfl⟩
  rw [← hnt] at HRU ⊢
  have HNT := Lib.hid hnt
  clear hft hat hb3 hbk hv hbz hnt
  by_cases hz : c0 = 0
  rotate_left
  · have tz : ((c0 : Int) != 0) = true := by simp; omega
    have tz2 : ((c0 : Int) == 0) = false := by rw [beq_eq_false_iff_ne]; omega
    have HZ := Lib.hid hz
    clear hz
    go_wp2
    refine bodyPost_ret (v := .tuple #[.agg #[.int .i64 0, .slice none 0 0], .int .i64 (c0 : Int)]) (by simp [results, Tryz.results8, go_sem, z0, z1]) rfl ?_
    exact ⟨HBZ.out, 0, [], c0, ⟨[], c0, ⟨t, s, c0, HF.out, by rw [if_pos HZ.out]; exact ⟨rfl, rfl⟩⟩, by rw [if_pos HZ.out]⟩, .inl ⟨HZ.out, rfl⟩⟩
  subst hz
  by_cases hs : s < nb
  · have hsi : (s : Int) < (nb : Int) := by omega
    have HS := Lib.hid hs
    clear hs
    go_wp2
    refine bodyPost_ret (v := .tuple #[.agg #[.int .i64 0, .slice none 0 0], .int .i64 2]) (by simp [results, Tryz.results8, go_sem, z0, z1]) rfl ?_
    exact ⟨HBZ.out, 0, [], 2, ⟨[], 2, ⟨t, s, 0, HF.out, by rw [if_neg (by decide), if_pos (by rw [← HN.out]; exact HS.out)]; exact ⟨rfl, rfl⟩⟩, by rw [if_pos (by decide)]⟩, .inl ⟨by decide, rfl⟩⟩
  have hsi : ¬ (s : Int) < (nb : Int) := by omega
  have HFT : Hid (FO b t 0) := Lib.hid ⟨t, s, 0, HF.out, by rw [if_neg (by decide), if_neg (by rw [← HN.out]; exact hs)]; exact ⟨rfl, rfl⟩⟩
  have H80 := Lib.hid (pj_fo_good HBB.out HFT.out)
  obtain ⟨W4, hW4⟩ : ∃ W, W = (w3.alloc (.cells #[.slice ao3 nt cap3, .int .i64 0] 59)).alloc (.cells #[.int .i64 0, .slice none 0 0] 32) := ⟨_, rfl⟩
  have hb4 : Below w3.heap.size w3 W4 := by rw [hW4]; exact ((Below.refl _ _).alloc (Nat.le_refl _) _).alloc (by simp) _
  have hx4 : W4.heap[w3.heap.size]? = some (.cells #[.slice ao3 nt cap3, .int .i64 ((0 : Nat) : Int)] 59 (0, 0)) := by rw [hW4, Below.heap_alloc _ _ _ (by simp)]; exact heap_alloc_new _ _
  have hy4 : W4.heap[w3.heap.size + 1]? = some (.cells #[.int .i64 0, .slice none 0 0] 32 (0, 0)) := by rw [hW4]; exact pj_alloc_at _ (by simp)
  have HW4 := Lib.hid hW4
  have HT4 : Hid (T11 w w3.heap.size W4 0 (.slice none 0 0) (.slice ao3 nt cap3) 0) := Lib.hid ⟨(hb4.block _ (Array.getElem?_eq_some_iff.1 HX3.out).1).trans HX3.out, hx4, hy4, (Array.getElem?_eq_some_iff.1 HX3.out).1, HB3.out.trans (hb4.mono HB3.out.size)⟩
  have HRU4 := Lib.hid (HRU.out.below (hb4.mono HB3.out.size))
  have hwi := rwithin_any w.heap.size ao3 cap3 t 0 1099511627776 W4 HT4.out.b.size (by rw [← HNT.out]; exact HRU4.out) H80.out.1
  rw [← HNT.out] at hwi
  have HWI := Lib.hid hwi
  obtain ⟨p, hp⟩ : ∃ p, p = w3.heap.size := ⟨_, rfl⟩
  rw [← hp] at HT4
  have HP := Lib.hid hp
  clear hW4 hb4 hx4 hy4 hp hwi hs z0 z1
  go_wp2_with fail
  rw [← HW4.out, ← HP.out]
  clear xc0 xc1 xf0 xf1
  refine HWI.out.mono ?_
  rintro r w5 ⟨n5, ao5, cap5, r5, c5, rfl, hn5, hru5, hb5⟩
  have HN5 := Lib.hid hn5
  have H85 : Hid ((∀ y ∈ r5, y < 256) ∧ r5.length ≤ 65536) := Lib.hid ⟨fun y hy => H80.out.1 y ((pj_num_sub hn5).1 y hy), Nat.le_trans (pj_num_sub hn5).2 H80.out.2⟩
  obtain ⟨e, he⟩ : ∃ x, x = withinR n5 1099511627776 := ⟨_, rfl⟩
  obtain ⟨d5, hd5⟩ : ∃ y, y = withinC n5 c5 1099511627776 := ⟨_, rfl⟩
  rw [← he, ← hd5]
  have HE := Lib.hid he
  have HD5 := Lib.hid hd5
  have HTo := Lib.hid (HT4.out.old hb5)
  obtain ⟨W5, hW5⟩ : ∃ W, W = ((w5.setCell ⟨p + 1, 0, none⟩ (.int .i64 (e : Int))).setCell ⟨p, 0, none⟩ (.slice ao5 r5.length cap5)).setCell ⟨p, 1, none⟩ (.int .i64 (d5 : Int)) := ⟨_, rfl⟩
  have HT5 : Hid (T11 w p W5 (e : Int) (.slice none 0 0) (.slice ao5 r5.length cap5) d5) := Lib.hid (by rw [hW5]; exact (HTo.out.sete _).rdr _ _)
  have HRU5 : Hid (RdU W5 w.heap.size (.slice ao5 r5.length cap5) r5) := Lib.hid (by rw [hW5]; have := HTo.out.lt; exact hru5.below ((((Below.refl _ _).setCell (by simp only; omega) _).setCell (by simp only; omega) _).setCell (by simp only; omega) _))
  have HNU := Lib.hid (rnumber_any w.heap.size ao5 cap5 r5 d5 W5 HT5.out.b.size HRU5.out H85.out.1)
  have HW5 := Lib.hid hW5
  obtain ⟨⟨a0, a1⟩, ⟨b0, b1⟩, fp, fq⟩ := HTo.out.x
  have hx := HT5.out.x
  rw [hW5] at hx
  obtain ⟨⟨e0, e1⟩, ⟨g0, g1⟩, _, _⟩ := hx
  clear hn5 he hd5 hru5 hb5 hW5
  go_wp2_with fail
  rw [← HW5.out]
  clear a0 a1 b0 b1 fp fq e0 e1 g0 g1 HTo
  refine HNU.out.mono ?_
  rintro r w6 ⟨n6, ao6, cap6, r6, c6, rfl, hn6, hru6, hb6⟩
  have HN6 := Lib.hid hn6
  have H86 : Hid ((∀ y ∈ r6, y < 256) ∧ r6.length ≤ 65536) := Lib.hid ⟨fun y hy => H85.out.1 y ((pj_num_sub hn6).1 y hy), Nat.le_trans (pj_num_sub hn6).2 H85.out.2⟩
  have HTo := Lib.hid (HT5.out.old hb6)
  obtain ⟨W6, hW6⟩ : ∃ W, W = (w6.setCell ⟨p, 0, none⟩ (.slice ao6 r6.length cap6)).setCell ⟨p, 1, none⟩ (.int .i64 (c6 : Int)) := ⟨_, rfl⟩
  have HT6 : Hid (T11 w p W6 (e : Int) (.slice none 0 0) (.slice ao6 r6.length cap6) c6) := Lib.hid (by rw [hW6]; exact HTo.out.rdr _ _)
  have HRU6 : Hid (RdU W6 w.heap.size (.slice ao6 r6.length cap6) r6) := Lib.hid (by rw [hW6]; have := HTo.out.lt; exact hru6.below (((Below.refl _ _).setCell (by simp only; omega) _).setCell (by simp only; omega) _))
  have HZ6 : Hid (c6 ≠ 0 → n6 = 0) := Lib.hid fun h => pj_num_zero hn6 h
  have HW6 := Lib.hid hW6
  obtain ⟨⟨a0, a1⟩, ⟨b0, b1⟩, fp, fq⟩ := HTo.out.x
  have hx := HT6.out.x
  rw [hW6] at hx
  obtain ⟨⟨e0, e1⟩, ⟨g0, g1⟩, ffp, ffq⟩ := hx
  have hxr := HT6.out.r
  rw [hW6] at hxr
  obtain ⟨rc0, rc1, rf0, rf1⟩ := hxr
  clear hn6 hru6 hb6 hW6
  by_cases hbig : c6 = 0 ∧ 4 < n6
  · obtain ⟨hz6, hn4⟩ := hbig
    have hn4i : (n6 : Int) > 4 := by omega
    have hm := many_bad (n := n6) (c := c6) (most := 4) (.inr (by omega))
    rw [if_pos hz6] at hm
    have HM := Lib.hid hm
    have tc : ((c6 : Int) == 0) = true := by rw [beq_iff_eq]; omega
    obtain ⟨⟨z0, z1⟩, hbz⟩ := res_twoP HT6.out.res HT6.out.b (.int .i64 0) (.slice none 0 0)
    have HBZ6 := Lib.hid hbz
    rw [HW6.out] at z0 z1
    clear hn4 hm hbz hz6
    go_wp2
    refine bodyPost_ret (v := .tuple #[.agg #[.int .i64 0, .slice none 0 0], .int .i64 3]) (by simp [results, Tryz.results8, go_sem, z0, z1]) rfl ?_
    rw [← HW6.out]
    refine ⟨HBZ6.out, 0, [], 3, ⟨t, 0, HFT.out, ?_⟩, .inl ⟨by decide, rfl⟩⟩
    rw [if_neg (by decide)]
    refine ⟨e, [], r6, 3, ⟨n5, r5, c5, n6, r6, c6, HN5.out, HE.out, by rw [← HD5.out]; exact HN6.out, by rw [HM.out.1, HM.out.2]; exact ⟨rfl, rfl, rfl⟩⟩, ?_⟩
    have : endC r6.length 3 = 3 := by unfold endC; rw [if_pos (by decide)]
    rw [this, if_pos (by decide)]
  have hm4 : n6 ≤ 4 := by
    by_cases hc : c6 = 0
    · exact Nat.le_of_not_lt fun h => hbig ⟨hc, h⟩
    · rw [HZ6.out hc]; omega
  have hm := many_good (n := n6) (c := c6) (most := 4) (by omega)
  have HM := Lib.hid hm
  have HM4 := Lib.hid hm4
  have hn4i : ¬ (n6 : Int) > 4 := by omega
  have HS : Hid (DLJ w p W6.heap.size n6 r6 c6 W6 (e : Int) none 0 0 [] ao6 cap6 r6.length r6 c6) := Lib.hid ⟨HT6.out, rows_nil _ _, rfl, Nat.zero_le _, HT6.out.lt2, Nat.le_refl _, rfl, HRU6.out, H86.out.1, H86.out.2, pcont_start⟩
  have hen := fun W => rend_any ao6 r6.length cap6 c6 W
  by_cases hz6 : c6 = 0
  rotate_left
  · have tc : ((c6 : Int) == 0) = false := by rw [beq_eq_false_iff_ne]; omega
    have tc2 : ((c6 : Int) != 0) = true := by rw [bne_iff_ne]; omega
    have hn0 := HZ6.out hz6
    have hec : endC r6.length c6 = c6 := by unfold endC; rw [if_pos hz6]
    have HEC := Lib.hid hec
    have HEN := Lib.hid (hen W6)
    rw [hec] at HEN
    have HC6 := Lib.hid hz6
    have HN0 := Lib.hid hn0
    have hlt0 : ¬ (0 : Int) < (n6 : Int) := by omega
    have hlt1 : ¬ 0 < n6 := by omega
    clear hbig hm hm4 hz6 hec hen hn0
    go_wp2_with fail
    rw [← HW6.out]
    clear a0 a1 b0 b1 fp fq e0 e1 g0 g1 ffp ffq rc0 rc1 rf0 rf1
    go_loopw [10, 11, 12, 13, 15] (fun iv _ _ _ _ wr => iv = .int .u64 0 ∧ wr = W6) (fun _ _ _ _ _ _ => 0)
    case atStart => exact ⟨rfl, rfl⟩
    case round =>
      obtain ⟨rfl, rfl⟩ := hrel
      obtain ⟨⟨e0, e1⟩, _, _, _⟩ := HT6.out.x
      go_wp2_with fail
      refine HEN.out.mono ?_
      rintro r w7 ⟨rfl, hb7⟩
      have h7 := HT6.out.old hb7
      obtain ⟨rc0, rc1, rf0, rf1⟩ := h7.r
      obtain ⟨⟨z0, z1⟩, hbz⟩ := res_twoP h7.res h7.b (.int .i64 0) (.slice none 0 0)
      have HBZ7 := Lib.hid hbz
      clear hb7 h7 hbz
      go_wp2
      refine bodyPost_ret (v := .tuple #[.agg #[.int .i64 0, .slice none 0 0], .int .i64 (c6 : Int)]) (by simp [results, Tryz.results8, go_sem, z0, z1]) rfl ?_
      refine ⟨HBZ7.out, 0, [], c6, ⟨t, 0, HFT.out, ?_⟩, .inl ⟨HC6.out, rfl⟩⟩
      rw [if_neg (by decide)]
      refine ⟨e, [], r6, c6, ⟨n5, r5, c5, n6, r6, c6, HN5.out, HE.out, by rw [← HD5.out]; exact HN6.out, by rw [HM.out.1, HM.out.2, HN0.out]; exact ⟨rfl, rfl, rfl⟩⟩, ?_⟩
      rw [HEC.out, if_pos HC6.out]
  have tc6 : ((c6 : Int) == 0) = true := by rw [beq_iff_eq]; omega
  have HBS : Hid (p + 1 < W6.heap.size) := Lib.hid HT6.out.lt2
  obtain ⟨bs, hbs⟩ : ∃ n, n = W6.heap.size := ⟨_, rfl⟩
  rw [← hbs] at HS HBS
  have HBSE := Lib.hid hbs
  clear hbig hm hm4 hbs hz6 hen
  go_wp2_with fail
  rw [← HW6.out]
  clear a0 a1 b0 b1 fp fq e0 e1 g0 g1 ffp ffq rc0 rc1 rf0 rf1 tc6
  go_loopw [10, 11, 12, 13, 15] (fun iv _ _ _ _ wr => ∃ (k : Nat) (lo : Option Addr) (lc : Nat) (done : List (List Nat)) (ao : Option Addr) (cap n : Nat) (rest : List Nat) (c : Nat), iv = .int .u64 (k : Int) ∧ DLJ w p bs n6 r6 c6 wr (e : Int) lo lc k done ao cap n rest c)
    (fun iv _ _ _ _ _ => n6 - (intOf iv).toNat)
  case atStart => exact ⟨0, none, 0, [], ao6, cap6, r6.length, r6, c6, rfl, HS.out⟩
  case round =>
    obtain ⟨k, lo, lc, done, ao, cap, n, rest, c, rfl, ht⟩ := hrel
    have HD := Lib.hid ht
    obtain ⟨⟨a0, a1⟩, ⟨b0, b1⟩, fp, fq⟩ := ht.bx.x
    have hend := rend_any ao n cap c wr
    have HEND := Lib.hid hend
    by_cases hgo : c = 0 ∧ k < n6
    rotate_left
    · have HTL : Hid (∃ ls, TLs n6 r6 c6 ls rest c ∧ (c = 0 → ls = done)) := Lib.hid (by
        by_cases hc : c = 0
        · have hkn : ¬ k < n6 := fun h => hgo ⟨hc, h⟩
          have hke : k = n6 := by have := ht.kle; omega
          have hcd := ht.cont
          rw [hke] at hcd
          exact ⟨done, hcd.done, fun _ => rfl⟩
        · obtain ⟨ls, h⟩ := ht.cont.stop hc
          exact ⟨ls, h, fun h => absurd h hc⟩)
      have HTP : Hid (∃ ls, TProj t e ls rest c ∧ (c = 0 → ls = done)) := Lib.hid (by
        obtain ⟨ls, h1, h2⟩ := HTL.out
        exact ⟨ls, ⟨n5, r5, c5, n6, r6, c6, HN5.out, HE.out, by rw [← HD5.out]; exact HN6.out, by rw [HM.out.1, HM.out.2]; exact h1⟩, h2⟩)
      have hnl := ht.nl
      obtain ⟨c9, hc9⟩ : ∃ x, x = endC n c := ⟨_, rfl⟩
      rw [← hc9] at hend
      have HC9 : Hid (c9 = endC rest.length c) := Lib.hid (by rw [hc9, hnl])
      have HEND := Lib.hid hend
      have hw : (((c : Int) == 0) = false ∧ (k : Int) < (n6 : Int)) ∨ ¬ (k : Int) < (n6 : Int) := by
        by_cases hkn : k < n6
        · exact .inl ⟨by rw [beq_eq_false_iff_ne]; intro h; exact hgo ⟨by omega, hkn⟩, by omega⟩
        · exact .inr (by omega)
      clear hgo ht hend hnl hc9
      have BACK : Hid (∀ w7, Below wr.heap.size wr w7 → T11 w p w7 (e : Int) (.slice lo k lc) (.slice ao n cap) c ∧ Chs w7 (fun j => bs ≤ j) (.slice lo k lc) (units8 done)) := Lib.hid fun w7 hb7 => ⟨HD.out.bx.old hb7, HD.out.rows.chs.old hb7⟩
      rcases hw with ⟨tc, tk⟩ | tk
      all_goals (
        go_wp2_with fail
        refine HEND.out.mono ?_
        rintro r w7 ⟨rfl, hb7⟩
        obtain ⟨h7, hch7⟩ := BACK.out w7 hb7
        obtain ⟨⟨a0, a1⟩, ⟨b0, b1⟩, fp, fq⟩ := h7.x
        obtain ⟨rc0, rc1, rf0, rf1⟩ := h7.r
        obtain ⟨⟨z0, z1⟩, hbz⟩ := res_twoP h7.res h7.b (.int .i64 0) (.slice none 0 0)
        have HBZ7 := Lib.hid hbz
        have H7 := Lib.hid h7
        have HCH7 := Lib.hid hch7
        have HPC := Lib.hid (rpcheck_any (e : Int) _ (units8 done) w7 _ hch7)
        clear hb7 h7 hbz hch7
        by_cases hz9 : c9 = 0
        rotate_left
        · have tz : ((c9 : Int) != 0) = true := by rw [bne_iff_ne]; omega
          have HZ9 := Lib.hid hz9
          clear hz9
          go_wp2
          refine bodyPost_ret (v := .tuple #[.agg #[.int .i64 0, .slice none 0 0], .int .i64 (c9 : Int)]) (by simp [results, Tryz.results8, go_sem, z0, z1]) rfl ?_
          refine ⟨HBZ7.out, 0, [], c9, ⟨t, 0, HFT.out, ?_⟩, .inl ⟨HZ9.out, rfl⟩⟩
          rw [if_neg (by decide)]
          obtain ⟨ls, h1, _⟩ := HTP.out
          exact ⟨e, ls, rest, c, h1, by rw [← HC9.out, if_pos HZ9.out]⟩
        have tz : ((c9 : Int) != 0) = false := by rw [hz9]; rfl
        have HZ9 : Hid (¬ endC rest.length c ≠ 0) := Lib.hid (by rw [← HC9.out, hz9]; simp)
        have hcz : c = 0 := by
          have := HZ9.out
          unfold endC at this
          by_cases hc : c = 0
          · exact hc
          · rw [if_pos hc] at this; exact absurd hc this
        have HTD : Hid (TProj t e done rest c) := Lib.hid (by
          obtain ⟨ls, h1, h2⟩ := HTP.out
          rw [h2 hcz] at h1
          exact h1)
        have HPT := Lib.hid (pchk_turn (e : Int) HTD.out.u64)
        obtain ⟨c10, hc10⟩ : ∃ x, x = pchk (e : Int) (units8 done) := ⟨_, rfl⟩
        rw [← hc10] at HPC HPT
        clear hz9 hcz hc10
        go_wp2_with fail
        refine HPC.out.mono ?_
        rintro r w8 ⟨rfl, hb8⟩
        have h8 := H7.out.old hb8
        have HCH8 := Lib.hid (HCH7.out.old hb8)
        obtain ⟨⟨a0, a1⟩, ⟨b0, b1⟩, fp, fq⟩ := h8.x
        obtain ⟨rc0, rc1, rf0, rf1⟩ := h8.r
        have H8 := Lib.hid h8
        clear hb8 h8 z0 z1
        by_cases hz10 : c10 = 0
        rotate_left
        · have tz2 : ((c10 : Int) != 0) = true := by rw [bne_iff_ne]; omega
          obtain ⟨⟨z0, z1⟩, hbz⟩ := res_twoP H8.out.res H8.out.b (.int .i64 0) (.slice none 0 0)
          have HBZ8 := Lib.hid hbz
          have HZ10 := Lib.hid hz10
          clear hz10 hbz
          go_wp2
          refine bodyPost_ret (v := .tuple #[.agg #[.int .i64 0, .slice none 0 0], .int .i64 (c10 : Int)]) (by simp [results, Tryz.results8, go_sem, z0, z1]) rfl ?_
          refine ⟨HBZ8.out, 0, [], c10, ⟨t, 0, HFT.out, ?_⟩, .inl ⟨HZ10.out, rfl⟩⟩
          rw [if_neg (by decide)]
          exact ⟨e, done, rest, c, HTD.out, by rw [if_neg HZ9.out]; exact ⟨HPT.out.1, fun h => absurd h HZ10.out⟩⟩
        have tz2 : ((c10 : Int) != 0) = false := by rw [hz10]; rfl
        obtain ⟨⟨z0, z1⟩, hbz⟩ := res_twoP H8.out.res H8.out.b (.int .i64 (e : Int)) (.slice lo k lc)
        have HBZ8 := Lib.hid hbz
        have HZ10 := Lib.hid hz10
        clear hz10 hbz
        go_wp2
        refine bodyPost_ret (v := .tuple #[.agg #[.int .i64 (e : Int), .slice lo k lc], .int .i64 0]) (by simp [results, Tryz.results8, go_sem, z0, z1]) rfl ?_
        have hpz : pchk (e : Int) (unitsW done) = 0 := by rw [← HPT.out.1]; exact HZ10.out
        have hue := HPT.out.2 hpz
        refine ⟨HBZ8.out, (e : Int), unitsW done, 0, ⟨t, 0, HFT.out, ?_⟩, .inr ⟨rfl, _, rfl, ?_⟩⟩
        · rw [if_neg (by decide)]
          exact ⟨e, done, rest, c, HTD.out, by rw [if_neg HZ9.out]; exact ⟨hpz.symm, fun _ => ⟨rfl, rfl⟩⟩⟩
        · rw [← hue]
          have q1 := HD.out.pb
          have q2 := H8.out.lt
          refine (HCH8.out.keep ⟨by simp, fun j hj hB => ?_⟩).mono fun j _ hj => by omega
          have hne : j ≠ w.heap.size := by omega
          rw [heap_setCell_other _ _ _ _ hne, heap_setCell_other _ _ _ _ hne])
    obtain ⟨hc0, hkn⟩ := hgo
    have tc : ((c : Int) == 0) = true := by rw [beq_iff_eq]; omega
    have hkni : (k : Int) < (n6 : Int) := by omega
    have HK := Lib.hid hkn
    have hli := rlist_any w.heap.size ao cap rest c 4 (by decide) (by decide) wr ht.bx.b.size (by have := ht.rd; rw [ht.nl] at this; exact this) ht.by8 (by have := ht.rl; omega)
    rw [← ht.nl] at hli
    have HLI := Lib.hid hli
    clear hc0 hkn ht hli hend
    go_wp2_with fail
    refine HLI.out.mono ?_
    rintro r w7 ⟨ov, out, ao7, cap7, r7, c7, n7, r7', c7', rfl, hn7, hrun7, ho7, hru7, hb7⟩
    obtain ⟨aoo, capo, rfl, _, _, _⟩ := ho7.reads.val
    have hol4 := Nat.le_trans (pj_run_u64 hrun7).2 (manyR_four n7)
    obtain ⟨W7, hW7⟩ : ∃ W, W = w7.alloc (.cells #[.slice ao7 r7.length cap7, .int .i64 (c7 : Int)] 59) := ⟨_, rfl⟩
    have hb7a : Below w7.heap.size w7 W7 := by rw [hW7]; exact (Below.refl _ _).alloc (Nat.le_refl _) _
    have hx7 : W7.heap[w7.heap.size]? = some (.cells #[.slice ao7 r7.length cap7, .int .i64 (c7 : Int)] 59 (0, 0)) := by rw [hW7]; exact heap_alloc_new _ _
    have hT7 := (HD.out.bx.old hb7).old hb7a
    obtain ⟨⟨a0, a1⟩, ⟨b0, b1⟩, fp, fq⟩ := hT7.x
    obtain ⟨y0, y1, _, _⟩ := q_cellsP hx7
    obtain ⟨W8, hW8⟩ : ∃ W, W = (W7.setCell ⟨p, 0, none⟩ (.slice ao7 r7.length cap7)).setCell ⟨p, 1, none⟩ (.int .i64 (c7 : Int)) := ⟨_, rfl⟩
    have HT8 : Hid (T11 w p W8 (e : Int) (.slice lo k lc) (.slice ao7 r7.length cap7) c7) := Lib.hid (by rw [hW8]; exact hT7.rdr _ _)
    have hbw8 : Below p W7 W8 := by rw [hW8]; exact ((Below.refl _ _).setCell (show p ≤ p from Nat.le_refl _) _).setCell (show p ≤ p from Nat.le_refl _) _
    have h0 := HD.out.bx.lt
    have h1 := HD.out.bx.b.size
    have h2 := hb7.size
    have h3 := hb7a.size
    have h4 := HD.out.pb
    have h5 := HD.out.sz
    have HB8 : Hid (Below w.heap.size w7 W8) := Lib.hid ((hb7a.mono (by omega)).trans (hbw8.mono (by omega)))
    have HR8 : Hid (Rows1 W8 bs (.slice lo k lc) (units8 done)) := Lib.hid (by
      rw [hW8]
      refine Rows1.keepB (((HD.out.rows.below hb7).below hb7a)) fun j hj _ => ?_
      have hne : j ≠ p := by omega
      rw [pj_set_other _ hne, pj_set_other _ hne])
    have HOU8 : Hid (Reads W8 .u64 (.slice aoo out.length capo) out) := Lib.hid (by
      have hou := ((ho7.below hb7a (Nat.le_refl _)))
      have hk : Owns W8 wr.heap.size 50 .u64 (.slice aoo out.length capo) out := by
        refine ⟨hou.1, ?_⟩
        rcases hou.2 with g | ⟨g, cap, cur, g1, g2, g3, g4⟩
        · exact .inl g
        · refine .inr ⟨g, cap, cur, g1, g2, ?_, g4⟩
          have hne : g ≠ p := by omega
          rw [hW8, pj_set_other _ hne, pj_set_other _ hne]
          exact g3
      exact hk.reads)
    have HSZ8 : Hid (bs ≤ W8.heap.size) := Lib.hid (by rw [hW8]; simp; omega)
    have HN7 := Lib.hid hn7
    have HRN7 := Lib.hid hrun7
    have HRU7 := Lib.hid hru7
    have H87 : Hid ((∀ y ∈ r7, y < 256) ∧ r7.length ≤ 65536) := Lib.hid (by
      have g1 := pj_num_sub hn7
      have g2 := pj_run_sub hrun7
      exact ⟨fun y hy => HD.out.by8 y (g1.1 y (g2.1 y hy)), Nat.le_trans g2.2 (Nat.le_trans g1.2 HD.out.rl)⟩)
    have HW7 := Lib.hid hW7
    have HW8 := Lib.hid hW8
    have hE8 : IOwn (W8.alloc (.cells #[] 3)) W8.heap.size (.slice (some ⟨W8.heap.size, 0, none⟩) 0 0) (pre8 out 0) := by
      exact World.ownsRow_made W8 #[] 0 (Nat.le_refl _) (by simp [maxLen]) rfl
    rw [show W8.heap.size = w7.heap.size + 1 by rw [hW8, hW7]; simp] at hE8
    have HE8 : Hid (IOwn (W8.alloc (.cells #[] 3)) W8.heap.size (.slice (some ⟨w7.heap.size + 1, 0, none⟩) 0 0) (pre8 out 0)) := Lib.hid (by rw [show W8.heap.size = w7.heap.size + 1 by rw [hW8, hW7]; simp]; exact hE8)
    obtain ⟨no, hno⟩ : ∃ n, n = out.length := ⟨_, rfl⟩
    rw [← hno] at HOU8 hol4 ⊢
    have HNO := Lib.hid hno
    have hol : (no : Int) ≤ 4 := by omega
    rw [hW7] at a0 a1 b0 b1 fp fq y0 y1
    clear hn7 hrun7 ho7 hru7 hb7 hb7a hx7 hT7 hbw8 h0 h1 h2 h3 h4 h5 hW7 hW8 hE8 hno
    go_wp2_with fail
    rw [← HW7.out, ← HW8.out]
    clear a0 a1 b0 b1 fp fq y0 y1
    go_loopw [13, 15, 77] (fun cv _ jv wq => ∃ j : Nat, j ≤ no ∧ jv = .int .i64 (j : Int) ∧ IOwn wq W8.heap.size cv (pre8 out j) ∧ Below W8.heap.size W8 wq)
      (fun _ _ jv _ => no - (intOf jv).toNat)
    case atStart => exact ⟨0, Nat.zero_le _, rfl, HE8.out, (Below.refl _ _).alloc (Nat.le_refl _) _⟩
    case round =>
      obtain ⟨j, hj, rfl, hio, hbq⟩ := hrel
      have HIO := Lib.hid hio
      have HBQ := Lib.hid hbq
      by_cases hlj : j < no
      · have hljo : j < out.length := by rw [← HNO.out]; exact hlj
        have hrd : Reads wr .u64 (.slice aoo out.length capo) out := by have := HOU8.out.below hbq (Nat.le_refl _); rw [HNO.out] at this; exact this
        obtain ⟨b2, off2, rfl, _, hc2⟩ := hrd.at hljo
        have hcc := hc2 j hljo
        have HTK := Lib.hid (unit8_take out hljo)
        have hji : (j : Int) < (no : Int) := by omega
        have HLL : Hid ((pre8 out j).length + 1 ≤ 1000) := Lib.hid (by have := pre8_length out j; omega)
        generalize out.getD j 0 = x at hcc HTK
        clear hc2 hljo hio hbq hrd
        by_cases hx8 : (x : Int) > 8
        · have HU : Hid (pre8 out (j + 1) = pre8 out j ++ [8]) := Lib.hid (by rw [HTK.out]; unfold unit8; rw [if_pos (by omega)])
          go_wp2_with (at_builtin; go_must (refine wpList_appI _ rfl _ _ rfl W8.heap.size _ (pre8 out j) rfl (HIO.out.below ((Below.refl _ _).alloc (Nat.le_refl _) _) (Nat.le_refl _)) _ _ [8] rfl (ireads_new _ _) ?c6 ?c7 ?_))
          case c6 => have := HLL.out; first | omega | (simp only [List.length_cons, List.length_nil]; omega) | (simp; omega)
          case c7 => have := HBQ.out.size; simp; omega
          intro v8 w8 ho8 hg8
          have HB9 : Hid (Below W8.heap.size W8 w8) := Lib.hid ((HBQ.out.alloc HBQ.out.size _).grown hg8 (by have := HBQ.out.size; simp; omega) (fun j hj => (HIO.out.lt j hj).1))
          have HO9 : Hid (IOwn w8 W8.heap.size v8 (pre8 out (j + 1))) := Lib.hid (by rw [HU.out]; exact ho8)
          clear ho8 hg8
          go_wp2
          go_roundw
          case rel => exact ⟨j + 1, by omega, by go_num, HO9.out, HB9.out⟩
          case measure => simp [intOf]; omega
        · have HU : Hid (pre8 out (j + 1) = pre8 out j ++ [(x : Int)]) := Lib.hid (by rw [HTK.out]; unfold unit8; rw [if_neg (by omega)])
          have hwx : IntKind.i64.wrap (x : Int) = (x : Int) := by rw [IntKind.wrap_i64]; omega
          go_wp2_with (at_builtin; go_must (refine wpList_appI _ rfl _ _ rfl W8.heap.size _ (pre8 out j) rfl (HIO.out.below ((Below.refl _ _).alloc (Nat.le_refl _) _) (Nat.le_refl _)) _ _ [(x : Int)] rfl (ireads_new _ _) ?d6 ?d7 ?_))
          case d6 => have := HLL.out; first | omega | (simp only [List.length_cons, List.length_nil]; omega) | (simp; omega)
          case d7 => have := HBQ.out.size; simp; omega
          intro v8 w8 ho8 hg8
          have HB9 : Hid (Below W8.heap.size W8 w8) := Lib.hid ((HBQ.out.alloc HBQ.out.size _).grown hg8 (by have := HBQ.out.size; simp; omega) (fun j hj => (HIO.out.lt j hj).1))
          have HO9 : Hid (IOwn w8 W8.heap.size v8 (pre8 out (j + 1))) := Lib.hid (by rw [HU.out]; exact ho8)
          clear ho8 hg8
          go_wp2
          go_roundw
          case rel => exact ⟨j + 1, by omega, by go_num, HO9.out, HB9.out⟩
          case measure => simp [intOf]; omega
      · obtain rfl : j = no := by omega
        rw [HNO.out, pre8_all] at hio
        have HI := Lib.hid hio
        obtain ⟨aol, capl, hlv⟩ := slice_val hio
        obtain ⟨ll, hll⟩ : ∃ n, n = (out.map unit8).length := ⟨_, rfl⟩
        rw [← hll] at hlv
        subst hlv
        have hbx := HT8.out.old hbq
        obtain ⟨⟨a0, a1⟩, ⟨b0, b1⟩, fp, fq⟩ := hbx.x
        have HBX := Lib.hid hbx
        have HU : Hid (IOwn wr bs (.slice aol ll capl) (out.map unit8)) := Lib.hid (HI.out.mono HSZ8.out)
        have HUM : Hid (∀ b, (Value.slice aol ll capl).ownBlock = some b → W8.heap.size ≤ b) := Lib.hid fun b hb => (HI.out.lt b hb).1
        have HL8 : Hid ((units8 done).length = k) := Lib.hid (by rw [units8_length]; exact HD.out.len)
        clear hio hbq hll hbx HIO
        go_wp2_with (at_builtin; go_must (refine wpList_appR wr _ rfl _ _ rfl rfl W8 bs _ _ _ rfl HR8.out HBQ.out HU.out HUM.out rfl ?c8 HSZ8.out ?_))
        case c8 => rw [HL8.out]; have := HK.out; have := HM4.out; omega
        intro v9 w9 hr9 hb9
        rw [← units8_snoc] at hr9
        obtain ⟨ao9, cap9, hv9, _⟩ := hr9.chs.val
        have hl9 : (units8 (done ++ [out])).length = k + 1 := by rw [units8_length, List.length_append, HD.out.len]; rfl
        rw [hl9] at hv9
        subst hv9
        have hpb := HD.out.pb
        have hbw9 : Below bs wr w9 := ((Below.refl _ _).alloc (Nat.le_trans HSZ8.out HBQ.out.size) _).trans hb9
        have hx9 := HBX.out.low hbw9 hpb
        obtain ⟨⟨a0, a1⟩, ⟨b0, b1⟩, fp, fq⟩ := hx9.x
        have HX10 := Lib.hid (hx9.setv (.slice ao9 (k + 1) cap9))
        have hlow : Below w.heap.size w7 (w9.setCell ⟨p + 1, 1, none⟩ (.slice ao9 (k + 1) cap9)) := by
          have q1 := HBX.out.lt
          have q2 := HSZ8.out
          exact ((HB8.out.trans (HBQ.out.mono (by omega))).trans (hbw9.mono (by omega))).setCell (by show w.heap.size ≤ p + 1; omega) _
        have HDL : Hid (DLJ w p bs n6 r6 c6 (w9.setCell ⟨p + 1, 1, none⟩ (.slice ao9 (k + 1) cap9)) (e : Int) ao9 cap9 (k + 1) (done ++ [out]) ao7 cap7 r7.length r7 c7) := Lib.hid ⟨HX10.out,
          hr9.keepB fun j hj _ => pj_set_other _ (by omega) _ _, by rw [List.length_append, HD.out.len]; rfl, HK.out, hpb, by have q1 := hbw9.size; have q2 := HBQ.out.size; have q3 := HSZ8.out; simp; omega,
          rfl, HRU7.out.below hlow, H87.out.1, H87.out.2, HD.out.cont.next HK.out HN7.out HRN7.out⟩
        have HK4 : Hid (k ≤ 65536) := Lib.hid (by have := HK.out; have := HM4.out; omega)
        clear hr9 hb9 hbw9 hx9 hl9 hpb hlow
        go_wp2
        go_roundw
        case rel => exact ⟨k + 1, ao9, cap9, done ++ [out], ao7, cap7, r7.length, r7, c7, congrArg (Value.int .u64) (by omega), HDL.out⟩
        case measure =>
          show n6 - ((k : Int) + 1).toNat < n6 - ((k : Int)).toNat
          have := HK.out
          omega

end Go.Proofs.YtjbodokligpcaaaGreat
