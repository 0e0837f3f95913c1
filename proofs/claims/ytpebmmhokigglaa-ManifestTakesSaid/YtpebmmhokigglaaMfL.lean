/- The document's own manifests: Take. -/
import Derived.Test.YtpebmmhokigglaaMfK
import Derived.Test.YtpebmmhokigglaaMfG
import Derived.Test.YtpebmmhokigglaaMfH
namespace Go.Proofs.Ytpebmmhokigglaa
open Go.RowKit

theorem num_subM {rest r : List Nat} {c n c' : Nat} (h : NumRel rest c n r c') : (∀ y ∈ r, y ∈ rest) ∧ r.length ≤ rest.length := by
  rcases h with ⟨_, _, rfl, _⟩ | ⟨_, _, rfl, _⟩ | ⟨_, _, rfl, _⟩
  · exact ⟨fun _ h => h, Nat.le_refl _⟩
  · exact ⟨fun y hy => by simp [hy], by simp⟩
  · exact ⟨fun _ h => h, Nat.le_refl _⟩
theorem fix_subM {rest out r : List Nat} {c c' : Nat} {m : Int} (h : FixRel rest c m out r c') : (∀ y ∈ r, y ∈ rest) ∧ r.length ≤ rest.length := by
  rcases h with ⟨_, _, rfl, _⟩ | ⟨_, _, _, rfl, _⟩ | ⟨_, _, _, _, rfl, _⟩
  · exact ⟨fun _ h => h, Nat.le_refl _⟩
  · exact ⟨fun _ h => h, Nat.le_refl _⟩
  · exact ⟨fun y hy => List.mem_of_mem_drop hy, by simp⟩
theorem num_zeroM {rest r : List Nat} {c n c' : Nat} (h : NumRel rest c n r c') (hc : c' ≠ 0) : n = 0 := by
  rcases h with ⟨_, h, _, _⟩ | ⟨_, _, _, h⟩ | ⟨_, h, _, _, _⟩
  · exact h
  · exact absurd h hc
  · exact h
theorem set_otherM (W : World) {q j : Nat} (h : j ≠ q) (i : Nat) (x : Value) : (W.setCell ⟨q, i, none⟩ x).heap[j]? = W.heap[j]? := heap_setCell_other W ⟨q, i, none⟩ j x h

/-- The boxes of the document's own Take: the result's, the manifest's, the reader's. -/
structure T15 (w : World) (q : Nat) (W : World) (m : MF) (v rs : Value) (c : Nat) : Prop where
  res : MB W w.heap.size mf0 (.slice none 0 0) 36
  mb : MB W q m v 36
  rd : W.heap[q + 1]? = some (.cells #[rs, .int .i64 (c : Int)] 64 (0, 0))
  lt : w.heap.size < q
  b : Below w.heap.size w W
section
variable {w W W' : World} {q : Nat} {m : MF} {v rs : Value} {c : Nat}
theorem T15.lt2 (h : T15 w q W m v rs c) : q + 1 < W.heap.size := (Array.getElem?_eq_some_iff.1 h.rd).1
theorem T15.low {B : Nat} (h : T15 w q W m v rs c) (hb : Below B W W') (hB : q + 1 < B) : T15 w q W' m v rs c := by
  have := h.lt
  exact ⟨(hb.block _ (by omega)).trans h.res, (hb.block _ (by omega)).trans h.mb, (hb.block _ hB).trans h.rd, h.lt, h.b.trans (hb.mono (by omega))⟩
theorem T15.old (h : T15 w q W m v rs c) (hb : Below W.heap.size W W') : T15 w q W' m v rs c := h.low hb h.lt2
theorem T15.mset (h : T15 w q W m v rs c) {m' : MF} {v' : Value} (i : Nat) (x : Value) (hm : MB (W.setCell ⟨q, i, none⟩ x) q m' v' 36) : T15 w q (W.setCell ⟨q, i, none⟩ x) m' v' rs c := by
  have := h.lt
  exact ⟨(set_otherM W (by omega) _ _).trans h.res, hm, (set_otherM W (by omega) _ _).trans h.rd, h.lt, h.b.setCell (by show w.heap.size ≤ q; omega) _⟩
theorem T15.rdr (h : T15 w q W m v rs c) (x : Value) (c' : Nat) : T15 w q ((W.setCell ⟨q + 1, 0, none⟩ x).setCell ⟨q + 1, 1, none⟩ (.int .i64 (c' : Int))) m v x c' := by
  have := h.lt
  exact ⟨(set_otherM _ (by omega) _ _).trans ((set_otherM W (by omega) _ _).trans h.res), (set_otherM _ (by omega) _ _).trans ((set_otherM W (by omega) _ _).trans h.mb), set_both h.rd, h.lt, (h.b.setCell (by show w.heap.size ≤ q + 1; omega) _).setCell (by show w.heap.size ≤ q + 1; omega) _⟩
theorem T15.part (h : T15 w q W m v rs c) {m' : MF} (hm : MB W' q m' v 36) (hg : W.grownBy W' (some q)) : T15 w q W' m' v rs c := by
  have h1 := h.lt
  have h2 := h.lt2
  exact ⟨(hg.block _ h.res.lt (fun e => by cases e; omega)).trans h.res, hm, (hg.block _ h2 (fun e => by simp at e)).trans h.rd, h.lt, h.b.grown hg h.b.size fun j hj => by cases hj; omega⟩
theorem T15.away {g : Nat} (h : T15 w q W m v rs c) (hg : W.grownBy W' (some g)) (hq : q + 1 < g) : T15 w q W' m v rs c := by
  have h1 := h.lt
  exact ⟨(hg.block _ h.res.lt (fun e => by cases e; omega)).trans h.res, (hg.block _ h.mb.lt (fun e => by cases e; omega)).trans h.mb, (hg.block _ h.lt2 (fun e => by cases e; omega)).trans h.rd, h.lt, h.b.grown hg h.b.size fun j hj => by cases hj; omega⟩
theorem T15.r (h : T15 w q W m v rs c) : W.cell? ⟨q + 1, 0, none⟩ = some rs ∧ W.cell? ⟨q + 1, 1, none⟩ = some (.int .i64 (c : Int)) ∧ W.frozen? ⟨q + 1, 0, none⟩ = false ∧ W.frozen? ⟨q + 1, 1, none⟩ = false := q_cellsK h.rd
end
/-- The boxes within a round: these, the part's, and what was there. -/
structure LB (w wr : World) (q bs : Nat) (W : World) (m : MF) (v rs : Value) (c : Nat) (p : PT) : Prop where
  bx : T15 w q W m v rs c
  pb : PB W wr.heap.size p 72
  old : ∀ j, bs ≤ j → j < wr.heap.size → W.heap[j]? = wr.heap[j]?
  qb : q + 1 < bs ∧ bs ≤ wr.heap.size
section
variable {w wr W W' : World} {q bs : Nat} {m : MF} {v rs : Value} {c : Nat} {p p' : PT}
theorem LB.call (h : LB w wr q bs W m v rs c p) (hb : Below W.heap.size W W') : LB w wr q bs W' m v rs c p :=
  ⟨h.bx.old hb, h.pb.old hb, fun j h1 h2 => (hb.block j (by have := h.pb.lt; omega)).trans (h.old j h1 h2), h.qb⟩
theorem LB.pset (h : LB w wr q bs W m v rs c p) (i : Nat) (x : Value) (hp : PB (W.setCell ⟨wr.heap.size, i, none⟩ x) wr.heap.size p' 72) : LB w wr q bs (W.setCell ⟨wr.heap.size, i, none⟩ x) m v rs c p' :=
  ⟨h.bx.away (grown_set W wr.heap.size i x) (by have := h.qb; omega), hp, fun j h1 h2 => (set_otherM W (by omega) _ _).trans (h.old j h1 h2), h.qb⟩
theorem LB.rdr (h : LB w wr q bs W m v rs c p) (x : Value) (c' : Nat) : LB w wr q bs ((W.setCell ⟨q + 1, 0, none⟩ x).setCell ⟨q + 1, 1, none⟩ (.int .i64 (c' : Int))) m v x c' p := by
  have := h.qb
  exact ⟨h.bx.rdr x c', (set_otherM _ (by omega) _ _).trans ((set_otherM W (by omega) _ _).trans h.pb), fun j h1 h2 => (set_otherM _ (by omega) _ _).trans ((set_otherM W (by omega) _ _).trans (h.old j h1 h2)), h.qb⟩
theorem LB.part (h : LB w wr q bs W m v rs c p) (hp : PB W' wr.heap.size p' 72) (hg : W.grownBy W' (some wr.heap.size)) : LB w wr q bs W' m v rs c p' := by
  have := h.qb
  exact ⟨h.bx.away hg (by omega), hp, fun j h1 h2 => (hg.block j (by have := h.pb.lt; omega) (fun e => by cases e; omega)).trans (h.old j h1 h2), h.qb⟩
end
/-- How far the document's own loop has come. -/
structure DLM (w : World) (q bs mm : Nat) (rest0 : List Nat) (c0 : Nat) (x0 : Int) (wr : World) (m : MF) (lo : Option Addr) (lc k : Nat) (done : List (Nat × Nat × List Nat)) (ao : Option Addr) (cap n : Nat) (rest : List Nat) (c : Nat) : Prop where
  bx : T15 w q wr m (.slice lo k lc) (.slice ao n cap) c
  rows : RecOwn wr bs 72 35 (.slice lo k lc) ((mkParts x0 done).map ptRow)
  dg : ∀ r ∈ mkParts x0 done, Dg r.2.2.2
  len : done.length = k
  kle : k ≤ mm
  pb : q + 1 < bs
  sz : bs ≤ wr.heap.size
  nl : n = rest.length
  rd : RdU wr w.heap.size (.slice ao n cap) rest
  by8 : ∀ y ∈ rest, y < 256
  rl : rest.length ≤ 65536
  cont : MCont mm rest0 c0 k rest c done
  x : 0 ≤ endParts x0 done ∧ endParts x0 done ≤ 1048576 + 64 * (k : Int)
/-- What the document's own Take answers. -/
def RMTake (b : List Nat) (w : World) (r : Ending) (w' : World) : Prop :=
  Below w.heap.size w w' ∧ ∃ (m : MF) (c : Nat) (v : Value), RMan b m c ∧ r = .returned (.tuple #[.agg (mfRow m v).toArray, .int .i64 (c : Int)]) ∧ PsAt w' (fun j => w.heap.size ≤ j) v m.ps
theorem rmtake_bad {b : List Nat} {w w' : World} {c : Nat} (hb : Below w.heap.size w w') (h : RMan b mf0 c) : RMTake b w (.returned (.tuple #[.agg (mfRow mf0 (.slice none 0 0)).toArray, .int .i64 (c : Int)])) w' := ⟨hb, mf0, c, _, h, rfl, ps_nil _ _⟩
theorem Try.infoPartD : (Try.prog.info? 72).map (fun i => (i.zero, i.size, i.bytes)) = some (some (.agg (ptRow (0, 0, 0, zero32)).toArray), 35, 56) := by kernel_rfl

set_option maxHeartbeats 16000000 in
set_option maxRecDepth 100000 in
theorem rmtake_any (v : Value) (b : List Nat) (w : World) (hr : Reads w .u8 v b) (hb : ∀ y ∈ b, y < 256) : Calls Try.prog 7 #[v] w (RMTake b w) := by
  obtain ⟨ao, cap, rfl, _, _, _⟩ := hr.val
  obtain ⟨W2, hW2⟩ : ∃ W2, W2 = w.alloc (.cells (mfRow mf0 (.slice none 0 0)).toArray 36) := ⟨_, rfl⟩
  have hb2 : Below w.heap.size w W2 := by rw [hW2]; exact (Below.refl _ _).alloc (Nat.le_refl _) _
  have hx2 : MB W2 w.heap.size mf0 (.slice none 0 0) 36 := by rw [hW2]; exact mb_new _ _ _ _
  rw [mf0_cells] at hW2
  have HT := Lib.hid (refFrTakeU_any _ b W2 _ (hr.at'.old hb2) hb)
  have HB2 := Lib.hid hb2
  have HX2 := Lib.hid hx2
  have HBB := Lib.hid hb
  have HW2 := Lib.hid hW2
  have HMS : Hid ((Try.prog.info? 36).map (·.size) = some (mfRow mf0 (.slice none 0 0)).toArray.size) := Lib.hid (by rw [mfRow_size dg_zero]; exact Try.sizeMFD)
  obtain ⟨nb, hnb⟩ : ∃ n, n = b.length := ⟨_, rfl⟩
  have HN := Lib.hid hnb
  rw [← hnb] at HT ⊢
  clear hr hb hb2 hx2 hW2 hnb
  go_enter Try.func7, Try.ntmps7
  go_wp2_with fail
  rw [← HW2.out]
  refine HT.out.mono ?_
  rintro r w3 ⟨v3, t, s, c0, rfl, hft, hat, hb3, hbk⟩
  obtain ⟨ao3, n3, cap3, rfl, hbk⟩ := hbk
  obtain ⟨ao3', cap3', hv, _, _, _⟩ := hat.reads.val
  obtain ⟨rfl, rfl, rfl⟩ : ao3 = ao3' ∧ n3 = t.length ∧ cap3 = cap3' := by simpa using hv
  have HF := Lib.hid hft
  have HB3 : Hid (Below w.heap.size w w3) := Lib.hid (HB2.out.trans (hb3.mono HB2.out.size))
  have HX3 := Lib.hid (HX2.out.old hb3)
  have HRU : Hid (RdU w3 w.heap.size (.slice ao3 t.length cap3) t) := Lib.hid ⟨hat.reads, ao3, t.length, cap3, rfl, hbk.imp id fun ⟨b, off, h1, h2, _⟩ => ⟨b, off, h1, h2⟩⟩
  obtain ⟨nt, hnt⟩ : ∃ n, n = t.length := ⟨_, rfl⟩
  rw [← hnt] at HRU ⊢
  have HNT := Lib.hid hnt
  clear hft hat hb3 hbk hv hnt
  by_cases hz : c0 = 0
  rotate_left
  · have tz : ((c0 : Int) != 0) = true := by simp; omega
    have tz2 : ((c0 : Int) == 0) = false := by rw [beq_eq_false_iff_ne]; omega
    have HZ := Lib.hid hz
    clear hz
    go_wp2_with (((with_reducible show wpList _ _ _ (Oper.mk none _ _ _ _ _ :: _) _ _); go_must (refine wpList_store_box rfl 36 (.tmp 2) (.tmp 31) rfl w.heap.size (mfRow mf0 (.slice none 0 0)).toArray rfl rfl _ _ HX3.out HMS.out rfl (all_one (mfRow_one _ rfl)) ?_)))
    intro WE hqe hbe _
    have HQE := Lib.hid hqe
    have HBE : Hid (Below w.heap.size w WE) := Lib.hid (HB3.out.trans hbe)
    clear hqe hbe
    go_wp2
    refine bodyPost_ret (v := .tuple #[.agg (mfRow mf0 (.slice none 0 0)).toArray, .int .i64 (c0 : Int)]) (results_row_tmp rfl _ _ w.heap.size _ _ _ _ _ rfl rfl HQE.out Try.underlying36 rfl HMS.out) rfl ?_
    exact rmtake_bad HBE.out ⟨[], c0, ⟨t, s, c0, HF.out, by rw [if_pos HZ.out]; exact ⟨rfl, rfl⟩⟩, by rw [if_pos HZ.out]; exact ⟨rfl, rfl⟩⟩
  subst hz
  by_cases hs : s < nb
  · have hsi : (s : Int) < (nb : Int) := by omega
    have HS := Lib.hid hs
    clear hs
    go_wp2_with (((with_reducible show wpList _ _ _ (Oper.mk none _ _ _ _ _ :: _) _ _); go_must (refine wpList_store_box rfl 36 (.tmp 2) (.tmp 31) rfl w.heap.size (mfRow mf0 (.slice none 0 0)).toArray rfl rfl _ _ HX3.out HMS.out rfl (all_one (mfRow_one _ rfl)) ?_)))
    intro WE hqe hbe _
    have HQE := Lib.hid hqe
    have HBE : Hid (Below w.heap.size w WE) := Lib.hid (HB3.out.trans hbe)
    clear hqe hbe
    go_wp2
    refine bodyPost_ret (v := .tuple #[.agg (mfRow mf0 (.slice none 0 0)).toArray, .int .i64 2]) (results_row_tmp rfl _ _ w.heap.size _ _ _ _ _ rfl rfl HQE.out Try.underlying36 rfl HMS.out) rfl ?_
    exact rmtake_bad (c := 2) HBE.out ⟨[], 2, ⟨t, s, 0, HF.out, by rw [if_neg (by decide), if_pos (by rw [← HN.out]; exact HS.out)]; exact ⟨rfl, rfl⟩⟩, by rw [if_pos (by decide)]; exact ⟨rfl, rfl⟩⟩
  have hsi : ¬ (s : Int) < (nb : Int) := by omega
  have HFT : Hid (FO b t 0) := Lib.hid ⟨t, s, 0, HF.out, by rw [if_neg (by decide), if_neg (by rw [← HN.out]; exact hs)]; exact ⟨rfl, rfl⟩⟩
  have H80 := Lib.hid (mf_fo_good HBB.out HFT.out rfl)
  clear hs
  obtain ⟨q, hq⟩ : ∃ q, q = w3.heap.size := ⟨_, rfl⟩
  have HQ := Lib.hid hq
  clear hq
  go_wp2_with (((with_reducible show wpList _ _ _ (Oper.mk none _ _ _ _ _ :: _) _ _); (refine wpList_store_new rfl 36 (.tmp 7) (.tmp 33) rfl w3 _ (mfRow mf0 (.slice none 0 0)).toArray rfl rfl _ HMS.out rfl (all_one (mfRow_one _ rfl)) ?_)))
  intro W4 hq4 hb4 hs4
  rw [← HQ.out] at hq4 hs4 ⊢
  have hq4 : MB W4 q mf0 (.slice none 0 0) 36 := hq4
  obtain ⟨W5, hW5⟩ : ∃ W, W = W4.alloc (.cells #[.slice ao3 nt cap3, .int .i64 0] 64) := ⟨_, rfl⟩
  have hb5 : Below W4.heap.size W4 W5 := by rw [hW5]; exact (Below.refl _ _).alloc (Nat.le_refl _) _
  have hb35 : Below w3.heap.size w3 W5 := hb4.trans (hb5.mono hb4.size)
  have HT5 : Hid (T15 w q W5 mf0 (.slice none 0 0) (.slice ao3 nt cap3) 0) := Lib.hid ⟨HX3.out.old hb35, hq4.old hb5, by rw [hW5, ← hs4]; exact heap_alloc_new _ _, by rw [HQ.out]; exact HX3.out.lt, HB3.out.trans (hb35.mono HB3.out.size)⟩
  have HRU5 := Lib.hid (HRU.out.below (hb35.mono HB3.out.size))
  have hwi := rwithin_any w.heap.size ao3 cap3 t 0 999999 W5 HT5.out.b.size (by rw [← HNT.out]; exact HRU5.out) H80.out.1
  rw [← HNT.out] at hwi
  have HWI := Lib.hid hwi
  have HW5 := Lib.hid hW5
  have HS4 := Lib.hid hs4
  clear hq4 hb4 hs4 hW5 hb5 hb35 hwi
  go_wp2_with fail
  rw [← HW5.out, HS4.out]
  refine HWI.out.mono ?_
  rintro r y1 ⟨n1, ao11, cap11, r11, c1, rfl, hn1, hru1, hb1⟩
  have HN1 := Lib.hid hn1
  have H81 : Hid ((∀ y ∈ r11, y < 256) ∧ r11.length ≤ 65536) := Lib.hid ⟨fun y hy => H80.out.1 y ((num_subM hn1).1 y hy), Nat.le_trans (num_subM hn1).2 H80.out.2.1⟩
  obtain ⟨k1, hk1⟩ : ∃ x, x = withinR n1 999999 := ⟨_, rfl⟩
  obtain ⟨d1, hd1⟩ : ∃ y, y = withinC n1 c1 999999 := ⟨_, rfl⟩
  rw [← hk1, ← hd1]
  have HK1 := Lib.hid hk1
  have HD1 := Lib.hid hd1
  have HTo := Lib.hid (HT5.out.old hb1)
  obtain ⟨X1, hX1⟩ : ∃ W, W = ((y1.setCell ⟨q, 0, none⟩ (.int .i64 (k1 : Int))).setCell ⟨q + 1, 0, none⟩ (.slice ao11 r11.length cap11)).setCell ⟨q + 1, 1, none⟩ (.int .i64 (d1 : Int)) := ⟨_, rfl⟩
  have HTm := Lib.hid (HTo.out.mset (m' := (⟨(k1 : Int), 0, 0, 0, zero32, []⟩ : MF)) (v' := .slice none 0 0) 0 _ (HTo.out.mb.set0 (k1 : Int)))
  have HT11 : Hid (T15 w q X1 (⟨(k1 : Int), 0, 0, 0, zero32, []⟩ : MF) (.slice none 0 0) (.slice ao11 r11.length cap11) d1) := Lib.hid (by rw [hX1]; exact HTm.out.rdr _ _)
  have HRU11 : Hid (RdU X1 w.heap.size (.slice ao11 r11.length cap11) r11) := Lib.hid (by rw [hX1]; have := HTo.out.lt; exact hru1.below ((((Below.refl _ _).setCell (by simp only; omega) _).setCell (by simp only; omega) _).setCell (by simp only; omega) _))
  have HNU1 := Lib.hid (rwithin_any w.heap.size ao11 cap11 r11 d1 1048576 X1 HT11.out.b.size HRU11.out H81.out.1)
  have HX11 := Lib.hid hX1
  obtain ⟨a0, a1, fa0, fa1⟩ := HTo.out.r
  obtain ⟨b0, b1, b2, b3, _⟩ := HTo.out.mb.x dg_zero
  have fb := HTo.out.mb.fz 0
  obtain ⟨e0, e1, fe0, fe1⟩ := HTm.out.r
  clear hn1 hk1 hd1 hru1 hb1 hX1
  go_wp2_with fail
  rw [← HX11.out]
  clear a0 a1 fa0 fa1 b0 b1 b2 b3 fb e0 e1 fe0 fe1 HTo HTm
  refine HNU1.out.mono ?_
  rintro r y2 ⟨n2, ao12, cap12, r12, c2, rfl, hn2, hru2, hb2⟩
  have HN2 := Lib.hid hn2
  have H82 : Hid ((∀ y ∈ r12, y < 256) ∧ r12.length ≤ 65536) := Lib.hid ⟨fun y hy => H81.out.1 y ((num_subM hn2).1 y hy), Nat.le_trans (num_subM hn2).2 H81.out.2⟩
  obtain ⟨k2, hk2⟩ : ∃ x, x = withinR n2 1048576 := ⟨_, rfl⟩
  obtain ⟨d2, hd2⟩ : ∃ y, y = withinC n2 c2 1048576 := ⟨_, rfl⟩
  rw [← hk2, ← hd2]
  have HK2 := Lib.hid hk2
  have HD2 := Lib.hid hd2
  have HTo := Lib.hid (HT11.out.old hb2)
  obtain ⟨X2, hX2⟩ : ∃ W, W = ((y2.setCell ⟨q, 1, none⟩ (.int .i64 (k2 : Int))).setCell ⟨q + 1, 0, none⟩ (.slice ao12 r12.length cap12)).setCell ⟨q + 1, 1, none⟩ (.int .i64 (d2 : Int)) := ⟨_, rfl⟩
  have HTm := Lib.hid (HTo.out.mset (m' := (⟨(k1 : Int), (k2 : Int), 0, 0, zero32, []⟩ : MF)) (v' := .slice none 0 0) 1 _ (HTo.out.mb.set1 (k2 : Int)))
  have HT12 : Hid (T15 w q X2 (⟨(k1 : Int), (k2 : Int), 0, 0, zero32, []⟩ : MF) (.slice none 0 0) (.slice ao12 r12.length cap12) d2) := Lib.hid (by rw [hX2]; exact HTm.out.rdr _ _)
  have HRU12 : Hid (RdU X2 w.heap.size (.slice ao12 r12.length cap12) r12) := Lib.hid (by rw [hX2]; have := HTo.out.lt; exact hru2.below ((((Below.refl _ _).setCell (by simp only; omega) _).setCell (by simp only; omega) _).setCell (by simp only; omega) _))
  have HNU2 := Lib.hid (rwithin_any w.heap.size ao12 cap12 r12 d2 1048576 X2 HT12.out.b.size HRU12.out H82.out.1)
  have HX12 := Lib.hid hX2
  obtain ⟨a0, a1, fa0, fa1⟩ := HTo.out.r
  obtain ⟨b0, b1, b2, b3, _⟩ := HTo.out.mb.x dg_zero
  have fb := HTo.out.mb.fz 1
  obtain ⟨e0, e1, fe0, fe1⟩ := HTm.out.r
  clear hn2 hk2 hd2 hru2 hb2 hX2
  go_wp2_with fail
  rw [← HX12.out]
  clear a0 a1 fa0 fa1 b0 b1 b2 b3 fb e0 e1 fe0 fe1 HTo HTm
  refine HNU2.out.mono ?_
  rintro r y3 ⟨n3, ao13, cap13, r13, c3, rfl, hn3, hru3, hb3⟩
  have HN3 := Lib.hid hn3
  have H83 : Hid ((∀ y ∈ r13, y < 256) ∧ r13.length ≤ 65536) := Lib.hid ⟨fun y hy => H82.out.1 y ((num_subM hn3).1 y hy), Nat.le_trans (num_subM hn3).2 H82.out.2⟩
  obtain ⟨k3, hk3⟩ : ∃ x, x = withinR n3 1048576 := ⟨_, rfl⟩
  obtain ⟨d3, hd3⟩ : ∃ y, y = withinC n3 c3 1048576 := ⟨_, rfl⟩
  rw [← hk3, ← hd3]
  have HK3 := Lib.hid hk3
  have HD3 := Lib.hid hd3
  have HTo := Lib.hid (HT12.out.old hb3)
  obtain ⟨X3, hX3⟩ : ∃ W, W = ((y3.setCell ⟨q, 2, none⟩ (.int .i64 (k3 : Int))).setCell ⟨q + 1, 0, none⟩ (.slice ao13 r13.length cap13)).setCell ⟨q + 1, 1, none⟩ (.int .i64 (d3 : Int)) := ⟨_, rfl⟩
  have HTm := Lib.hid (HTo.out.mset (m' := (⟨(k1 : Int), (k2 : Int), (k3 : Int), 0, zero32, []⟩ : MF)) (v' := .slice none 0 0) 2 _ (HTo.out.mb.set2 (k3 : Int)))
  have HT13 : Hid (T15 w q X3 (⟨(k1 : Int), (k2 : Int), (k3 : Int), 0, zero32, []⟩ : MF) (.slice none 0 0) (.slice ao13 r13.length cap13) d3) := Lib.hid (by rw [hX3]; exact HTm.out.rdr _ _)
  have HRU13 : Hid (RdU X3 w.heap.size (.slice ao13 r13.length cap13) r13) := Lib.hid (by rw [hX3]; have := HTo.out.lt; exact hru3.below ((((Below.refl _ _).setCell (by simp only; omega) _).setCell (by simp only; omega) _).setCell (by simp only; omega) _))
  have HNU3 := Lib.hid (rwithin_any w.heap.size ao13 cap13 r13 d3 1048576 X3 HT13.out.b.size HRU13.out H83.out.1)
  have HX13 := Lib.hid hX3
  obtain ⟨a0, a1, fa0, fa1⟩ := HTo.out.r
  obtain ⟨b0, b1, b2, b3, _⟩ := HTo.out.mb.x dg_zero
  have fb := HTo.out.mb.fz 2
  obtain ⟨e0, e1, fe0, fe1⟩ := HTm.out.r
  clear hn3 hk3 hd3 hru3 hb3 hX3
  go_wp2_with fail
  rw [← HX13.out]
  clear a0 a1 fa0 fa1 b0 b1 b2 b3 fb e0 e1 fe0 fe1 HTo HTm
  refine HNU3.out.mono ?_
  rintro r y4 ⟨n4, ao14, cap14, r14, c4, rfl, hn4, hru4, hb4⟩
  have HN4 := Lib.hid hn4
  have H84 : Hid ((∀ y ∈ r14, y < 256) ∧ r14.length ≤ 65536) := Lib.hid ⟨fun y hy => H83.out.1 y ((num_subM hn4).1 y hy), Nat.le_trans (num_subM hn4).2 H83.out.2⟩
  obtain ⟨k4, hk4⟩ : ∃ x, x = withinR n4 1048576 := ⟨_, rfl⟩
  obtain ⟨d4, hd4⟩ : ∃ y, y = withinC n4 c4 1048576 := ⟨_, rfl⟩
  rw [← hk4, ← hd4]
  have HK4 := Lib.hid hk4
  have HD4 := Lib.hid hd4
  have HTo := Lib.hid (HT13.out.old hb4)
  obtain ⟨X4, hX4⟩ : ∃ W, W = ((y4.setCell ⟨q, 3, none⟩ (.int .i64 (k4 : Int))).setCell ⟨q + 1, 0, none⟩ (.slice ao14 r14.length cap14)).setCell ⟨q + 1, 1, none⟩ (.int .i64 (d4 : Int)) := ⟨_, rfl⟩
  have HTm := Lib.hid (HTo.out.mset (m' := (⟨(k1 : Int), (k2 : Int), (k3 : Int), (k4 : Int), zero32, []⟩ : MF)) (v' := .slice none 0 0) 3 _ (HTo.out.mb.set3 (k4 : Int)))
  have HT14 : Hid (T15 w q X4 (⟨(k1 : Int), (k2 : Int), (k3 : Int), (k4 : Int), zero32, []⟩ : MF) (.slice none 0 0) (.slice ao14 r14.length cap14) d4) := Lib.hid (by rw [hX4]; exact HTm.out.rdr _ _)
  have HRU14 : Hid (RdU X4 w.heap.size (.slice ao14 r14.length cap14) r14) := Lib.hid (by rw [hX4]; have := HTo.out.lt; exact hru4.below ((((Below.refl _ _).setCell (by simp only; omega) _).setCell (by simp only; omega) _).setCell (by simp only; omega) _))
  have HNU4 := Lib.hid (rdigest_any w.heap.size ao14 cap14 r14 d4 X4 HT14.out.b.size HRU14.out)
  have HX14 := Lib.hid hX4
  obtain ⟨a0, a1, fa0, fa1⟩ := HTo.out.r
  obtain ⟨b0, b1, b2, b3, _⟩ := HTo.out.mb.x dg_zero
  have fb := HTo.out.mb.fz 3
  obtain ⟨e0, e1, fe0, fe1⟩ := HTm.out.r
  clear hn4 hk4 hd4 hru4 hb4 hX4
  go_wp2_with fail
  rw [← HX14.out]
  clear a0 a1 fa0 fa1 b0 b1 b2 b3 fb e0 e1 fe0 fe1 HTo HTm
  refine HNU4.out.mono ?_
  rintro r y5 ⟨out, ao15, cap15, r15, c5, rfl, hfx, hru5, hb5⟩
  have HFX := Lib.hid hfx
  have H85 : Hid ((∀ y ∈ r15, y < 256) ∧ r15.length ≤ 65536) := Lib.hid ⟨fun y hy => H84.out.1 y ((fix_subM hfx).1 y hy), Nat.le_trans (fix_subM hfx).2 H84.out.2⟩
  have HDG : Hid (Dg (dig out)) := Lib.hid (dig_ok hfx H84.out.1)
  obtain ⟨D, hD⟩ : ∃ D, D = dig out := ⟨_, rfl⟩
  rw [← hD] at HDG ⊢
  have HDD := Lib.hid hD
  have HTo := Lib.hid (HT14.out.old hb5)
  have HRUo := Lib.hid hru5
  have HAS : Hid ((Try.prog.info? 33).map (·.size) = some (vals .u8 D).toArray.size) := Lib.hid (by rw [List.size_toArray, vals_length, HDG.out.1]; exact Try.sizeDGD)
  have HFIT : Hid (4 + (vals .u8 D).toArray.size ≤ (mfRow (⟨(k1 : Int), (k2 : Int), (k3 : Int), (k4 : Int), zero32, []⟩ : MF) (.slice none 0 0)).toArray.size) := Lib.hid (by rw [List.size_toArray, vals_length, HDG.out.1, mfRow_size dg_zero]; decide)
  have HPS : Hid (_ = (mfRow (⟨(k1 : Int), (k2 : Int), (k3 : Int), (k4 : Int), D, []⟩ : MF) (.slice none 0 0)).toArray) := Lib.hid (mfRow_store (m := (⟨(k1 : Int), (k2 : Int), (k3 : Int), (k4 : Int), zero32, []⟩ : MF)) (v := .slice none 0 0) (D := D) dg_zero.1 HDG.out.1)
  have HMBo : Hid (y5.heap[q]? = some (.cells (mfRow (⟨(k1 : Int), (k2 : Int), (k3 : Int), (k4 : Int), zero32, []⟩ : MF) (.slice none 0 0)).toArray 36 (0, 0))) := Lib.hid HTo.out.mb
  clear hfx hru5 hb5 hD
  go_wp2_with (((with_reducible show wpList _ _ _ (Oper.mk none _ _ _ _ _ :: _) _ _); (refine wpList_store_part rfl 33 (.tmp 65) (.tmp 63) rfl q 4 (vals .u8 D).toArray (mfRow (⟨(k1 : Int), (k2 : Int), (k3 : Int), (k4 : Int), D, []⟩ : MF) (.slice none 0 0)).toArray rfl rfl 36 (mfRow (⟨(k1 : Int), (k2 : Int), (k3 : Int), (k4 : Int), zero32, []⟩ : MF) (.slice none 0 0)).toArray HMBo.out HAS.out HFIT.out (all_one (vals_one8 D)) HPS.out ?_)))
  intro z5 hq5 hg5 hs5
  have HTp := Lib.hid (HTo.out.part (m' := (⟨(k1 : Int), (k2 : Int), (k3 : Int), (k4 : Int), D, []⟩ : MF)) hq5 hg5)
  have hbz : Below w.heap.size y5 z5 := ⟨hg5.os, hg5.tape, hg5.output, hg5.size, fun j hj => hg5.block j (by have := HTo.out.b.size; omega) (fun e => by have := HTo.out.lt; cases e; omega)⟩
  obtain ⟨X5, hX5⟩ : ∃ W, W = (z5.setCell ⟨q + 1, 0, none⟩ (.slice ao15 r15.length cap15)).setCell ⟨q + 1, 1, none⟩ (.int .i64 (c5 : Int)) := ⟨_, rfl⟩
  have HT15 : Hid (T15 w q X5 (⟨(k1 : Int), (k2 : Int), (k3 : Int), (k4 : Int), D, []⟩ : MF) (.slice none 0 0) (.slice ao15 r15.length cap15) c5) := Lib.hid (by rw [hX5]; exact HTp.out.rdr _ _)
  have HRU15 : Hid (RdU X5 w.heap.size (.slice ao15 r15.length cap15) r15) := Lib.hid (by rw [hX5]; have := HTp.out.lt; exact (HRUo.out.below hbz).below (((Below.refl _ _).setCell (by simp only; omega) _).setCell (by simp only; omega) _))
  have HNU5 := Lib.hid (rnumber_any w.heap.size ao15 cap15 r15 c5 X5 HT15.out.b.size HRU15.out H85.out.1)
  have HX15 := Lib.hid hX5
  obtain ⟨a0, a1, fa0, fa1⟩ := HTp.out.r
  have hx := HT15.out.r
  rw [hX5] at hx
  obtain ⟨e0, e1, fe0, fe1⟩ := hx
  clear hq5 hg5 hs5 hbz hX5
  go_wp2_with fail
  rw [← HX15.out]
  clear a0 a1 fa0 fa1 e0 e1 fe0 fe1 HTo HTp HRUo
  refine HNU5.out.mono ?_
  rintro r y6 ⟨n6, ao16, cap16, r16, c6, rfl, hn6, hru6, hb6⟩
  have HN6 := Lib.hid hn6
  have H86 : Hid ((∀ y ∈ r16, y < 256) ∧ r16.length ≤ 65536) := Lib.hid ⟨fun y hy => H85.out.1 y ((num_subM hn6).1 y hy), Nat.le_trans (num_subM hn6).2 H85.out.2⟩
  have HTo := Lib.hid (HT15.out.old hb6)
  obtain ⟨X6, hX6⟩ : ∃ W, W = (y6.setCell ⟨q + 1, 0, none⟩ (.slice ao16 r16.length cap16)).setCell ⟨q + 1, 1, none⟩ (.int .i64 (c6 : Int)) := ⟨_, rfl⟩
  have HT16 : Hid (T15 w q X6 (⟨(k1 : Int), (k2 : Int), (k3 : Int), (k4 : Int), D, []⟩ : MF) (.slice none 0 0) (.slice ao16 r16.length cap16) c6) := Lib.hid (by rw [hX6]; exact HTo.out.rdr _ _)
  have HRU16 : Hid (RdU X6 w.heap.size (.slice ao16 r16.length cap16) r16) := Lib.hid (by rw [hX6]; have := HTo.out.lt; exact hru6.below (((Below.refl _ _).setCell (by simp only; omega) _).setCell (by simp only; omega) _))
  have HZN : Hid (c6 ≠ 0 → n6 = 0) := Lib.hid fun h => num_zeroM hn6 h
  have HTMK : Hid (∀ ls fin c, TPs (manyR n6 1024) r16 (manyC n6 c6 1024) ls fin c → TMan t ⟨(k1 : Int), (k2 : Int), (k3 : Int), (k4 : Int), D, mkParts (k2 : Int) ls⟩ fin c) := Lib.hid fun ls fin c htp => by
    rw [HK1.out, HK2.out, HK3.out, HK4.out, HDD.out]
    refine ⟨n1, r11, c1, n2, r12, c2, n3, r13, c3, n4, r14, c4, out, r15, c5, n6, r16, c6, ls, HN1.out, ?_, ?_, ?_, ?_, HN6.out, ?_, rfl⟩
    · rw [← HD1.out]; exact HN2.out
    · rw [← HD2.out]; exact HN3.out
    · rw [← HD3.out]; exact HN4.out
    · rw [← HD4.out]; exact HFX.out
    · exact htp
  obtain ⟨a0, a1, fa0, fa1⟩ := HTo.out.r
  have HX16 := Lib.hid hX6
  clear hn6 hru6 hb6 hX6
  go_upto_region 14 with fail
  rw [← HX16.out]
  clear a0 a1 fa0 fa1
  obtain ⟨a0, a1, fa0, fa1⟩ := HT16.out.r
  by_cases hbig : (n6 : Int) > 1024
  · have HC6 : Hid (c6 = 0) := Lib.hid (by
      by_cases h : c6 = 0
      · exact h
      · have := HZN.out h; omega)
    have hc6 : ((c6 : Int) == 0) = true := by rw [HC6.out]; rfl
    have HBG := Lib.hid (many_bad (n := n6) (c := c6) (most := 1024) (.inr (by omega)))
    go_wp2_with (((with_reducible show wpList _ _ _ (Oper.mk none _ _ _ _ _ :: _) _ _); go_must (refine wpList_store_box rfl 36 (.tmp 2) (.tmp 78) rfl w.heap.size (mfRow mf0 (.slice none 0 0)).toArray rfl rfl _ _ HT16.out.res HMS.out rfl (all_one (mfRow_one _ rfl)) ?_)))
    intro WE hqe hbe _
    have HQE := Lib.hid hqe
    have HBE : Hid (Below w.heap.size w WE) := Lib.hid (HT16.out.b.trans hbe)
    clear hqe hbe
    go_wp2
    refine bodyPost_ret (v := .tuple #[.agg (mfRow mf0 (.slice none 0 0)).toArray, .int .i64 3]) (results_row_tmp rfl _ _ w.heap.size _ _ _ _ _ rfl rfl HQE.out Try.underlying36 rfl HMS.out) rfl ?_
    refine rmtake_bad (c := 3) HBE.out ⟨t, 0, HFT.out, ?_⟩
    rw [if_neg (by decide)]
    refine ⟨_, r16, 3, HTMK.out [] r16 3 ?_, ?_⟩
    · rw [HBG.out.1, HBG.out.2, if_pos HC6.out]; exact ⟨rfl, rfl, rfl⟩
    · rw [if_pos (by unfold endC; rw [if_pos (by decide)]; decide)]
      exact ⟨by unfold endC; rw [if_pos (by decide)], rfl⟩
  have HGD := Lib.hid (many_good (n := n6) (c := c6) (most := 1024) (by omega))
  have HN1K : Hid (n6 ≤ 1024) := Lib.hid (by omega)
  have HDC : Hid (decide ((1024 : Int) < (n6 : Int)) = false) := Lib.hid (decide_eq_false hbig)
  go_cut [77] from 71 to 78 (fun ov wx => ov = .bool false ∧ wx = X6)
  case first =>
    by_cases h6 : c6 = 0
    · have hc6 : ((c6 : Int) == 0) = true := by rw [h6]; rfl
      clear h6
      go_wp2
      go_meet
      case rel => exact ⟨by first | rfl | rw [HDC.out], by first | rfl | trivial⟩
    · have hc6 : ((c6 : Int) == 0) = false := by rw [beq_eq_false_iff_ne]; omega
      clear h6
      go_wp2
      go_meet
      case rel => exact ⟨by first | rfl | rw [HDC.out], by first | rfl | trivial⟩
  case rest =>
    obtain ⟨rfl, rfl⟩ := hcut
    obtain ⟨_, b1, _, _, _⟩ := HT16.out.mb.x HDG.out
    have HX0 : Hid (0 ≤ (k2 : Int) ∧ (k2 : Int) ≤ 1048576) := Lib.hid (by have := HK2.out; have := withinR_le n2 1048576; omega)
    have HDL : Hid (DLM w q wc.heap.size n6 r16 c6 (k2 : Int) wc (⟨(k1 : Int), (k2 : Int), (k3 : Int), (k4 : Int), D, []⟩ : MF) none 0 0 [] ao16 cap16 r16.length r16 c6) := Lib.hid ⟨HT16.out, recOwn_nil _ _ _ _, (by intro r hr; cases hr), rfl, Nat.zero_le _, HT16.out.lt2, Nat.le_refl _, rfl, HRU16.out, H86.out.1, H86.out.2, mcont_start, (by have := HX0.out; exact ⟨this.1, by show (k2 : Int) ≤ _; omega⟩)⟩
    obtain ⟨bs, hbs⟩ : ∃ bs, bs = wc.heap.size := ⟨_, rfl⟩
    rw [← hbs] at HDL
    have HBS := Lib.hid hbs
    have hn1k : (n6 : Int) ≤ 1024 := by have := HN1K.out; omega
    clear a0 a1 fa0 fa1 hbs hbig
    go_wp2
    clear b1
    go_loopw [10, 11, 12] (fun xv iv _ wr => ∃ (k : Nat) (lo : Option Addr) (lc : Nat) (done : List (Nat × Nat × List Nat)) (ao : Option Addr) (cap n : Nat) (rest : List Nat) (c : Nat), iv = .int .u64 (k : Int) ∧ xv = .int .i64 (endParts (k2 : Int) done) ∧ DLM w q bs n6 r16 c6 (k2 : Int) wr (⟨(k1 : Int), (k2 : Int), (k3 : Int), (k4 : Int), D, []⟩ : MF) lo lc k done ao cap n rest c)
      (fun _ iv _ _ => n6 - (intOf iv).toNat)
    case atStart => exact ⟨0, none, 0, [], ao16, cap16, r16.length, r16, c6, rfl, rfl, HDL.out⟩
    case round =>
      obtain ⟨k, lo, lc, done, ao, cap, n, rest, c, rfl, rfl, ht⟩ := hrel
      have HD := Lib.hid ht
      obtain ⟨a0, a1, fa0, fa1⟩ := ht.bx.r
      by_cases hgo : c = 0 ∧ k < n6
      rotate_left

      · have HTP : Hid (TMan t ⟨(k1 : Int), (k2 : Int), (k3 : Int), (k4 : Int), D, mkParts (k2 : Int) done⟩ rest c) := Lib.hid (HTMK.out done rest c (by
          rw [HGD.out.1, HGD.out.2]
          by_cases hc : c = 0
          · have hkn : k = n6 := by have := ht.kle; have : ¬ k < n6 := fun h => hgo ⟨hc, h⟩; omega
            have h2 := ht.cont
            rw [hkn] at h2
            exact h2.done
          · exact ht.cont.stop hc))
        have HEND := Lib.hid (rend_any ao n cap c wr)
        obtain ⟨c9, hc9⟩ : ∃ x, x = endC n c := ⟨_, rfl⟩
        rw [← hc9] at HEND
        have HC9 : Hid (c9 = endC rest.length c) := Lib.hid (by rw [← ht.nl]; exact hc9)
        have hw : (((c : Int) == 0) = false ∧ (k : Int) < (n6 : Int)) ∨ ¬ (k : Int) < (n6 : Int) := by
          by_cases hkn : k < n6
          · exact .inl ⟨by rw [beq_eq_false_iff_ne]; intro h; exact hgo ⟨by omega, hkn⟩, by omega⟩
          · exact .inr (by omega)
        have HPSR : Hid (PsAt wr (fun j => bs ≤ j) (.slice lo k lc) (mkParts (k2 : Int) done)) := Lib.hid ⟨ht.rows.at'.mono fun j _ hj => hj.2, ht.dg⟩
        have HBSQ : Hid (q + 1 < bs) := Lib.hid ht.pb
        obtain ⟨M, hM⟩ : ∃ M : MF, M = ⟨(k1 : Int), (k2 : Int), (k3 : Int), (k4 : Int), D, mkParts (k2 : Int) done⟩ := ⟨_, rfl⟩
        have htx : T15 w q wr M (.slice lo k lc) (.slice ao n cap) c := by rw [hM]; exact ⟨ht.bx.res, ht.bx.mb, ht.bx.rd, ht.bx.lt, ht.bx.b⟩
        have HTX := Lib.hid htx
        rw [← hM] at HTP
        have HPSM : Hid (PsAt wr (fun j => bs ≤ j) (.slice lo k lc) M.ps) := Lib.hid (by rw [hM]; exact HPSR.out)
        have HDM : Hid (Dg M.prev) := Lib.hid (by rw [hM]; exact HDG.out)
        have HMS2 : Hid ((Try.prog.info? 36).map (·.size) = some (mfRow M (.slice lo k lc)).toArray.size) := Lib.hid (by rw [mfRow_size HDM.out]; exact Try.sizeMFD)
        have HCKA : Hid (∀ W, Below wr.heap.size wr W → Calls Try.prog 27 #[.agg (mfRow M (.slice lo k lc)).toArray] W fun e w' => e = .returned (.int .i64 (mchk M : Int)) ∧ Below W.heap.size W w') := Lib.hid fun W hb => rmcheck_any M _ W _ (HPSM.out.old hb) HDM.out
        have HSZ2 : Hid ((mfRow mf0 (.slice none 0 0)).toArray.size = (mfRow M (.slice lo k lc)).toArray.size) := Lib.hid (by rw [mfRow_size dg_zero, mfRow_size HDM.out])
        clear hgo ht hc9 htx hM
        rcases hw with ⟨tc, tk⟩ | tk
        all_goals (
          go_wp2_with fail
          refine HEND.out.mono ?_
          rintro r w7 ⟨rfl, hb7⟩
          have HT7 := Lib.hid (HTX.out.old hb7)
          have HB7 := Lib.hid hb7
          clear hb7 a0 a1 fa0 fa1
          by_cases hz9 : c9 = 0
          rotate_left
          · have tz : ((c9 : Int) != 0) = true := by rw [bne_iff_ne]; omega
            have HZ9 := Lib.hid hz9
            clear hz9
            go_wp2_with (((with_reducible show wpList _ _ _ (Oper.mk none _ _ _ _ _ :: _) _ _); go_must (refine wpList_store_box rfl 36 (.tmp 2) (.tmp 125) rfl w.heap.size (mfRow mf0 (.slice none 0 0)).toArray rfl rfl _ _ HT7.out.res HMS.out rfl (all_one (mfRow_one _ rfl)) ?_)))
            intro WE hqe hbe _
            have HQE := Lib.hid hqe
            have HBE : Hid (Below w.heap.size w WE) := Lib.hid (HT7.out.b.trans hbe)
            clear hqe hbe
            go_wp2
            refine bodyPost_ret (v := .tuple #[.agg (mfRow mf0 (.slice none 0 0)).toArray, .int .i64 (c9 : Int)]) (results_row_tmp rfl _ _ w.heap.size _ _ _ _ _ rfl rfl HQE.out Try.underlying36 rfl HMS.out) rfl ?_
            refine rmtake_bad HBE.out ⟨t, 0, HFT.out, ?_⟩
            rw [if_neg (by decide)]
            exact ⟨_, rest, c, HTP.out, by rw [← HC9.out, if_pos HZ9.out]; exact ⟨rfl, rfl⟩⟩
          have tz : ((c9 : Int) != 0) = false := by rw [hz9]; rfl
          have HZ9 : Hid (¬ endC rest.length c ≠ 0) := Lib.hid (by rw [← HC9.out, hz9]; simp)
          have hck := HCKA.out w7 HB7.out
          obtain ⟨c10, hc10⟩ : ∃ x, x = mchk M := ⟨_, rfl⟩
          rw [← hc10] at hck
          have HC10 := Lib.hid hc10
          have HCK := Lib.hid hck
          clear hz9 hck hc10
          go_wp2_with (((with_reducible show wpList _ _ _ (Oper.mk (some 127) _ _ _ _ _ :: _) _ _); go_must (refine wpList_load_row rfl 36 (.tmp 7) rfl q rfl _ (mfRow M (.slice lo k lc)).toArray _ _ HT7.out.mb Try.underlying36 rfl HMS2.out ?_)))
          refine HCK.out.mono ?_
          rintro r w8 ⟨rfl, hb8⟩
          have HT8 := Lib.hid (HT7.out.old hb8)
          have HB8 : Hid (Below wr.heap.size wr w8) := Lib.hid (HB7.out.trans (hb8.mono HB7.out.size))
          clear hb8
          by_cases hz10 : c10 = 0
          rotate_left
          · have tz2 : ((c10 : Int) != 0) = true := by rw [bne_iff_ne]; omega
            have HZ10 := Lib.hid hz10
            clear hz10
            go_wp2_with (((with_reducible show wpList _ _ _ (Oper.mk none _ _ _ _ _ :: _) _ _); go_must (refine wpList_store_box rfl 36 (.tmp 2) (.tmp 131) rfl w.heap.size (mfRow mf0 (.slice none 0 0)).toArray rfl rfl _ _ HT8.out.res HMS.out rfl (all_one (mfRow_one _ rfl)) ?_)))
            intro WE hqe hbe _
            have HQE := Lib.hid hqe
            have HBE : Hid (Below w.heap.size w WE) := Lib.hid (HT8.out.b.trans hbe)
            clear hqe hbe
            go_wp2
            refine bodyPost_ret (v := .tuple #[.agg (mfRow mf0 (.slice none 0 0)).toArray, .int .i64 (c10 : Int)]) (results_row_tmp rfl _ _ w.heap.size _ _ _ _ _ rfl rfl HQE.out Try.underlying36 rfl HMS.out) rfl ?_
            refine rmtake_bad HBE.out ⟨t, 0, HFT.out, ?_⟩
            rw [if_neg (by decide)]
            refine ⟨_, rest, c, HTP.out, ?_⟩
            rw [if_neg HZ9.out]
            exact ⟨HC10.out, by rw [if_neg HZ10.out]⟩
          have tz2 : ((c10 : Int) != 0) = false := by rw [hz10]; rfl
          have HZ10 := Lib.hid hz10
          clear hz10
          go_wp2_with (first
            | ((with_reducible show wpList _ _ _ (Oper.mk (some 133) _ _ _ _ _ :: _) _ _); go_must (refine wpList_load_row rfl 36 (.tmp 7) rfl q rfl _ (mfRow M (.slice lo k lc)).toArray _ _ HT8.out.mb Try.underlying36 rfl HMS2.out ?_))
            | ((with_reducible show wpList _ _ _ (Oper.mk none _ _ _ _ _ :: _) _ _); go_must (refine wpList_store_box rfl 36 (.tmp 2) (.tmp 133) rfl w.heap.size (mfRow M (.slice lo k lc)).toArray rfl rfl _ _ HT8.out.res HMS2.out HSZ2.out (all_one (mfRow_one _ rfl)) ?_)))
          intro WE hqe hbe hoe
          have HQE := Lib.hid hqe
          have HBE : Hid (Below w.heap.size w WE) := Lib.hid (HT8.out.b.trans hbe)
          have HPE : Hid (PsAt WE (fun j => w.heap.size ≤ j) (.slice lo k lc) M.ps) := Lib.hid ((((HPSM.out.old HB8.out).keep ⟨hbe.size, fun j hj hB => hoe j (by have := HBSQ.out; have := HT8.out.lt; omega)⟩).mono fun j _ hB => by have := HBSQ.out; have := HT8.out.lt; omega))
          clear hqe hbe hoe
          go_wp2
          refine bodyPost_ret (v := .tuple #[.agg (mfRow M (.slice lo k lc)).toArray, .int .i64 0]) (results_row_tmp rfl _ _ w.heap.size _ _ _ _ _ rfl rfl HQE.out Try.underlying36 rfl HMS2.out) rfl ?_
          refine ⟨HBE.out, M, 0, _, ⟨t, 0, HFT.out, ?_⟩, rfl, HPE.out⟩
          rw [if_neg (by decide)]
          refine ⟨_, rest, c, HTP.out, ?_⟩
          rw [if_neg HZ9.out, ← HC10.out, HZ10.out]
          exact ⟨rfl, by rw [if_pos rfl]⟩)

      obtain ⟨hc0, hkn⟩ := hgo
      subst hc0
      have tc : (((0 : Nat) : Int) == 0) = true := rfl
      have hkni : (k : Int) < (n6 : Int) := by omega
      have HK : Hid (k < n6) := Lib.hid hkn
      obtain ⟨x, hx⟩ : ∃ x, x = endParts (k2 : Int) done := ⟨_, rfl⟩
      rw [← hx]
      have HXX := Lib.hid hx
      obtain ⟨g, hg⟩ : ∃ g, g = wr.heap.size := ⟨_, rfl⟩
      have HG := Lib.hid hg
      have HSZ0 : Hid ((Try.prog.info? 72).map (·.size) = some (ptRow (x, 0, 0, zero32)).toArray.size) := Lib.hid (by rw [ptRow_size dg_zero]; exact Try.sizePTD)
      clear hkn hx ht
      go_wp2_with (((with_reducible show wpList _ _ _ (Oper.mk none _ _ _ _ _ :: _) _ _); go_must (refine wpList_store_new rfl 72 (.tmp 12) (.tmp 92) rfl wr _ (ptRow (x, 0, 0, zero32)).toArray rfl rfl _ HSZ0.out rfl (all_one (ptRow_one _)) ?_)))
      intro V0 hq0 hb0 hs0
      have hl0 : LB w wr q bs V0 (⟨(k1 : Int), (k2 : Int), (k3 : Int), (k4 : Int), D, []⟩ : MF) (.slice lo k lc) (.slice ao n cap) 0 (x, 0, 0, zero32) := ⟨HD.out.bx.old hb0, hq0, fun j _ h2 => hb0.block j h2, HD.out.pb, HD.out.sz⟩
      have HL0 := Lib.hid hl0
      have HR0 : Hid (RdU V0 w.heap.size (.slice ao n cap) rest) := Lib.hid (HD.out.rd.below (hb0.mono HD.out.bx.b.size))
      have hwi := rwithin_any w.heap.size ao cap rest 0 64 V0 hl0.bx.b.size (by have := HR0.out; rw [HD.out.nl] at this; exact this) HD.out.by8
      rw [← HD.out.nl] at hwi
      have HWI := Lib.hid hwi
      clear hq0 hb0 hs0 hl0 hwi a0 a1 fa0 fa1
      obtain ⟨a0, a1, fa0, fa1⟩ := HL0.out.bx.r
      rw [← hg]
      go_wp2_with fail
      clear a0 a1 fa0 fa1 hg
      refine HWI.out.mono ?_
      rintro r y7 ⟨n7, ao7, cap7, r7, c7, rfl, hn7, hru7, hb7⟩
      have HN7 := Lib.hid hn7
      have HB87 : Hid ((∀ y ∈ r7, y < 256) ∧ r7.length ≤ 65536) := Lib.hid ⟨fun y hy => HD.out.by8 y ((num_subM hn7).1 y hy), Nat.le_trans (num_subM hn7).2 HD.out.rl⟩
      obtain ⟨k7, hk7⟩ : ∃ x, x = withinR n7 64 := ⟨_, rfl⟩
      obtain ⟨d7, hd7⟩ : ∃ y, y = withinC n7 c7 64 := ⟨_, rfl⟩
      rw [← hk7, ← hd7]
      have HK7 := Lib.hid hk7
      have HD7 := Lib.hid hd7
      have HLo := Lib.hid (HL0.out.call hb7)
      have hpo : PB y7 wr.heap.size (x, 0, 0, zero32) 72 := HLo.out.pb
      have HLm := Lib.hid (HLo.out.pset (p' := (x, (k7 : Int), 0, zero32)) 1 (.int .i64 (k7 : Int)) (hpo.set1 (k7 : Int)))
      rw [← HG.out] at HLm hpo
      obtain ⟨X7, hX7⟩ : ∃ W, W = ((y7.setCell ⟨g, 1, none⟩ (.int .i64 (k7 : Int))).setCell ⟨q + 1, 0, none⟩ (.slice ao7 r7.length cap7)).setCell ⟨q + 1, 1, none⟩ (.int .i64 (d7 : Int)) := ⟨_, rfl⟩
      have HLB7 : Hid (LB w wr q bs X7 (⟨(k1 : Int), (k2 : Int), (k3 : Int), (k4 : Int), D, []⟩ : MF) (.slice lo k lc) (.slice ao7 r7.length cap7) d7 (x, (k7 : Int), 0, zero32)) := Lib.hid (by rw [hX7]; exact HLm.out.rdr _ _)
      have HRU7 : Hid (RdU X7 w.heap.size (.slice ao7 r7.length cap7) r7) := Lib.hid (by
        rw [hX7]
        have h1 := HLo.out.bx.lt
        have h2 := HLo.out.qb
        have h3 := HG.out
        exact hru7.below ((((Below.refl _ _).setCell (by simp only; omega) _).setCell (by simp only; omega) _).setCell (by simp only; omega) _))
      have HNU7 := Lib.hid (rwithin_any w.heap.size ao7 cap7 r7 d7 65536 X7 HLB7.out.bx.b.size HRU7.out HB87.out.1)
      have HX7 := Lib.hid hX7
      obtain ⟨a0, a1, fa0, fa1⟩ := HLo.out.bx.r
      obtain ⟨b0, b1, b2⟩ := hpo.x
      have fb := hpo.fz 1
      obtain ⟨e0, e1, fe0, fe1⟩ := HLm.out.bx.r
      clear hn7 hk7 hd7 hru7 hb7 hX7 hpo
      go_wp2_with fail
      rw [← HX7.out]
      clear a0 a1 fa0 fa1 b0 b1 b2 fb e0 e1 fe0 fe1 HLo HLm
      refine HNU7.out.mono ?_
      rintro r y8 ⟨n8, ao8, cap8, r8, c8, rfl, hn8, hru8, hb8⟩
      have HN8 := Lib.hid hn8
      have HB88 : Hid ((∀ y ∈ r8, y < 256) ∧ r8.length ≤ 65536) := Lib.hid ⟨fun y hy => HB87.out.1 y ((num_subM hn8).1 y hy), Nat.le_trans (num_subM hn8).2 HB87.out.2⟩
      obtain ⟨k8, hk8⟩ : ∃ x, x = withinR n8 65536 := ⟨_, rfl⟩
      obtain ⟨d8, hd8⟩ : ∃ y, y = withinC n8 c8 65536 := ⟨_, rfl⟩
      rw [← hk8, ← hd8]
      have HK8 := Lib.hid hk8
      have HD8 := Lib.hid hd8
      have HLo := Lib.hid (HLB7.out.call hb8)
      have hpo : PB y8 wr.heap.size (x, (k7 : Int), 0, zero32) 72 := HLo.out.pb
      have HLm := Lib.hid (HLo.out.pset (p' := (x, (k7 : Int), (k8 : Int), zero32)) 2 (.int .i64 (k8 : Int)) (hpo.set2 (k8 : Int)))
      rw [← HG.out] at HLm hpo
      obtain ⟨X8, hX8⟩ : ∃ W, W = ((y8.setCell ⟨g, 2, none⟩ (.int .i64 (k8 : Int))).setCell ⟨q + 1, 0, none⟩ (.slice ao8 r8.length cap8)).setCell ⟨q + 1, 1, none⟩ (.int .i64 (d8 : Int)) := ⟨_, rfl⟩
      have HLB8 : Hid (LB w wr q bs X8 (⟨(k1 : Int), (k2 : Int), (k3 : Int), (k4 : Int), D, []⟩ : MF) (.slice lo k lc) (.slice ao8 r8.length cap8) d8 (x, (k7 : Int), (k8 : Int), zero32)) := Lib.hid (by rw [hX8]; exact HLm.out.rdr _ _)
      have HRU8 : Hid (RdU X8 w.heap.size (.slice ao8 r8.length cap8) r8) := Lib.hid (by
        rw [hX8]
        have h1 := HLo.out.bx.lt
        have h2 := HLo.out.qb
        have h3 := HG.out
        exact hru8.below ((((Below.refl _ _).setCell (by simp only; omega) _).setCell (by simp only; omega) _).setCell (by simp only; omega) _))
      have HNU8 := Lib.hid (rdigest_any w.heap.size ao8 cap8 r8 d8 X8 HLB8.out.bx.b.size HRU8.out)
      have HX8 := Lib.hid hX8
      obtain ⟨a0, a1, fa0, fa1⟩ := HLo.out.bx.r
      obtain ⟨b0, b1, b2⟩ := hpo.x
      have fb := hpo.fz 2
      obtain ⟨e0, e1, fe0, fe1⟩ := HLm.out.bx.r
      clear hn8 hk8 hd8 hru8 hb8 hX8 hpo
      go_wp2_with fail
      rw [← HX8.out]
      clear a0 a1 fa0 fa1 b0 b1 b2 fb e0 e1 fe0 fe1 HLo HLm
      refine HNU8.out.mono ?_
      rintro r y9 ⟨out9, ao9, cap9, r9, c9, rfl, hfx9, hru9, hb9⟩
      have HFX9 := Lib.hid hfx9
      have HB89 : Hid ((∀ y ∈ r9, y < 256) ∧ r9.length ≤ 65536) := Lib.hid ⟨fun y hy => HB88.out.1 y ((fix_subM hfx9).1 y hy), Nat.le_trans (fix_subM hfx9).2 HB88.out.2⟩
      have HDG9 : Hid (Dg (dig out9)) := Lib.hid (dig_ok hfx9 HB88.out.1)
      obtain ⟨D9, hD9⟩ : ∃ D, D = dig out9 := ⟨_, rfl⟩
      rw [← hD9] at HDG9 ⊢
      have HDD9 := Lib.hid hD9
      have HLo := Lib.hid (HLB8.out.call hb9)
      have HRUo := Lib.hid hru9
      have HAS9 : Hid ((Try.prog.info? 33).map (·.size) = some (vals .u8 D9).toArray.size) := Lib.hid (by rw [List.size_toArray, vals_length, HDG9.out.1]; exact Try.sizeDGD)
      have HFIT9 : Hid (3 + (vals .u8 D9).toArray.size ≤ (ptRow (x, (k7 : Int), (k8 : Int), zero32)).toArray.size) := Lib.hid (by rw [List.size_toArray, vals_length, HDG9.out.1, ptRow_size dg_zero]; decide)
      have HPS9 := Lib.hid (ptRow_store x (k7 : Int) (k8 : Int) (l := zero32) (D := D9) dg_zero.1 HDG9.out.1)
      have HPBo : Hid (y9.heap[g]? = some (.cells (ptRow (x, (k7 : Int), (k8 : Int), zero32)).toArray 72 (0, 0))) := Lib.hid (by rw [HG.out]; exact HLo.out.pb)
      clear hfx9 hru9 hb9 hD9
      go_wp2_with (((with_reducible show wpList _ _ _ (Oper.mk none _ _ _ _ _ :: _) _ _); (refine wpList_store_part rfl 33 (.tmp 110) (.tmp 108) rfl g 3 (vals .u8 D9).toArray (ptRow (x, (k7 : Int), (k8 : Int), D9)).toArray rfl rfl 72 (ptRow (x, (k7 : Int), (k8 : Int), zero32)).toArray HPBo.out HAS9.out HFIT9.out (all_one (vals_one8 D9)) HPS9.out ?_)))
      intro z9 hq9 hg9 hs9
      rw [HG.out] at hq9 hg9
      have HLp := Lib.hid (HLo.out.part (p' := (x, (k7 : Int), (k8 : Int), D9)) hq9 hg9)
      have hbz : Below w.heap.size y9 z9 := ⟨hg9.os, hg9.tape, hg9.output, hg9.size, fun j hj => hg9.block j (by have := HLo.out.bx.b.size; omega) (fun e => by have := HLo.out.bx.lt; have := HLo.out.qb; cases e; omega)⟩
      obtain ⟨X9, hX9⟩ : ∃ W, W = (z9.setCell ⟨q + 1, 0, none⟩ (.slice ao9 r9.length cap9)).setCell ⟨q + 1, 1, none⟩ (.int .i64 (c9 : Int)) := ⟨_, rfl⟩
      have hl9 : LB w wr q bs X9 (⟨(k1 : Int), (k2 : Int), (k3 : Int), (k4 : Int), D, []⟩ : MF) (.slice lo k lc) (.slice ao9 r9.length cap9) c9 (x, (k7 : Int), (k8 : Int), D9) := by rw [hX9]; exact HLp.out.rdr _ _
      have HRU9 : Hid (RdU X9 w.heap.size (.slice ao9 r9.length cap9) r9) := Lib.hid (by rw [hX9]; have := HLp.out.bx.lt; exact (HRUo.out.below hbz).below (((Below.refl _ _).setCell (by simp only; omega) _).setCell (by simp only; omega) _))
      have HL9 := Lib.hid hl9
      have hpb9 : PB X9 g (x, (k7 : Int), (k8 : Int), D9) 72 := by rw [HG.out]; exact hl9.pb
      have HPB9 := Lib.hid hpb9
      obtain ⟨a0, a1, fa0, fa1⟩ := HLp.out.bx.r
      obtain ⟨b0, b1, b2⟩ := hpb9.x
      obtain ⟨_, _, _, _, m36⟩ := hl9.bx.mb.x HDG.out
      have fm36 := hl9.bx.mb.fz 36
      have HX9 := Lib.hid hX9
      have HSZ9 : Hid ((Try.prog.info? 72).map (·.size) = some (ptRow (x, (k7 : Int), (k8 : Int), D9)).toArray.size) := Lib.hid (by rw [ptRow_size HDG9.out]; exact Try.sizePTD)
      have hr35 : (ptRow (x, (k7 : Int), (k8 : Int), D9)).length = 35 := ptRow_len HDG9.out
      have HRL := Lib.hid (fold_put35 hr35)
      have HROW9 : Hid (RecOwn X9 bs 72 35 (.slice lo k lc) ((mkParts (k2 : Int) done).map ptRow)) := Lib.hid (HD.out.rows.keep fun j hj => by
        obtain ⟨h1, h2, _⟩ := HD.out.rows.block hj
        exact hl9.old j h1 h2)
      have HRA : Hid (RecOwn (X9.alloc (.cells (ptRow (x, (k7 : Int), (k8 : Int), D9)).toArray 72)) bs 72 35 (.slice lo k lc) ((mkParts (k2 : Int) done).map ptRow)) := Lib.hid (HROW9.out.keep fun j hj => by
        obtain ⟨h1, h2, _⟩ := HROW9.out.block hj
        exact Below.heap_alloc _ _ _ h2)
      have HLN : Hid (((mkParts (k2 : Int) done).map ptRow).length + 1 ≤ maxLen ∧ (((mkParts (k2 : Int) done).map ptRow).length + 1) * 56 ≤ 140737488355328) := Lib.hid (by
        rw [List.length_map, mkParts_length, HD.out.len]
        have := HK.out; have := HN1K.out
        unfold maxLen
        omega)
      have HSB : Hid (bs ≤ (X9.alloc (.cells (ptRow (x, (k7 : Int), (k8 : Int), D9)).toArray 72)).heap.size) := Lib.hid (by have := hl9.pb.lt; have := hl9.qb; simp; omega)
      have hk64 : k7 ≤ 64 := by rw [HK7.out]; exact withinR_le _ _
      have hxb := HD.out.x
      rw [← HXX.out] at hxb
      have hwr : wrap64 (x + (k7 : Int)) = x + (k7 : Int) := IntWalk.wrap64_in _ (by have := HK.out; have := HN1K.out; omega)
      have HWR := Lib.hid hwr
      have HXB := Lib.hid (And.intro hxb hk64)
      rw [hX9] at b0 b1 b2 m36 fm36
      clear hq9 hg9 hs9 hbz hX9 hl9 hpb9 hk64 hxb
      go_upto_region 24 with fail
      rw [← HX9.out]
      rw [← HX9.out] at b0 b1 b2 m36 fm36
      clear a0 a1 fa0 fa1
      go_wp2_with (first
        | ((with_reducible show wpList _ _ _ (Oper.mk (some 117) _ _ _ _ _ :: _) _ _); go_must (refine wpList_load_row rfl 72 (.tmp 12) rfl g rfl _ (ptRow (x, (k7 : Int), (k8 : Int), D9)).toArray _ _ HPB9.out Try.underlying72 rfl HSZ9.out ?_))
        | (at_builtin; rw [HRL.out]; go_must (refine wpList_appRec _ rfl _ _ 34 rfl bs 72 (.agg (ptRow (0, 0, 0, zero32)).toArray) 35 56 Try.underlying34 Try.infoPartD rfl (by decide) (.slice lo k lc) ((mkParts (k2 : Int) done).map ptRow) rfl HRA.out (ptRow (x, (k7 : Int), (k8 : Int), D9)) hr35 (ptRow_one _) ⟨X9.heap.size, 0, none⟩ rfl (rec_cell X9 _ _) HLN.out.1 HLN.out.2 HSB.out ?_)))
      intro v' w10 ho' hg' hl'
      have hbw : Below bs X9 w10 := (((Below.refl X9.heap.size X9).alloc (Nat.le_refl _) _).mono (by have := HL9.out.pb.lt; have := HL9.out.qb; omega)).grown hg' (by have := HL9.out.pb.lt; have := HL9.out.qb; simp; omega) (fun j hj => (HROW9.out.block hj).1)
      have hqb := HL9.out.qb
      have ht10 := HL9.out.bx.low hbw hqb.1
      obtain ⟨ao10, cap10, hv10, _, _, _⟩ := ho'.val
      rw [List.length_append, List.length_map, mkParts_length, HD.out.len] at hv10
      subst hv10
      obtain ⟨_, _, _, _, n36⟩ := ht10.mb.x HDG.out
      have fn36 := ht10.mb.fz 36
      obtain ⟨W11, hW11⟩ : ∃ W, W = w10.setCell ⟨q, 36, none⟩ (.slice ao10 (k + 1) cap10) := ⟨_, rfl⟩
      have hq10 : q < bs := by omega
      have hrow11 : RecOwn W11 bs 72 35 (.slice ao10 (k + 1) cap10) (((mkParts (k2 : Int) done).map ptRow) ++ [ptRow (x, (k7 : Int), (k8 : Int), D9)]) := by
        rw [hW11]
        exact RecOwn.keep ho' fun j hj => set_otherM _ (by have := (RecOwn.block ho' hj).1; omega) _ _
      have hbx11 : T15 w q W11 (⟨(k1 : Int), (k2 : Int), (k3 : Int), (k4 : Int), D, []⟩ : MF) (.slice ao10 (k + 1) cap10) (.slice ao9 r9.length cap9) c9 := by
        rw [hW11]
        exact ht10.mset 36 _ (ht10.mb.set36 HDG.out.1 _)
      have hrd11 : RdU W11 w.heap.size (.slice ao9 r9.length cap9) r9 := by
        rw [hW11]
        have h1 := HL9.out.bx.lt
        exact (HRU9.out.below (hbw.mono (by omega))).below ((Below.refl _ _).setCell (by simp only; omega) _)
      have hxe : endParts (k2 : Int) (done ++ [(k7, k8, D9)]) = x + (k7 : Int) := by rw [endParts_snoc, ← HXX.out]
      have hsz11 : bs ≤ W11.heap.size := by rw [hW11]; have := hbw.size; have := HL9.out.pb.lt; simp; omega
      have HXE := Lib.hid hxe
      have HDL2 : Hid (DLM w q bs n6 r16 c6 (k2 : Int) W11 (⟨(k1 : Int), (k2 : Int), (k3 : Int), (k4 : Int), D, []⟩ : MF) ao10 cap10 (k + 1) (done ++ [(k7, k8, D9)]) ao9 cap9 r9.length r9 c9) := Lib.hid ⟨hbx11, by
          rw [mkParts_snoc, List.map_append, ← HXX.out]
          exact hrow11, by
          rw [mkParts_snoc]
          intro r hr
          rcases List.mem_append.1 hr with hr | hr
          · exact HD.out.dg r hr
          · rw [List.mem_singleton.1 hr]; exact HDG9.out, by rw [List.length_append, HD.out.len]; rfl, HK.out, HD.out.pb, hsz11, rfl, hrd11, HB89.out.1, HB89.out.2, by
          rw [HK7.out, HK8.out, HDD9.out]
          exact HD.out.cont.next HK.out HN7.out (by rw [← HD7.out]; exact HN8.out) (by rw [← HD8.out]; exact HFX9.out), by
          have h1 := HXB.out
          rw [hxe]
          omega⟩
      have HW11 := Lib.hid hW11
      clear hbw hqb ht10 ho' hg' hl' hrow11 hbx11 hrd11 hxe hsz11 hq10 b0 b1 b2 m36 fm36 hW11
      go_wp2
      rw [← HW11.out]
      go_roundw
      case rel => exact ⟨k + 1, ao10, cap10, done ++ [(k7, k8, D9)], ao9, cap9, r9.length, r9, c9, congrArg (Value.int .u64) (by omega), by first | rw [HXE.out] | rw [HXE.out, HWR.out], HDL2.out⟩
      case measure =>
        show n6 - ((k : Int) + 1).toNat < n6 - ((k : Int)).toNat
        have := HK.out
        omega

end Go.Proofs.Ytpebmmhokigglaa
