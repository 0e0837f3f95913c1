/- One act on a unit and a document's: the contract of Do. -/
import Derived.Test.YtnhffeppbliabaaUrP
import Derived.Test.YtnhffeppbliabaaCelY
import Derived.Test.YtnhffeppbliabaaExtB
import Derived.Deep.CutBlock
import Derived.Deep.RegionHeld3
namespace Go.Proofs.Ytnhffeppbliabaa
open Go.RowKit

theorem Try.infoU8u : (Try.prog.info? 5).map (fun i => (i.zero, i.size, i.bytes)) = some (some (.int .u8 0), 1, 1) := by kernel_rfl
theorem Owns.form3 {w : World} {base : Nat} {e : TypeId} {k : IntKind} {v : Value} {l : List Nat} (h : Owns w base e k v l) : ∃ ao cap, v = .slice ao l.length cap := by
  rcases h.2 with ⟨rfl, hn⟩ | ⟨g, cap, cur, rfl, _⟩
  · exact ⟨none, 0, by rw [hn]⟩
  · exact ⟨_, cap, rfl⟩
theorem DoU.ownedB {W W' : World} {base : Nat} {e : TypeId} {ov : Value} {own : List Nat} (h : Owns W base e .u8 ov own) (hk : ∀ j, ov.ownBlock = some j → W'.heap[j]? = W.heap[j]?) : Owns W' base e .u8 ov own := by
  refine ⟨h.1, ?_⟩
  rcases h.2 with h2 | ⟨g, cap, cur, rfl, hb, hg, r⟩
  · exact .inl h2
  · exact .inr ⟨g, cap, cur, rfl, hb, (hk g rfl).trans hg, r⟩
theorem Try.infoCell9 : (Try.prog.info? 49).map (fun i => i.size) = some 2 := by kernel_rfl
theorem Try.infoRCell9 : (Try.prog.info? 82).map (fun i => i.size) = some 2 := by kernel_rfl
theorem Try.infoRU9 : (Try.prog.info? 28).map (fun i => i.size) = some 3 := by kernel_rfl
/-- A row of bytes of which the first k were turned. -/
def Xsu (wA wr : World) (ov : Value) (l : List Nat) (k : Nat) : Prop :=
  Fr (fun j => ov.ownBlock = some j) wA wr ∧ (l = [] ∨ ∃ g cap cur, ov = .slice (some ⟨g, 0, none⟩) l.length cap ∧ wr.heap[g]? = some (.cells cur 5 (0, 0)) ∧ ∀ i, k ≤ i → i < l.length → cur[i]? = some (.int .u8 (l.getD i 0 : Nat)))
theorem Xsu.start {w : World} {base : Nat} {v : Value} {l : List Nat} (h : Owns w base 5 .u8 v l) : Xsu w w v l 0 := by
  refine ⟨Fr.refl _ _, ?_⟩
  have h0 := h
  rcases h.2 with ⟨_, hn⟩ | ⟨g, cap, cur, rfl, hb, hg, _⟩
  · exact .inl (List.length_eq_zero_iff.1 hn)
  · refine .inr ⟨g, cap, cur, rfl, hg, fun i _ hi => ?_⟩
    have := World.ownsRow.cells h0 (g := g) rfl i (.int .u8 (l.getD i 0 : Nat)) (vals_get .u8 l i hi)
    rw [Addr.add_lit, Nat.zero_add, cell_of_row w g i _ _ _ hg] at this
    exact this
theorem Xsu.at {wA wr : World} {ov : Value} {l : List Nat} {k : Nat} (h : Xsu wA wr ov l k) (hk : k < l.length) : ∃ g cur, (∃ cap, ov = .slice (some ⟨g, 0, none⟩) l.length cap) ∧ wr.heap[g]? = some (.cells cur 5 (0, 0)) ∧ cur[k]? = some (.int .u8 (l.getD k 0 : Nat)) := by
  rcases h.2 with rfl | ⟨g, cap, cur, hv, hg, hc⟩
  · simp at hk
  · exact ⟨g, cur, ⟨cap, hv⟩, hg, hc k (Nat.le_refl _) hk⟩
theorem Xsu.drew {wA wr : World} {ov : Value} {l : List Nat} {k : Nat} (h : Xsu wA wr ov l k) (n : Nat) : Xsu wA (wr.drewN n) ov l k := ⟨h.1.trans (fr_drew wr n (fun _ => False)) (fun _ _ h => h) fun _ _ h => h.elim, h.2⟩
theorem Xsu.step {wA wr : World} {g n cap : Nat} {l : List Nat} {k : Nat} (h : Xsu wA wr (.slice (some ⟨g, 0, none⟩) n cap) l k) (x : Value) : Xsu wA (wr.setCell ⟨g, k, none⟩ x) (.slice (some ⟨g, 0, none⟩) n cap) l (k + 1) := by
  refine ⟨h.1.trans (fr_set wr g k x) (fun _ _ h => h) (fun j _ hj => by subst hj; rfl), ?_⟩
  rcases h.2 with h2 | ⟨g', cap', cur, hv, hg, hc⟩
  · exact .inl h2
  · cases hv
    refine .inr ⟨g, cap, _, rfl, heap_setCell_same wr g k _ _ x hg, fun i h1 h2 => ?_⟩
    rw [Array.getElem?_setIfInBounds_ne (by omega)]
    exact hc i (by omega) h2

/-- What Do answers: the document's unit then, and whether both answered the same; and what it leaves. -/
def DoPostU (w : World) (B BD : Nat → Prop) (u m : Nat) (U M U' M' : US) (e : Ending) (w' : World) : Prop :=
  ∃ lv' b, e = .returned (.tuple #[docU M' lv', .bool b]) ∧ (U = M → b = true) ∧ UPost w B u m U' w' ∧ DocU w' (fun j => BD j ∨ w.heap.size ≤ j) lv' M'
set_option maxHeartbeats 8000000 in
set_option maxRecDepth 100000 in
theorem doU_any {w : World} {B BD BA : Nat → Prop} {u m : Nat} {U M : US} {lv bv : Value} {a : UA} (h : Un w B u m U) (hd : DocU w BD lv M) (hmo : UOk M) (hdu : ¬ BD u) (hdm : ¬ BD m) (ha : I64 a.addr) (hr : At w BA .u8 bv a.data) (hau : ¬ BA u) (ham : ¬ BA m) (h8 : ∀ y ∈ a.data, y < 256) (hl : a.data.length ≤ 300) :
    Calls Try.prog 10 #[.pointer (some ⟨u, 0, none⟩), docU M lv, .agg #[.int .i64 a.kind, .int .i64 a.epoch, .int .i64 a.addr, bv]] w (DoPostU w B BD u m U M (ustep U a) (ustep M a)) := by
  obtain ⟨ao1, cap1, rfl⟩ := hd.val
  obtain ⟨aob, capb, rfl, _, _, _⟩ := hr.reads.val
  obtain ⟨M', hM'⟩ : ∃ x, x = ustep M a := ⟨_, rfl⟩
  obtain ⟨U', hU'⟩ : ∃ x, x = ustep U a := ⟨_, rfl⟩
  have HMO' : Hid (UOk M') := Lib.hid (by rw [hM']; exact ustep_ok hmo h8)
  have HUO' : Hid (UOk U') := Lib.hid (by rw [hU']; exact ustep_ok h.ok h8)
  have HUM : Hid (U = M → U' = M') := Lib.hid fun e => by rw [hM', hU', e]
  rw [← hM', ← hU']
  have HM' := Lib.hid hM'
  have HU' := Lib.hid hU'
  obtain ⟨kind, epoch, addr, data⟩ := a
  simp only [] at ha hr h8 hl ⊢
  have HA := Lib.hid ha
  have H8 := Lib.hid h8
  have HBL := Lib.hid hl
  obtain ⟨ml, hml⟩ : ∃ n, n = M.cells.length := ⟨_, rfl⟩
  rw [← hml] at hd ⊢
  obtain ⟨W4, hW4⟩ : ∃ W4, W4 = (((w.alloc (.cells #[.int .i64 M.epoch, .int .i64 M.low, .slice ao1 ml cap1] 28)).alloc (.cells #[.int .i64 kind, .int .i64 epoch, .int .i64 addr, .slice aob data.length capb] 31)).alloc (.cells #[.int .i64 0, .int .i64 0, .slice none 0 0] 28)).alloc (.cells #[] 5) := ⟨_, rfl⟩
  have hb4 : Below w.heap.size w W4 := by rw [hW4]; exact ((((Below.refl _ _).alloc (Nat.le_refl _) _).alloc (by simp) _).alloc (by simp <;> omega) _).alloc (by simp <;> omega) _
  have hs4 : W4.heap.size = w.heap.size + 3 + 1 := by rw [hW4]; simp
  have hD4 : W4.heap[w.heap.size]? = some (.cells #[.int .i64 M.epoch, .int .i64 M.low, .slice ao1 ml cap1] 28 (0, 0)) := by
    rw [hW4, Below.heap_alloc _ _ _ (by simp <;> omega), Below.heap_alloc _ _ _ (by simp <;> omega), Below.heap_alloc _ _ _ (by simp <;> omega)]
    exact allocU_at _ rfl
  have hA4 : W4.heap[w.heap.size + 1]? = some (.cells #[.int .i64 kind, .int .i64 epoch, .int .i64 addr, .slice aob data.length capb] 31 (0, 0)) := by
    rw [hW4, Below.heap_alloc _ _ _ (by simp <;> omega), Below.heap_alloc _ _ _ (by simp <;> omega)]
    exact allocU_at _ (by simp)
  have hR4 : W4.heap[w.heap.size + 2]? = some (.cells #[.int .i64 0, .int .i64 0, .slice none 0 0] 28 (0, 0)) := by
    rw [hW4, Below.heap_alloc _ _ _ (by simp <;> omega)]
    exact allocU_at _ (by simp)
  have hO4 : Owns W4 (w.heap.size + 3) 5 .u8 (.slice (some ⟨w.heap.size + 3, 0, none⟩) 0 0) [] := by
    have h3 := owns_empty (((w.alloc (.cells #[.int .i64 M.epoch, .int .i64 M.low, .slice ao1 ml cap1] 28)).alloc (.cells #[.int .i64 kind, .int .i64 epoch, .int .i64 addr, .slice aob data.length capb] 31)).alloc (.cells #[.int .i64 0, .int .i64 0, .slice none 0 0] 28)) (w.heap.size + 3) 5 .u8 (by simp)
    rw [hW4]
    simpa using h3
  have HST4 : Hid (∀ ov w5, Owns w5 (w.heap.size + 3) 5 .u8 ov data → W4.grownBy w5 (some (w.heap.size + 3)) → DoU w ((w5.alloc (.cells #[.int .i64 0, .string ⟨#[]⟩] 82)).alloc (.cells #[.int .i64 0, .slice none 0 0] 49)) B BD u m w5.heap.size (w5.heap.size + 1 + 1) U M (.slice ao1 ml cap1) #[.int .i64 kind, .int .i64 epoch, .int .i64 addr, .slice aob data.length capb] ov data 0 ⟨#[]⟩ 0 (.slice none 0 0) ∧ Below w.heap.size w ((w5.alloc (.cells #[.int .i64 0, .string ⟨#[]⟩] 82)).alloc (.cells #[.int .i64 0, .slice none 0 0] 49))) := Lib.hid fun ov w5 ho hg => by
    have hb5 : Below w.heap.size w w5 := hb4.grown hg (by omega) (fun j hj => by cases hj; omega)
    have hs5 := hg.size
    have hb6 : Below w5.heap.size w5 ((w5.alloc (.cells #[.int .i64 0, .string ⟨#[]⟩] 82)).alloc (.cells #[.int .i64 0, .slice none 0 0] 49)) := ((Below.refl _ _).alloc (Nat.le_refl _) _).alloc (by simp) _
    have hk : ∀ j, j < w.heap.size + 3 → ((w5.alloc (.cells #[.int .i64 0, .string ⟨#[]⟩] 82)).alloc (.cells #[.int .i64 0, .slice none 0 0] 49)).heap[j]? = W4.heap[j]? := fun j hj => (hb6.block _ (by omega)).trans (hg.block j (by omega) (fun e => by cases e; omega))
    have hbw := hb5.trans (hb6.mono hb5.size)
    refine ⟨⟨(h.more (C := Kb w.heap.size w5.heap.size (w5.heap.size + 1 + 1) B) (fun j hj hB => .inl ⟨hB, hj⟩) (fun hc => ?_) (fun hc => ?_)).old hbw, DocU.grown (RecAt.mono hd fun j hj hB => .inl ⟨hB, hj⟩) hbw, (hk _ (by omega)).trans hD4, (hk _ (by omega)).trans hA4, ⟨_, _, _, (hk _ (by omega)).trans hR4⟩, DoU.owned ho fun j hj => hb6.block j (Owns.lt ho j hj).2, fun j hj => (Owns.lt ho j hj).2, ?_, ?_, by omega, fr_below hbw _, h.ult, h.mlt, h.nu, h.nm, hdu, hdm, by simp, hmo⟩, hbw⟩
    · exact hc.elim (fun hc => h.nu hc.1) fun hc => by have := h.ult; omega
    · exact hc.elim (fun hc => h.nm hc.1) fun hc => by have := h.mlt; omega
    · rw [Below.heap_alloc _ _ _ (by simp)]; exact heap_alloc_new _ _
    · exact allocU_at _ (by simp)
  have HRB : Hid (Reads W4 .u8 (.slice aob data.length capb) data) := Lib.hid (hr.old hb4).reads
  have HRW : Hid (∀ W, Fr (fun j => j = u ∨ j = m) w W → Reads W .u8 (.slice aob data.length capb) data) := Lib.hid fun W hf => (hr.keep (hf.kept BA fun j _ hB e => e.elim (fun e => hau (e ▸ hB)) fun e => ham (e ▸ hB))).reads
  have HO4 := Lib.hid hO4
  have HS4 := Lib.hid hs4
  have HW4 := Lib.hid hW4
  have HML := Lib.hid hml
  unfold docU
  clear h hd hmo hdu hdm ha hr hau ham h8 hl hM' hU' hml hW4 hb4 hs4 hD4 hA4 hR4 hO4
  go_enter Try.func10, Try.ntmps10
  go_upto_block 0 with (at_builtin; rw [← HW4.out]; go_must (refine wpList_app _ rfl _ _ 29 rfl (w.heap.size + 3) 5 (.int .u8 0) 1 Try.underlying29 Try.infoU8u rfl .u8 _ [] rfl HO4.out _ data rfl HRB.out (by decide) (by have := HBL.out; simp; omega) (by rw [HS4.out]; omega) ?_))
  intro ov w5 ho5 hg5
  have hds := HST4.out ov w5 ho5 hg5
  obtain ⟨aoo, capo, rfl⟩ := Owns.form3 ho5
  obtain ⟨l0, _, _, _⟩ := four_cells hds.1.act
  obtain ⟨s, hs⟩ : ∃ s, s = w5.heap.size := ⟨_, rfl⟩
  obtain ⟨W6, hW6⟩ : ∃ W6, W6 = (w5.alloc (.cells #[.int .i64 0, .string ⟨#[]⟩] 82)).alloc (.cells #[.int .i64 0, .slice none 0 0] 49) := ⟨_, rfl⟩
  rw [← hs, ← hW6] at hds
  have HDS := Lib.hid hds.1
  have HRD := Lib.hid (HRW.out W6 hds.1.fr)
  have HS := Lib.hid hs
  have HW6 := Lib.hid hW6
  obtain ⟨q0, q1, q2, qf⟩ := three_cells hds.1.box
  obtain ⟨a0, a1, a2, a3⟩ := four_cells hds.1.act
  clear hds ho5 hg5 hs hW6 HST4 HRB HO4
  go_upto_block 0 with fail
  rw [← HW6.out, ← HS.out]
  clear l0
  go_cut [9, 10, 11, 13] from 23 (fun nv bv kv ev wx => ∃ (nM kU : Int) (cM cU : Nat) (xk : Int) (xs : ByteArray) (ck : Int) (cd : Value) (cl : List Nat) (lv1 : Value) (t : Nat), nv = .int .i64 nM ∧ bv = .int .i64 (cM : Int) ∧ kv = .int .i64 kU ∧ ev = errV cU ∧ (U = M → nM = kU ∧ cM = cU ∧ xk = ck ∧ xs = S8 cl) ∧
    DoU w wx B BD u m s t U' M' lv1 #[.int .i64 kind, .int .i64 epoch, .int .i64 addr, .slice aob data.length capb] (.slice aoo data.length capo) data xk xs ck cd ∧ Owns wx t 5 .u8 cd cl ∧ s + 1 < t)
  case first =>
    cases z0 : ((IntKind.u64.wrap kind).tmod 8 == 0)
    rotate_left
    · have HE : Hid (M' = (useal M epoch).2.1) := Lib.hid (by rw [HM'.out]; unfold ustep; simp only []; rw [if_pos z0])
      have HEU : Hid (U' = (useal U epoch).2.1) := Lib.hid (by rw [HU'.out]; unfold ustep; simp only []; rw [if_pos z0])
      obtain ⟨n1, hn1⟩ : ∃ x, x = (useal M epoch).1 := ⟨_, rfl⟩
      obtain ⟨c1, hc1⟩ : ∃ x, x = (useal M epoch).2.2 := ⟨_, rfl⟩
      obtain ⟨k2, hk2⟩ : ∃ x, x = (useal U epoch).1 := ⟨_, rfl⟩
      obtain ⟨c2, hc2⟩ : ∃ x, x = (useal U epoch).2.2 := ⟨_, rfl⟩
      have HQ : Hid (U = M → n1 = k2 ∧ c1 = c2) := Lib.hid fun e => by rw [hn1, hk2, hc1, hc2, e]; exact ⟨rfl, rfl⟩
      have hcall := rseal_post HDS.out.doc HDS.out.mok epoch
      unfold CPostU at hcall
      rw [← HE.out, ← hn1, ← hc1] at hcall
      unfold docU at hcall
      have HC := Lib.hid hcall
      have HK2 := Lib.hid hk2
      have HC2 := Lib.hid hc2
      clear hcall hc1 hn1 hk2 hc2
      go_wp2_with fail
      refine HC.out.mono ?_
      rintro e w6 ⟨lv1, rfl, hdoc6, hb6⟩
      obtain ⟨ao2, cap2, rfl⟩ := hdoc6.val
      have hds6 := HDS.out.old hb6
      obtain ⟨W7, hW7⟩ : ∃ W7, W7 = tri w6 w.heap.size (.int .i64 M'.epoch) (.int .i64 M'.low) (.slice ao2 M'.cells.length cap2) := ⟨_, rfl⟩
      have HDS7 : Hid (DoU w W7 B BD u m s w6.heap.size U M' (.slice ao2 M'.cells.length cap2) #[.int .i64 kind, .int .i64 epoch, .int .i64 addr, .slice aob data.length capb] (.slice aoo data.length capo) data 0 ⟨#[]⟩ 0 (.slice none 0 0)) := Lib.hid (by rw [hW7]; exact HDS.out.doc' hb6 hdoc6 HMO'.out)
      have HST6 : Hid (s + 1 < w6.heap.size) := Lib.hid hds6.lt
      clear q0 q1 q2 qf a0 a1 a2 a3
      obtain ⟨q0, q1, q2, qf⟩ := three_cells hds6.box
      obtain ⟨a0, a1, a2, a3⟩ := four_cells hds6.act
      have hpc := useal_any HDS7.out.un epoch
      rw [← HEU.out, ← HK2.out, ← HC2.out] at hpc
      obtain ⟨er, her⟩ : ∃ er, er = errV c2 := ⟨_, rfl⟩
      rw [← her] at hpc
      have HER := Lib.hid her
      have HPC := Lib.hid hpc
      unfold tri at hW7
      have HW7 := Lib.hid hW7
      clear hpc hW7 hds6 hdoc6 hb6 her
      go_wp2_with fail
      rw [← HW7.out]
      refine HPC.out.mono ?_
      rintro e w8 ⟨rfl, hp8⟩
      have HS8 := Lib.hid (HDS7.out.prog hp8)
      have HT8 : Hid (s + 1 < w8.heap.size) := Lib.hid HS8.out.lt
      clear hp8
      go_wp2
      go_meet
      case rel => exact ⟨n1, k2, c1, c2, 0, _, 0, _, [], _, _, rfl, rfl, rfl, HER.out, fun e => ⟨(HQ.out e).1, (HQ.out e).2, rfl, rfl⟩, HS8.out, owns_nil _ _ _ _, HT8.out⟩
    cases z1 : ((IntKind.u64.wrap kind).tmod 8 == 1)
    rotate_left
    · have HE : Hid (M' = (uwrite M epoch addr data).1) := Lib.hid (by rw [HM'.out]; unfold ustep; simp only []; rw [if_neg (by rw [z0]; decide), if_pos z1])
      have HEU : Hid (U' = (uwrite U epoch addr data).1) := Lib.hid (by rw [HU'.out]; unfold ustep; simp only []; rw [if_neg (by rw [z0]; decide), if_pos z1])
      obtain ⟨bx, hbx⟩ : ∃ s, s = S8 data := ⟨_, rfl⟩
      have qc : (convert 29 9 (.slice aob data.length capb)).run Try.prog W6 = .ok (.string bx) W6 := by rw [hbx]; exact conv_reads _ _ _ HRD.out
      obtain ⟨c1, hc1⟩ : ∃ x, x = (uwrite M epoch addr data).2 := ⟨_, rfl⟩
      obtain ⟨c2, hc2⟩ : ∃ x, x = (uwrite U epoch addr data).2 := ⟨_, rfl⟩
      have HQ : Hid (U = M → c1 = c2) := Lib.hid fun e => by rw [hc1, hc2, e]
      have hcall := rwriteU_any HDS.out.doc HDS.out.mok epoch addr data (Nat.le_trans HBL.out (by decide))
      unfold DPostU at hcall
      rw [← HE.out, ← hc1] at hcall
      unfold docU at hcall
      rw [← hbx] at hcall
      have HBX := Lib.hid hbx
      clear hbx
      have HC := Lib.hid hcall
      have HC2 := Lib.hid hc2
      clear hcall hc1 hc2
      go_wp2_with fail
      refine HC.out.mono ?_
      rintro e w6 ⟨lv1, rfl, hdoc6, hb6⟩
      obtain ⟨ao2, cap2, rfl⟩ := hdoc6.val
      have hds6 := HDS.out.old hb6
      obtain ⟨W7, hW7⟩ : ∃ W7, W7 = tri w6 w.heap.size (.int .i64 M'.epoch) (.int .i64 M'.low) (.slice ao2 M'.cells.length cap2) := ⟨_, rfl⟩
      have HDS7 : Hid (DoU w W7 B BD u m s w6.heap.size U M' (.slice ao2 M'.cells.length cap2) #[.int .i64 kind, .int .i64 epoch, .int .i64 addr, .slice aob data.length capb] (.slice aoo data.length capo) data 0 ⟨#[]⟩ 0 (.slice none 0 0)) := Lib.hid (by rw [hW7]; exact HDS.out.doc' hb6 hdoc6 HMO'.out)
      have HST6 : Hid (s + 1 < w6.heap.size) := Lib.hid hds6.lt
      clear q0 q1 q2 qf a0 a1 a2 a3
      obtain ⟨q0, q1, q2, qf⟩ := three_cells hds6.box
      obtain ⟨a0, a1, a2, a3⟩ := four_cells hds6.act
      have hpc := uwrite_any HDS7.out.un epoch HA.out HDS7.out.own.reads H8.out
      rw [← HEU.out, ← HC2.out] at hpc
      obtain ⟨er, her⟩ : ∃ er, er = errV c2 := ⟨_, rfl⟩
      rw [← her] at hpc
      have HER := Lib.hid her
      have HPC := Lib.hid hpc
      unfold tri at hW7
      have HW7 := Lib.hid hW7
      clear hpc hW7 hds6 hdoc6 hb6 her
      go_wp2_with fail
      rw [← HW7.out]
      refine HPC.out.mono ?_
      rintro e w8 ⟨rfl, hp8⟩
      have HS8 := Lib.hid (HDS7.out.prog hp8)
      have HT8 : Hid (s + 1 < w8.heap.size) := Lib.hid HS8.out.lt
      clear hp8
      go_wp2
      go_meet
      case rel => exact ⟨0, 0, c1, c2, 0, _, 0, _, [], _, _, rfl, rfl, rfl, HER.out, fun e => ⟨rfl, HQ.out e, rfl, rfl⟩, HS8.out, owns_nil _ _ _ _, HT8.out⟩
    cases z2 : ((IntKind.u64.wrap kind).tmod 8 == 2)
    rotate_left
    · have HE : Hid (M' = (uwrite M epoch addr data).1) := Lib.hid (by rw [HM'.out]; unfold ustep; simp only []; rw [if_neg (by rw [z0]; decide), if_neg (by rw [z1]; decide), if_pos z2])
      have HEU : Hid (U' = (uwrite U epoch addr data).1) := Lib.hid (by rw [HU'.out]; unfold ustep; simp only []; rw [if_neg (by rw [z0]; decide), if_neg (by rw [z1]; decide), if_pos z2])
      obtain ⟨bx, hbx⟩ : ∃ s, s = S8 data := ⟨_, rfl⟩
      have qc : (convert 29 9 (.slice aob data.length capb)).run Try.prog W6 = .ok (.string bx) W6 := by rw [hbx]; exact conv_reads _ _ _ HRD.out
      obtain ⟨c1, hc1⟩ : ∃ x, x = (uwrite M epoch addr data).2 := ⟨_, rfl⟩
      obtain ⟨c2, hc2⟩ : ∃ x, x = (uwrite U epoch addr data).2 := ⟨_, rfl⟩
      have HQ : Hid (U = M → c1 = c2) := Lib.hid fun e => by rw [hc1, hc2, e]
      have hcall := rwriteU_any HDS.out.doc HDS.out.mok epoch addr data (Nat.le_trans HBL.out (by decide))
      unfold DPostU at hcall
      rw [← HE.out, ← hc1] at hcall
      unfold docU at hcall
      rw [← hbx] at hcall
      have HBX := Lib.hid hbx
      clear hbx
      have HC := Lib.hid hcall
      have HC2 := Lib.hid hc2
      clear hcall hc1 hc2
      go_wp2_with fail
      refine HC.out.mono ?_
      rintro e w6 ⟨lv1, rfl, hdoc6, hb6⟩
      obtain ⟨ao2, cap2, rfl⟩ := hdoc6.val
      have hds6 := HDS.out.old hb6
      obtain ⟨W7, hW7⟩ : ∃ W7, W7 = tri w6 w.heap.size (.int .i64 M'.epoch) (.int .i64 M'.low) (.slice ao2 M'.cells.length cap2) := ⟨_, rfl⟩
      have HDS7 : Hid (DoU w W7 B BD u m s w6.heap.size U M' (.slice ao2 M'.cells.length cap2) #[.int .i64 kind, .int .i64 epoch, .int .i64 addr, .slice aob data.length capb] (.slice aoo data.length capo) data 0 ⟨#[]⟩ 0 (.slice none 0 0)) := Lib.hid (by rw [hW7]; exact HDS.out.doc' hb6 hdoc6 HMO'.out)
      have HST6 : Hid (s + 1 < w6.heap.size) := Lib.hid hds6.lt
      clear q0 q1 q2 qf a0 a1 a2 a3
      obtain ⟨q0, q1, q2, qf⟩ := three_cells hds6.box
      obtain ⟨a0, a1, a2, a3⟩ := four_cells hds6.act
      have hpc := uwrite_any HDS7.out.un epoch HA.out HDS7.out.own.reads H8.out
      rw [← HEU.out, ← HC2.out] at hpc
      obtain ⟨er, her⟩ : ∃ er, er = errV c2 := ⟨_, rfl⟩
      rw [← her] at hpc
      have HER := Lib.hid her
      have HPC := Lib.hid hpc
      unfold tri at hW7
      have HW7 := Lib.hid hW7
      clear hpc hW7 hds6 hdoc6 hb6 her
      go_wp2_with fail
      rw [← HW7.out]
      refine HPC.out.mono ?_
      rintro e w8 ⟨rfl, hp8⟩
      have HS8 := Lib.hid (HDS7.out.prog hp8)
      have HT8 : Hid (s + 1 < w8.heap.size) := Lib.hid HS8.out.lt
      clear hp8
      go_wp2
      go_meet
      case rel => exact ⟨0, 0, c1, c2, 0, _, 0, _, [], _, _, rfl, rfl, rfl, HER.out, fun e => ⟨rfl, HQ.out e, rfl, rfl⟩, HS8.out, owns_nil _ _ _ _, HT8.out⟩
    cases z3 : ((IntKind.u64.wrap kind).tmod 8 == 3)
    rotate_left
    · have HE : Hid (M' = (ufill M epoch addr).1) := Lib.hid (by rw [HM'.out]; unfold ustep; simp only []; rw [if_neg (by rw [z0]; decide), if_neg (by rw [z1]; decide), if_neg (by rw [z2]; decide), if_pos z3])
      have HEU : Hid (U' = (ufill U epoch addr).1) := Lib.hid (by rw [HU'.out]; unfold ustep; simp only []; rw [if_neg (by rw [z0]; decide), if_neg (by rw [z1]; decide), if_neg (by rw [z2]; decide), if_pos z3])
      obtain ⟨c1, hc1⟩ : ∃ x, x = (ufill M epoch addr).2 := ⟨_, rfl⟩
      obtain ⟨c2, hc2⟩ : ∃ x, x = (ufill U epoch addr).2 := ⟨_, rfl⟩
      have HQ : Hid (U = M → c1 = c2) := Lib.hid fun e => by rw [hc1, hc2, e]
      have hcall := rfillU_any HDS.out.doc HDS.out.mok epoch addr
      unfold DPostU at hcall
      rw [← HE.out, ← hc1] at hcall
      unfold docU at hcall
      have HC := Lib.hid hcall
      have HC2 := Lib.hid hc2
      clear hcall hc1 hc2
      go_wp2_with fail
      refine HC.out.mono ?_
      rintro e w6 ⟨lv1, rfl, hdoc6, hb6⟩
      obtain ⟨ao2, cap2, rfl⟩ := hdoc6.val
      have hds6 := HDS.out.old hb6
      obtain ⟨W7, hW7⟩ : ∃ W7, W7 = tri w6 w.heap.size (.int .i64 M'.epoch) (.int .i64 M'.low) (.slice ao2 M'.cells.length cap2) := ⟨_, rfl⟩
      have HDS7 : Hid (DoU w W7 B BD u m s w6.heap.size U M' (.slice ao2 M'.cells.length cap2) #[.int .i64 kind, .int .i64 epoch, .int .i64 addr, .slice aob data.length capb] (.slice aoo data.length capo) data 0 ⟨#[]⟩ 0 (.slice none 0 0)) := Lib.hid (by rw [hW7]; exact HDS.out.doc' hb6 hdoc6 HMO'.out)
      have HST6 : Hid (s + 1 < w6.heap.size) := Lib.hid hds6.lt
      clear q0 q1 q2 qf a0 a1 a2 a3
      obtain ⟨q0, q1, q2, qf⟩ := three_cells hds6.box
      obtain ⟨a0, a1, a2, a3⟩ := four_cells hds6.act
      have hpc := ufill_any HDS7.out.un epoch HA.out
      rw [← HEU.out, ← HC2.out] at hpc
      obtain ⟨er, her⟩ : ∃ er, er = errV c2 := ⟨_, rfl⟩
      rw [← her] at hpc
      have HER := Lib.hid her
      have HPC := Lib.hid hpc
      unfold tri at hW7
      have HW7 := Lib.hid hW7
      clear hpc hW7 hds6 hdoc6 hb6 her
      go_wp2_with fail
      rw [← HW7.out]
      refine HPC.out.mono ?_
      rintro e w8 ⟨rfl, hp8⟩
      have HS8 := Lib.hid (HDS7.out.prog hp8)
      have HT8 : Hid (s + 1 < w8.heap.size) := Lib.hid HS8.out.lt
      clear hp8
      go_wp2
      go_meet
      case rel => exact ⟨0, 0, c1, c2, 0, _, 0, _, [], _, _, rfl, rfl, rfl, HER.out, fun e => ⟨rfl, HQ.out e, rfl, rfl⟩, HS8.out, owns_nil _ _ _ _, HT8.out⟩
    cases z4 : ((IntKind.u64.wrap kind).tmod 8 == 4)
    rotate_left
    · have HE : Hid (M' = M) := Lib.hid (by rw [HM'.out]; unfold ustep; simp only []; rw [if_neg (by rw [z0]; decide), if_neg (by rw [z1]; decide), if_neg (by rw [z2]; decide), if_neg (by rw [z3]; decide), if_pos z4])
      have HEU : Hid (U' = U) := Lib.hid (by rw [HU'.out]; unfold ustep; simp only []; rw [if_neg (by rw [z0]; decide), if_neg (by rw [z1]; decide), if_neg (by rw [z2]; decide), if_neg (by rw [z3]; decide), if_pos z4])
      obtain ⟨xk, hxk⟩ : ∃ x, x = (uread M epoch addr).1.1 := ⟨_, rfl⟩
      obtain ⟨xs, hxs⟩ : ∃ x, x = S8 (uread M epoch addr).1.2 := ⟨_, rfl⟩
      obtain ⟨c1, hc1⟩ : ∃ x, x = (uread M epoch addr).2 := ⟨_, rfl⟩
      obtain ⟨ck, hck⟩ : ∃ x, x = (uread U epoch addr).1.1 := ⟨_, rfl⟩
      obtain ⟨cl, hcl⟩ : ∃ x, x = (uread U epoch addr).1.2 := ⟨_, rfl⟩
      obtain ⟨c2, hc2⟩ : ∃ x, x = (uread U epoch addr).2 := ⟨_, rfl⟩
      have HQ : Hid (U = M → c1 = c2 ∧ xk = ck ∧ xs = S8 cl) := Lib.hid fun e => by rw [hc1, hc2, hxk, hck, hxs, hcl, e]; exact ⟨rfl, rfl, rfl⟩
      have hcall := rreadU_any HDS.out.doc HDS.out.mok epoch addr
      unfold docU dCell at hcall
      rw [← hxk, ← hxs, ← hc1] at hcall
      have HC := Lib.hid hcall
      have HCK := Lib.hid hck
      have HCL := Lib.hid hcl
      have HC2 := Lib.hid hc2
      clear hcall hc1 hxk hxs hck hcl hc2
      go_wp2_with fail
      refine HC.out.mono ?_
      rintro e w6 ⟨rfl, hb6⟩
      have hds6 := HDS.out.old hb6
      obtain ⟨W7, hW7⟩ : ∃ W7, W7 = two w6 s (.int .i64 xk) (.string xs) := ⟨_, rfl⟩
      have HDS7 : Hid (DoU w W7 B BD u m s (s + 1 + 1) U M (.slice ao1 ml cap1) #[.int .i64 kind, .int .i64 epoch, .int .i64 addr, .slice aob data.length capb] (.slice aoo data.length capo) data xk xs 0 (.slice none 0 0)) := Lib.hid (by rw [hW7]; exact hds6.setX xk xs)
      clear q0 q1 q2 qf a0 a1 a2 a3
      obtain ⟨x0, x1, xf⟩ := two_cells hds6.xb
      obtain ⟨a0, a1, a2, a3⟩ := four_cells hds6.act
      have hnn := hds6.ns
      have hne1 : ¬ s = w.heap.size + 1 := by omega
      have hne2 : ¬ w.heap.size + 1 = s := by omega
      clear hnn
      have hpc := uread_any HDS7.out.un epoch HA.out
      unfold UReadPost at hpc
      rw [← HCK.out, ← HCL.out, ← HC2.out] at hpc
      obtain ⟨er, her⟩ : ∃ er, er = errV c2 := ⟨_, rfl⟩
      rw [← her] at hpc
      have HER := Lib.hid her
      have HPC := Lib.hid hpc
      unfold two at hW7
      have HW7 := Lib.hid hW7
      clear hpc hW7 hds6 hb6 her
      go_wp2_with fail
      rw [← HW7.out]
      refine HPC.out.mono ?_
      rintro e w8 ⟨dv, rfl, ho8, hb8⟩
      have hds8 := HDS7.out.old hb8
      obtain ⟨ao8, cap8, rfl⟩ := Owns.form3 ho8
      have HS9 := Lib.hid (hds8.setC ck (.slice ao8 cl.length cap8))
      have HO9 : Hid (Owns (two w8 (s + 1) (.int .i64 ck) (.slice ao8 cl.length cap8)) (s + 1 + 1) 5 .u8 (.slice ao8 cl.length cap8) cl) := Lib.hid (by
        have hf := fr_two w8 (s + 1) (.int .i64 ck) (.slice ao8 cl.length cap8)
        have hl := HDS7.out.lt
        refine DoU.ownedB (ho8.mono (by omega)) fun j hj => hf.block j (Owns.lt ho8 j hj).2 ?_
        have := (Owns.lt ho8 j hj).1
        omega)
      obtain ⟨y0, y1, yf⟩ := two_cells hds8.cb
      unfold two at HS9 HO9
      clear hds8 ho8 hb8 x0 x1 xf a0 a1 a2 a3 hne1 hne2
      go_wp2
      go_meet
      case rel => exact ⟨0, 0, c1, c2, xk, xs, ck, _, cl, _, s + 1 + 1, rfl, rfl, rfl, HER.out, fun e => ⟨rfl, (HQ.out e).1, (HQ.out e).2.1, (HQ.out e).2.2⟩, by rw [HE.out, HEU.out]; exact HS9.out, HO9.out, Nat.lt_succ_self _⟩
    cases z5 : ((IntKind.u64.wrap kind).tmod 8 == 5)
    rotate_left
    · have HE : Hid (M' = (utrim M epoch addr).1) := Lib.hid (by rw [HM'.out]; unfold ustep; simp only []; rw [if_neg (by rw [z0]; decide), if_neg (by rw [z1]; decide), if_neg (by rw [z2]; decide), if_neg (by rw [z3]; decide), if_neg (by rw [z4]; decide), if_pos z5])
      have HEU : Hid (U' = (utrim U epoch addr).1) := Lib.hid (by rw [HU'.out]; unfold ustep; simp only []; rw [if_neg (by rw [z0]; decide), if_neg (by rw [z1]; decide), if_neg (by rw [z2]; decide), if_neg (by rw [z3]; decide), if_neg (by rw [z4]; decide), if_pos z5])
      obtain ⟨c1, hc1⟩ : ∃ x, x = (utrim M epoch addr).2 := ⟨_, rfl⟩
      obtain ⟨c2, hc2⟩ : ∃ x, x = (utrim U epoch addr).2 := ⟨_, rfl⟩
      have HQ : Hid (U = M → c1 = c2) := Lib.hid fun e => by rw [hc1, hc2, e]
      have hcall := rtrimU_any HDS.out.doc HDS.out.mok epoch addr
      unfold DPostU at hcall
      rw [← HE.out, ← hc1] at hcall
      unfold docU at hcall
      have HC := Lib.hid hcall
      have HC2 := Lib.hid hc2
      clear hcall hc1 hc2
      go_wp2_with fail
      refine HC.out.mono ?_
      rintro e w6 ⟨lv1, rfl, hdoc6, hb6⟩
      obtain ⟨ao2, cap2, rfl⟩ := hdoc6.val
      have hds6 := HDS.out.old hb6
      obtain ⟨W7, hW7⟩ : ∃ W7, W7 = tri w6 w.heap.size (.int .i64 M'.epoch) (.int .i64 M'.low) (.slice ao2 M'.cells.length cap2) := ⟨_, rfl⟩
      have HDS7 : Hid (DoU w W7 B BD u m s w6.heap.size U M' (.slice ao2 M'.cells.length cap2) #[.int .i64 kind, .int .i64 epoch, .int .i64 addr, .slice aob data.length capb] (.slice aoo data.length capo) data 0 ⟨#[]⟩ 0 (.slice none 0 0)) := Lib.hid (by rw [hW7]; exact HDS.out.doc' hb6 hdoc6 HMO'.out)
      have HST6 : Hid (s + 1 < w6.heap.size) := Lib.hid hds6.lt
      clear q0 q1 q2 qf a0 a1 a2 a3
      obtain ⟨q0, q1, q2, qf⟩ := three_cells hds6.box
      obtain ⟨a0, a1, a2, a3⟩ := four_cells hds6.act
      have hpc := utrim_any HDS7.out.un epoch addr
      rw [← HEU.out, ← HC2.out] at hpc
      obtain ⟨er, her⟩ : ∃ er, er = errV c2 := ⟨_, rfl⟩
      rw [← her] at hpc
      have HER := Lib.hid her
      have HPC := Lib.hid hpc
      unfold tri at hW7
      have HW7 := Lib.hid hW7
      clear hpc hW7 hds6 hdoc6 hb6 her
      go_wp2_with fail
      rw [← HW7.out]
      refine HPC.out.mono ?_
      rintro e w8 ⟨rfl, hp8⟩
      have HS8 := Lib.hid (HDS7.out.prog hp8)
      have HT8 : Hid (s + 1 < w8.heap.size) := Lib.hid HS8.out.lt
      clear hp8
      go_wp2
      go_meet
      case rel => exact ⟨0, 0, c1, c2, 0, _, 0, _, [], _, _, rfl, rfl, rfl, HER.out, fun e => ⟨rfl, HQ.out e, rfl, rfl⟩, HS8.out, owns_nil _ _ _ _, HT8.out⟩
    cases z6 : ((IntKind.u64.wrap kind).tmod 8 == 6)
    rotate_left
    · have HE : Hid (M' = (ucut M epoch addr).2.1) := Lib.hid (by rw [HM'.out]; unfold ustep; simp only []; rw [if_neg (by rw [z0]; decide), if_neg (by rw [z1]; decide), if_neg (by rw [z2]; decide), if_neg (by rw [z3]; decide), if_neg (by rw [z4]; decide), if_neg (by rw [z5]; decide), if_pos z6])
      have HEU : Hid (U' = (ucut U epoch addr).2.1) := Lib.hid (by rw [HU'.out]; unfold ustep; simp only []; rw [if_neg (by rw [z0]; decide), if_neg (by rw [z1]; decide), if_neg (by rw [z2]; decide), if_neg (by rw [z3]; decide), if_neg (by rw [z4]; decide), if_neg (by rw [z5]; decide), if_pos z6])
      obtain ⟨n1, hn1⟩ : ∃ x, x = (ucut M epoch addr).1 := ⟨_, rfl⟩
      obtain ⟨c1, hc1⟩ : ∃ x, x = (ucut M epoch addr).2.2 := ⟨_, rfl⟩
      obtain ⟨k2, hk2⟩ : ∃ x, x = (ucut U epoch addr).1 := ⟨_, rfl⟩
      obtain ⟨c2, hc2⟩ : ∃ x, x = (ucut U epoch addr).2.2 := ⟨_, rfl⟩
      have HQ : Hid (U = M → n1 = k2 ∧ c1 = c2) := Lib.hid fun e => by rw [hn1, hk2, hc1, hc2, e]; exact ⟨rfl, rfl⟩
      have hcall := rcutU_any HDS.out.doc HDS.out.mok epoch addr
      unfold CPostU at hcall
      rw [← HE.out, ← hn1, ← hc1] at hcall
      unfold docU at hcall
      have HC := Lib.hid hcall
      have HK2 := Lib.hid hk2
      have HC2 := Lib.hid hc2
      clear hcall hc1 hn1 hk2 hc2
      go_wp2_with fail
      refine HC.out.mono ?_
      rintro e w6 ⟨lv1, rfl, hdoc6, hb6⟩
      obtain ⟨ao2, cap2, rfl⟩ := hdoc6.val
      have hds6 := HDS.out.old hb6
      obtain ⟨W7, hW7⟩ : ∃ W7, W7 = tri w6 w.heap.size (.int .i64 M'.epoch) (.int .i64 M'.low) (.slice ao2 M'.cells.length cap2) := ⟨_, rfl⟩
      have HDS7 : Hid (DoU w W7 B BD u m s w6.heap.size U M' (.slice ao2 M'.cells.length cap2) #[.int .i64 kind, .int .i64 epoch, .int .i64 addr, .slice aob data.length capb] (.slice aoo data.length capo) data 0 ⟨#[]⟩ 0 (.slice none 0 0)) := Lib.hid (by rw [hW7]; exact HDS.out.doc' hb6 hdoc6 HMO'.out)
      have HST6 : Hid (s + 1 < w6.heap.size) := Lib.hid hds6.lt
      clear q0 q1 q2 qf a0 a1 a2 a3
      obtain ⟨q0, q1, q2, qf⟩ := three_cells hds6.box
      obtain ⟨a0, a1, a2, a3⟩ := four_cells hds6.act
      have hpc := ucut_any HDS7.out.un epoch addr
      rw [← HEU.out, ← HK2.out, ← HC2.out] at hpc
      obtain ⟨er, her⟩ : ∃ er, er = errV c2 := ⟨_, rfl⟩
      rw [← her] at hpc
      have HER := Lib.hid her
      have HPC := Lib.hid hpc
      unfold tri at hW7
      have HW7 := Lib.hid hW7
      clear hpc hW7 hds6 hdoc6 hb6 her
      go_wp2_with fail
      rw [← HW7.out]
      refine HPC.out.mono ?_
      rintro e w8 ⟨rfl, hp8⟩
      have HS8 := Lib.hid (HDS7.out.prog hp8)
      have HT8 : Hid (s + 1 < w8.heap.size) := Lib.hid HS8.out.lt
      clear hp8
      go_wp2
      go_meet
      case rel => exact ⟨n1, k2, c1, c2, 0, _, 0, _, [], _, _, rfl, rfl, rfl, HER.out, fun e => ⟨(HQ.out e).1, (HQ.out e).2, rfl, rfl⟩, HS8.out, owns_nil _ _ _ _, HT8.out⟩
    have HE : Hid (M' = M) := Lib.hid (by rw [HM'.out]; unfold ustep; simp only []; rw [if_neg (by rw [z0]; decide), if_neg (by rw [z1]; decide), if_neg (by rw [z2]; decide), if_neg (by rw [z3]; decide), if_neg (by rw [z4]; decide), if_neg (by rw [z5]; decide), if_neg (by rw [z6]; decide)])
    have HEU : Hid (U' = U) := Lib.hid (by rw [HU'.out]; unfold ustep; simp only []; rw [if_neg (by rw [z0]; decide), if_neg (by rw [z1]; decide), if_neg (by rw [z2]; decide), if_neg (by rw [z3]; decide), if_neg (by rw [z4]; decide), if_neg (by rw [z5]; decide), if_neg (by rw [z6]; decide)])
    obtain ⟨n1, hn1⟩ : ∃ x, x = (utailc M epoch).1 := ⟨_, rfl⟩
    obtain ⟨c1, hc1⟩ : ∃ x, x = ucur M epoch := ⟨_, rfl⟩
    obtain ⟨k2, hk2⟩ : ∃ x, x = (utailc U epoch).1 := ⟨_, rfl⟩
    obtain ⟨c2, hc2⟩ : ∃ x, x = (utailc U epoch).2 := ⟨_, rfl⟩
    have hq2 : (utailc M epoch).2 = c1 := by
      rw [hc1]
      unfold utailc
      split
      · rfl
      · rename_i h0
        have : ucur M epoch = 0 := Classical.not_not.1 h0
        exact this.symm
    have HQ : Hid (U = M → n1 = k2 ∧ c1 = c2) := Lib.hid fun e => by rw [hn1, hk2, hc2, e, hq2]; exact ⟨rfl, rfl⟩
    have HN1 : Hid (n1 = if c1 ≠ 0 then 0 else utail M) := Lib.hid (by
      rw [hn1, hc1]
      unfold utailc
      split <;> rfl)
    have hcall := rcurU_any (U := M) (w := W6) epoch (.slice ao1 ml cap1)
    unfold docU at hcall
    rw [← hc1] at hcall
    have HC := Lib.hid hcall
    have HK2 := Lib.hid hk2
    have HC2 := Lib.hid hc2
    clear hcall hc1 hn1 hk2 hc2 hq2
    go_wp2_with fail
    refine HC.out.mono ?_
    rintro e w6 ⟨rfl, hb6⟩
    have hds6 := HDS.out.old hb6
    clear q0 q1 q2 qf a0 a1 a2 a3
    obtain ⟨q0, q1, q2, qf⟩ := three_cells hds6.box
    obtain ⟨a0, a1, a2, a3⟩ := four_cells hds6.act
    obtain ⟨er, her⟩ : ∃ er, er = errV c2 := ⟨_, rfl⟩
    have HER := Lib.hid her
    have HPC : Hid (∀ W, Below w6.heap.size w6 W → Calls Try.prog 27 #[.pointer (some ⟨u, 0, none⟩), .int .i64 epoch] W fun r w' => r = .returned (.tuple #[.int .i64 k2, er]) ∧ Below W.heap.size W w') := Lib.hid fun W hb => by
      have h := utailc_any (hds6.un.old hb) epoch
      rw [← HK2.out, ← HC2.out, ← her] at h
      exact h
    have HDS6 := Lib.hid hds6
    clear her hds6 hb6
    by_cases hz : c1 = 0
    rotate_left
    · have hN : n1 = 0 := by rw [HN1.out, if_pos hz]
      have hzi : ¬ (c1 : Int) = 0 := by omega
      clear hz
      go_wp2_with fail
      refine (HPC.out _ (Below.refl _ _)).mono ?_
      rintro e w8 ⟨rfl, hb8⟩
      have HS8 := Lib.hid (HDS6.out.old hb8)
      have HN := Lib.hid hN
      clear hb8 hN
      go_wp2
      go_meet
      case rel => exact ⟨0, k2, c1, c2, 0, _, 0, _, [], _, s + 1 + 1, rfl, rfl, rfl, HER.out, fun e => ⟨by rw [← HN.out]; exact (HQ.out e).1, (HQ.out e).2, rfl, rfl⟩, by rw [HE.out, HEU.out]; exact HS8.out, owns_nil _ _ _ _, Nat.lt_succ_self _⟩
    · have hN : n1 = utail M := by rw [HN1.out, if_neg (by rw [hz]; decide)]
      have hct := rtailU_any HDS6.out.doc HDS6.out.mok
      rw [← hN] at hct
      unfold docU at hct
      have HCT := Lib.hid hct
      subst hz
      clear hct hN
      go_wp2_with fail
      refine HCT.out.mono ?_
      rintro e w7 ⟨rfl, hb7⟩
      obtain ⟨b0, b1, b2, b3⟩ := four_cells (HDS6.out.old hb7).act
      have HB7 := Lib.hid hb7
      clear hb7 a0 a1 a2 a3 q0 q1 q2 qf
      go_wp2_with fail
      refine (HPC.out _ HB7.out).mono ?_
      rintro e w8 ⟨rfl, hb8⟩
      have HS8 := Lib.hid ((HDS6.out.old HB7.out).old hb8)
      clear hb8
      go_wp2
      go_meet
      case rel => exact ⟨n1, k2, 0, c2, 0, _, 0, _, [], _, s + 1 + 1, rfl, rfl, rfl, HER.out, fun e => ⟨(HQ.out e).1, (HQ.out e).2, rfl, rfl⟩, by rw [HE.out, HEU.out]; exact HS8.out, owns_nil _ _ _ _, Nat.lt_succ_self _⟩
  case rest =>
    obtain ⟨nM, kU, cM, cU, xk, xs, ck, cd, cl, lv1, t, rfl, rfl, rfl, hev, heq, hds, hcl, hst⟩ := hcut
    obtain ⟨wz, rfl⟩ : ∃ wz, wz = wc := ⟨_, rfl⟩
    obtain ⟨ao3, cap3, rfl⟩ := hds.doc.val
    obtain ⟨aoc, capc, rfl⟩ := Owns.form3 hcl
    have HER : Hid (∀ W, Calls Try.prog 15 #[_] W fun e w' => e = .returned (.int .i64 (cU : Int)) ∧ W = w') := Lib.hid fun W => by
      have h := num_any cU W
      rw [← hev] at h
      exact h
    have HEQ := Lib.hid heq
    have HDS9 := Lib.hid hds
    have HCLO := Lib.hid hcl
    have HST := Lib.hid hst
    have HRC : Hid (∀ W, Below wz.heap.size wz W → Reads W .u8 (.slice aoc cl.length capc) cl) := Lib.hid fun W hb => hcl.reads.new hb
    have HRO : Hid (∀ W, Below wz.heap.size wz W → Reads W .u8 (.slice aoo data.length capo) data) := Lib.hid fun W hb => hds.own.reads.new hb
    have HRA : Hid (∀ W, Below wz.heap.size wz W → Reads W .u8 (.slice aob data.length capb) data) := Lib.hid fun W hb => (HRW.out wz hds.fr).new hb
    have HCELL : Hid (∀ W, Below wz.heap.size wz W → W.cell? ⟨w.heap.size + 1, 3, none⟩ = some (.slice aob data.length capb) ∧ W.cell? ⟨s, 0, none⟩ = some (.int .i64 xk) ∧ W.cell? ⟨s, 1, none⟩ = some (.string xs) ∧ W.cell? ⟨s + 1, 0, none⟩ = some (.int .i64 ck) ∧ W.cell? ⟨s + 1, 1, none⟩ = some (.slice aoc cl.length capc)) := Lib.hid fun W hb => by
      have h := hds.old hb
      obtain ⟨_, _, _, h3⟩ := four_cells h.act
      obtain ⟨h4, h5, _⟩ := two_cells h.xb
      obtain ⟨h6, h7, _⟩ := two_cells h.cb
      exact ⟨h3, h4, h5, h6, h7⟩
    have hq := fun W => eql_cells ck xk (S8 cl) xs W
    have HMX : Hid (Try.prog.follows .mixedOrders = true) := Lib.hid (by kernel_rfl)
    have HXB := Lib.hid hds.xb
    have HCB := Lib.hid hds.cb
    have HBND := Lib.hid hds.lt
    obtain ⟨b3, hb3⟩ : ∃ b, b = (ck == xk && (S8 cl).toList == xs.toList) := ⟨_, rfl⟩
    have HB3 : Hid (U = M → b3 = true) := Lib.hid fun e => by
      obtain ⟨_, _, h1, h2⟩ := heq e
      rw [hb3, h1, h2]
      simp
    rw [← hb3] at hq
    have HQE := Lib.hid hq
    clear hq
    have hcc : ∀ j, (Value.slice aoo data.length capo).ownBlock = some j → w.heap.size + 2 < j ∧ j < s := fun j hj => ⟨by have := (Owns.lt hds.own j hj).1; omega, hds.ob j hj⟩
    have HOB := Lib.hid hcc
    have HOC : Hid (∀ j, (Value.slice aoc cl.length capc).ownBlock = some j → t ≤ j) := Lib.hid fun j hj => (Owns.lt hcl j hj).1
    have HOOO := Lib.hid hds.own
    have HLEN : Hid (cl.length ≤ 9223372036854775807) := Lib.hid (by obtain ⟨_, _, hv, h1, h2, _⟩ := hcl.reads.val; cases hv; simp only [maxLen] at *; omega)
    have HDV := Lib.hid (hds.v hst)
    obtain ⟨d3, y0, y1, z0, z1⟩ := HCELL.out wz (Below.refl _ _)
    have HD : Hid (Below wz.heap.size wz wz) := Lib.hid (Below.refl _ _)
    have HBN : Hid (∀ n, Below wz.heap.size wz (wz.drewN n)) := Lib.hid fun _ => ⟨rfl, rfl, rfl, Nat.le_refl _, fun _ _ => rfl⟩
    clear hev heq hds hcl hst hb3 hcc q0 q1 q2 qf a0 a1 a2 a3
    go_upto_region 30 with fail
    go_cut [15] from 156 (fun ok wx => ∃ b, ok = .bool b ∧ (U = M → b = true) ∧ Below wz.heap.size wz wx)
    case first =>
      by_cases e1 : nM = kU
      rotate_left
      · have e1d : (nM == kU) = false := beq_eq_false_iff_ne.2 e1
        have HE1 := Lib.hid e1
        clear e1
        go_quiet (fail)
        all_goals
          go_wp2
          go_meet
          case rel => exact ⟨false, rfl, fun e => absurd (HEQ.out e).1 HE1.out, HBN.out _⟩
      subst e1
      by_cases e2 : cU = cM
      rotate_left
      · have e2d : ((cU : Int) == (cM : Int)) = false := beq_eq_false_iff_ne.2 (by omega)
        have HE2 := Lib.hid e2
        clear e2
        go_quiet ((go_at_call 15; exact Calls.quiet_of_same ((HER.out _).mono fun e wx h => ⟨h.1, h.2.symm⟩)))
        all_goals
          go_wp2
          go_meet
          case rel => exact ⟨false, rfl, fun e => absurd (HEQ.out e).2.1.symm HE2.out, HBN.out _⟩
      subst e2
      cases b3
      · refine wp_region_extS (fun W => Below wz.heap.size wz W) (Below.refl _ _).drew HMX.out ?_
        refine extS_take (i := 0) (d := 156) (v := ?_) rfl rfl (by kernel_rfl) (by kernel_rfl) (by kernel_rfl) (fun _ _ _ h => h) (by rfl) (fun W hS => ?_) ?_
        rotate_left
        · skip
          refine gives_value (w := W) ⟨Below.refl _ _, hS⟩ ?_; go_simp; try with_reducible rfl
        simp only [List.setIfInBounds_toArray, List.set_cons_zero, List.set_cons_succ]
        refine extS_take (i := 1) (d := 157) (v := ?_) rfl rfl (by kernel_rfl) (by kernel_rfl) (by kernel_rfl) (fun _ _ _ h => h) (by rfl) (fun W hS => ?_) ?_
        rotate_left
        · skip
          refine gives_value (w := W) ⟨Below.refl _ _, hS⟩ ?_; go_simp; try with_reducible rfl
        simp only [List.setIfInBounds_toArray, List.set_cons_zero, List.set_cons_succ]
        refine extS_take (i := 2) (d := 158) (v := ?_) rfl rfl (by kernel_rfl) (by kernel_rfl) (by kernel_rfl) (fun _ _ _ h => h) (by rfl) (fun W hS => ?_) ?_
        rotate_left
        · skip
          refine gives_value (w := W) ⟨Below.refl _ _, hS⟩ ?_; go_simp; try with_reducible rfl
        simp only [List.setIfInBounds_toArray, List.set_cons_zero, List.set_cons_succ]
        refine extS_take (i := 3) (d := 159) (v := ?_) rfl rfl (by kernel_rfl) (by kernel_rfl) (by kernel_rfl) (fun _ _ _ h => h) (by rfl) (fun W hS => ?_) ?_
        rotate_left
        · skip
          refine gives_value (w := W) ⟨Below.refl _ _, hS⟩ ?_; go_simp; try with_reducible rfl
        simp only [List.setIfInBounds_toArray, List.set_cons_zero, List.set_cons_succ]
        refine extS_take (i := 4) (d := 160) (v := ?_) rfl rfl (by kernel_rfl) (by kernel_rfl) (by kernel_rfl) (fun _ _ _ h => h) (by rfl) (fun W hS => ?_) ?_
        rotate_left
        · skip
          refine gives_value (w := W) ⟨Below.refl _ _, hS⟩ ?_; go_simp; try with_reducible rfl
        simp only [List.setIfInBounds_toArray, List.set_cons_zero, List.set_cons_succ]
        refine extS_take (i := 5) (d := 161) (v := ?_) rfl rfl (by kernel_rfl) (by kernel_rfl) (by kernel_rfl) (fun _ _ _ h => h) (by rfl) (fun W hS => ?_) ?_
        rotate_left
        · skip
          go_simp; refine Gives.enter ((HER.out W).mono ?_); rintro e wn ⟨rfl, rfl⟩; refine ⟨?_, Below.refl _ _, hS⟩; with_reducible rfl
        simp only [List.setIfInBounds_toArray, List.set_cons_zero, List.set_cons_succ]
        refine extS_take (i := 6) (d := 162) (v := ?_) rfl rfl (by kernel_rfl) (by kernel_rfl) (by kernel_rfl) (fun _ _ _ h => h) (by rfl) (fun W hS => ?_) ?_
        rotate_left
        · skip
          refine gives_value (w := W) ⟨Below.refl _ _, hS⟩ ?_; go_simp; try with_reducible rfl
        simp only [List.setIfInBounds_toArray, List.set_cons_zero, List.set_cons_succ]
        refine extS_take (i := 7) (d := 163) (v := ?_) rfl rfl (by kernel_rfl) (by kernel_rfl) (by kernel_rfl) (fun _ _ _ h => h) (by rfl) (fun W hS => ?_) ?_
        rotate_left
        · skip
          refine gives_value (w := W) ⟨Below.refl _ _, hS⟩ ?_; go_simp; try with_reducible rfl
        simp only [List.setIfInBounds_toArray, List.set_cons_zero, List.set_cons_succ]
        refine extS_take (i := 8) (d := 164) (v := ?_) rfl rfl (by kernel_rfl) (by kernel_rfl) (by kernel_rfl) (fun _ _ _ h => h) (by rfl) (fun W hS => ?_) ?_
        rotate_left
        · skip
          refine gives_value (w := W) ⟨Below.refl _ _, hS⟩ ?_; go_simp; try with_reducible rfl
        simp only [List.setIfInBounds_toArray, List.set_cons_zero, List.set_cons_succ]
        refine extS_take (i := 9) (d := 165) (v := ?_) rfl rfl (by kernel_rfl) (by kernel_rfl) (by kernel_rfl) (fun _ _ _ h => h) (by rfl) (fun W hS => ?_) ?_
        rotate_left
        · skip
          refine gives_value (w := W) ⟨Below.refl _ _, hS⟩ ?_; go_simp; try with_reducible rfl
        simp only [List.setIfInBounds_toArray, List.set_cons_zero, List.set_cons_succ]
        refine extS_take (i := 10) (d := 166) (v := ?_) rfl rfl (by kernel_rfl) (by kernel_rfl) (by kernel_rfl) (fun _ _ _ h => h) (by rfl) (fun W hS => ?_) ?_
        rotate_left
        · skip
          (refine load_gives 49 (.tmp 14) ?_ (s + 1) ?_ _ #[.int .i64 ck, .slice aoc cl.length capc] (0, 0) _ ((hS.block _ HBND.out).trans HCB.out) Try.underlying49 rfl Try.infoCell9 ?_ <;> first | rfl | exact ⟨Below.refl _ _, hS⟩)
        simp only [List.setIfInBounds_toArray, List.set_cons_zero, List.set_cons_succ]
        refine extS_take (i := 11) (d := 167) (v := ?_) rfl rfl (by kernel_rfl) (by kernel_rfl) (by kernel_rfl) (fun _ _ _ h => h) (by rfl) (fun W hS => ?_) ?_
        rotate_left
        · skip
          go_simp; refine Gives.enter ((document_any ck _ cl W (HRC.out W hS)).mono ?_); rintro e wn ⟨rfl, hbn⟩; refine ⟨?_, hbn, Below.trans hS (hbn.mono hS.size)⟩; with_reducible rfl
        simp only [List.setIfInBounds_toArray, List.set_cons_zero, List.set_cons_succ]
        refine extS_take (i := 12) (d := 168) (v := ?_) rfl rfl (by kernel_rfl) (by kernel_rfl) (by kernel_rfl) (fun _ _ _ h => h) (by rfl) (fun W hS => ?_) ?_
        rotate_left
        · skip
          (refine load_gives 82 (.tmp 12) ?_ (s) ?_ _ #[.int .i64 xk, .string xs] (0, 0) _ ((hS.block _ (Nat.lt_of_succ_lt HBND.out)).trans HXB.out) Try.underlying82 rfl Try.infoRCell9 ?_ <;> first | rfl | exact ⟨Below.refl _ _, hS⟩)
        simp only [List.setIfInBounds_toArray, List.set_cons_zero, List.set_cons_succ]
        refine extS_take (i := 13) (d := 169) (v := ?_) rfl rfl (by kernel_rfl) (by kernel_rfl) (by kernel_rfl) (fun _ _ _ h => h) (by rfl) (fun W hS => ?_) ?_
        rotate_left
        · skip
          refine gives_value (w := W) ⟨Below.refl _ _, hS⟩ ?_; refine (exec_eqs rfl ?_ ?_ (by kernel_rfl) (HQE.out W)).trans ?_ <;> rfl
        simp only [List.setIfInBounds_toArray, List.set_cons_zero, List.set_cons_succ]
        refine extS_take (i := 14) (d := 170) (v := ?_) rfl rfl (by kernel_rfl) (by kernel_rfl) (by kernel_rfl) (fun _ _ _ h => h) (by rfl) (fun W hS => ?_) ?_
        rotate_left
        · skip
          refine gives_value (w := W) ⟨Below.refl _ _, hS⟩ ?_; go_simp; try with_reducible rfl
        simp only [List.setIfInBounds_toArray, List.set_cons_zero, List.set_cons_succ]
        refine extS_take (i := 15) (d := 171) (v := ?_) rfl rfl (by kernel_rfl) (by kernel_rfl) (by kernel_rfl) (fun _ _ _ h => h) (by rfl) (fun W hS => ?_) ?_
        rotate_left
        · skip
          refine gives_value (w := W) ⟨Below.refl _ _, hS⟩ ?_; go_simp; try with_reducible rfl
        simp only [List.setIfInBounds_toArray, List.set_cons_zero, List.set_cons_succ]
        refine extS_skip (i := 16) (d := 172) rfl rfl (by kernel_rfl) (by kernel_rfl) (by kernel_rfl) (fun _ _ _ h => h) (by rfl) ?_
        simp only [List.setIfInBounds_toArray, List.set_cons_zero, List.set_cons_succ]
        refine extS_skip (i := 17) (d := 173) rfl rfl (by kernel_rfl) (by kernel_rfl) (by kernel_rfl) (fun _ _ _ h => h) (by rfl) ?_
        simp only [List.setIfInBounds_toArray, List.set_cons_zero, List.set_cons_succ]
        refine extS_skip (i := 18) (d := 174) rfl rfl (by kernel_rfl) (by kernel_rfl) (by kernel_rfl) (fun _ _ _ h => h) (by rfl) ?_
        simp only [List.setIfInBounds_toArray, List.set_cons_zero, List.set_cons_succ]
        refine extS_skip (i := 19) (d := 175) rfl rfl (by kernel_rfl) (by kernel_rfl) (by kernel_rfl) (fun _ _ _ h => h) (by rfl) ?_
        simp only [List.setIfInBounds_toArray, List.set_cons_zero, List.set_cons_succ]
        refine extS_take (i := 20) (d := 176) (v := ?_) rfl rfl (by kernel_rfl) (by kernel_rfl) (by kernel_rfl) (fun _ _ _ h => h) (by rfl) (fun W hS => ?_) ?_
        rotate_left
        · skip
          refine gives_value (w := W) ⟨Below.refl _ _, hS⟩ ?_; go_simp; try with_reducible rfl
        simp only [List.setIfInBounds_toArray, List.set_cons_zero, List.set_cons_succ]
        refine extS_take (i := 21) (d := 15) (v := ?_) rfl rfl (by kernel_rfl) (by kernel_rfl) (by kernel_rfl) (fun _ _ _ h => h) (by rfl) (fun W hS => ?_) ?_
        rotate_left
        · skip
          refine gives_value (w := W) ⟨Below.refl _ _, hS⟩ ?_; go_simp; try with_reducible rfl
        simp only [List.setIfInBounds_toArray, List.set_cons_zero, List.set_cons_succ]
        refine extS_done (by kernel_rfl) (fun wd _ hSd => ?_) _
        go_wp2
        go_meet
        case rel => exact ⟨false, rfl, fun e => absurd (HB3.out e) (by decide), hSd⟩
      · refine wp_region_extS (fun W => Below wz.heap.size wz W) (Below.refl _ _).drew HMX.out ?_
        refine extS_take (i := 0) (d := 156) (v := ?_) rfl rfl (by kernel_rfl) (by kernel_rfl) (by kernel_rfl) (fun _ _ _ h => h) (by rfl) (fun W hS => ?_) ?_
        rotate_left
        · skip
          refine gives_value (w := W) ⟨Below.refl _ _, hS⟩ ?_; go_simp; try with_reducible rfl
        simp only [List.setIfInBounds_toArray, List.set_cons_zero, List.set_cons_succ]
        refine extS_take (i := 1) (d := 157) (v := ?_) rfl rfl (by kernel_rfl) (by kernel_rfl) (by kernel_rfl) (fun _ _ _ h => h) (by rfl) (fun W hS => ?_) ?_
        rotate_left
        · skip
          refine gives_value (w := W) ⟨Below.refl _ _, hS⟩ ?_; go_simp; try with_reducible rfl
        simp only [List.setIfInBounds_toArray, List.set_cons_zero, List.set_cons_succ]
        refine extS_take (i := 2) (d := 158) (v := ?_) rfl rfl (by kernel_rfl) (by kernel_rfl) (by kernel_rfl) (fun _ _ _ h => h) (by rfl) (fun W hS => ?_) ?_
        rotate_left
        · skip
          refine gives_value (w := W) ⟨Below.refl _ _, hS⟩ ?_; go_simp; try with_reducible rfl
        simp only [List.setIfInBounds_toArray, List.set_cons_zero, List.set_cons_succ]
        refine extS_take (i := 3) (d := 159) (v := ?_) rfl rfl (by kernel_rfl) (by kernel_rfl) (by kernel_rfl) (fun _ _ _ h => h) (by rfl) (fun W hS => ?_) ?_
        rotate_left
        · skip
          refine gives_value (w := W) ⟨Below.refl _ _, hS⟩ ?_; go_simp; try with_reducible rfl
        simp only [List.setIfInBounds_toArray, List.set_cons_zero, List.set_cons_succ]
        refine extS_take (i := 4) (d := 160) (v := ?_) rfl rfl (by kernel_rfl) (by kernel_rfl) (by kernel_rfl) (fun _ _ _ h => h) (by rfl) (fun W hS => ?_) ?_
        rotate_left
        · skip
          refine gives_value (w := W) ⟨Below.refl _ _, hS⟩ ?_; go_simp; try with_reducible rfl
        simp only [List.setIfInBounds_toArray, List.set_cons_zero, List.set_cons_succ]
        refine extS_take (i := 5) (d := 161) (v := ?_) rfl rfl (by kernel_rfl) (by kernel_rfl) (by kernel_rfl) (fun _ _ _ h => h) (by rfl) (fun W hS => ?_) ?_
        rotate_left
        · skip
          go_simp; refine Gives.enter ((HER.out W).mono ?_); rintro e wn ⟨rfl, rfl⟩; refine ⟨?_, Below.refl _ _, hS⟩; with_reducible rfl
        simp only [List.setIfInBounds_toArray, List.set_cons_zero, List.set_cons_succ]
        refine extS_take (i := 6) (d := 162) (v := ?_) rfl rfl (by kernel_rfl) (by kernel_rfl) (by kernel_rfl) (fun _ _ _ h => h) (by rfl) (fun W hS => ?_) ?_
        rotate_left
        · skip
          refine gives_value (w := W) ⟨Below.refl _ _, hS⟩ ?_; go_simp; try with_reducible rfl
        simp only [List.setIfInBounds_toArray, List.set_cons_zero, List.set_cons_succ]
        refine extS_take (i := 7) (d := 163) (v := ?_) rfl rfl (by kernel_rfl) (by kernel_rfl) (by kernel_rfl) (fun _ _ _ h => h) (by rfl) (fun W hS => ?_) ?_
        rotate_left
        · skip
          refine gives_value (w := W) ⟨Below.refl _ _, hS⟩ ?_; go_simp; try with_reducible rfl
        simp only [List.setIfInBounds_toArray, List.set_cons_zero, List.set_cons_succ]
        refine extS_take (i := 8) (d := 164) (v := ?_) rfl rfl (by kernel_rfl) (by kernel_rfl) (by kernel_rfl) (fun _ _ _ h => h) (by rfl) (fun W hS => ?_) ?_
        rotate_left
        · skip
          refine gives_value (w := W) ⟨Below.refl _ _, hS⟩ ?_; go_simp; try with_reducible rfl
        simp only [List.setIfInBounds_toArray, List.set_cons_zero, List.set_cons_succ]
        refine extS_take (i := 9) (d := 165) (v := ?_) rfl rfl (by kernel_rfl) (by kernel_rfl) (by kernel_rfl) (fun _ _ _ h => h) (by rfl) (fun W hS => ?_) ?_
        rotate_left
        · skip
          refine gives_value (w := W) ⟨Below.refl _ _, hS⟩ ?_; go_simp; try with_reducible rfl
        simp only [List.setIfInBounds_toArray, List.set_cons_zero, List.set_cons_succ]
        refine extS_take (i := 10) (d := 166) (v := ?_) rfl rfl (by kernel_rfl) (by kernel_rfl) (by kernel_rfl) (fun _ _ _ h => h) (by rfl) (fun W hS => ?_) ?_
        rotate_left
        · skip
          (refine load_gives 49 (.tmp 14) ?_ (s + 1) ?_ _ #[.int .i64 ck, .slice aoc cl.length capc] (0, 0) _ ((hS.block _ HBND.out).trans HCB.out) Try.underlying49 rfl Try.infoCell9 ?_ <;> first | rfl | exact ⟨Below.refl _ _, hS⟩)
        simp only [List.setIfInBounds_toArray, List.set_cons_zero, List.set_cons_succ]
        refine extS_take (i := 11) (d := 167) (v := ?_) rfl rfl (by kernel_rfl) (by kernel_rfl) (by kernel_rfl) (fun _ _ _ h => h) (by rfl) (fun W hS => ?_) ?_
        rotate_left
        · skip
          go_simp; refine Gives.enter ((document_any ck _ cl W (HRC.out W hS)).mono ?_); rintro e wn ⟨rfl, hbn⟩; refine ⟨?_, hbn, Below.trans hS (hbn.mono hS.size)⟩; with_reducible rfl
        simp only [List.setIfInBounds_toArray, List.set_cons_zero, List.set_cons_succ]
        refine extS_take (i := 12) (d := 168) (v := ?_) rfl rfl (by kernel_rfl) (by kernel_rfl) (by kernel_rfl) (fun _ _ _ h => h) (by rfl) (fun W hS => ?_) ?_
        rotate_left
        · skip
          (refine load_gives 82 (.tmp 12) ?_ (s) ?_ _ #[.int .i64 xk, .string xs] (0, 0) _ ((hS.block _ (Nat.lt_of_succ_lt HBND.out)).trans HXB.out) Try.underlying82 rfl Try.infoRCell9 ?_ <;> first | rfl | exact ⟨Below.refl _ _, hS⟩)
        simp only [List.setIfInBounds_toArray, List.set_cons_zero, List.set_cons_succ]
        refine extS_take (i := 13) (d := 169) (v := ?_) rfl rfl (by kernel_rfl) (by kernel_rfl) (by kernel_rfl) (fun _ _ _ h => h) (by rfl) (fun W hS => ?_) ?_
        rotate_left
        · skip
          refine gives_value (w := W) ⟨Below.refl _ _, hS⟩ ?_; refine (exec_eqs rfl ?_ ?_ (by kernel_rfl) (HQE.out W)).trans ?_ <;> rfl
        simp only [List.setIfInBounds_toArray, List.set_cons_zero, List.set_cons_succ]
        refine extS_take (i := 14) (d := 170) (v := ?_) rfl rfl (by kernel_rfl) (by kernel_rfl) (by kernel_rfl) (fun _ _ _ h => h) (by rfl) (fun W hS => ?_) ?_
        rotate_left
        · skip
          refine gives_value (w := W) ⟨Below.refl _ _, hS⟩ ?_; go_simp; try with_reducible rfl
        simp only [List.setIfInBounds_toArray, List.set_cons_zero, List.set_cons_succ]
        refine extS_take (i := 15) (d := 171) (v := ?_) rfl rfl (by kernel_rfl) (by kernel_rfl) (by kernel_rfl) (fun _ _ _ h => h) (by rfl) (fun W hS => ?_) ?_
        rotate_left
        · skip
          refine gives_value (w := W) ⟨Below.refl _ _, hS⟩ ?_; go_simp; try with_reducible rfl
        simp only [List.setIfInBounds_toArray, List.set_cons_zero, List.set_cons_succ]
        refine extS_take (i := 16) (d := 172) (v := ?_) rfl rfl (by kernel_rfl) (by kernel_rfl) (by kernel_rfl) (fun _ _ _ h => h) (by rfl) (fun W hS => ?_) ?_
        rotate_left
        · skip
          refine gives_value (w := W) ⟨Below.refl _ _, hS⟩ ?_; go_simp; try with_reducible rfl
        simp only [List.setIfInBounds_toArray, List.set_cons_zero, List.set_cons_succ]
        refine extS_take (i := 17) (d := 173) (v := ?_) rfl rfl (by kernel_rfl) (by kernel_rfl) (by kernel_rfl) (fun _ _ _ h => h) (by rfl) (fun W hS => ?_) ?_
        rotate_left
        · skip
          refine gives_value (w := W) ⟨Below.refl _ _, hS⟩ ?_; go_simp; try with_reducible rfl
        simp only [List.setIfInBounds_toArray, List.set_cons_zero, List.set_cons_succ]
        refine extS_take (i := 18) (d := 174) (v := ?_) rfl rfl (by kernel_rfl) (by kernel_rfl) (by kernel_rfl) (fun _ _ _ h => h) (by rfl) (fun W hS => ?_) ?_
        rotate_left
        · skip
          obtain ⟨d3, _, _, _, _⟩ := HCELL.out W hS; refine gives_value (w := W) ⟨Below.refl _ _, hS⟩ ?_; go_simp; try with_reducible rfl
        simp only [List.setIfInBounds_toArray, List.set_cons_zero, List.set_cons_succ]
        refine extS_take (i := 19) (d := 175) (v := ?_) rfl rfl (by kernel_rfl) (by kernel_rfl) (by kernel_rfl) (fun _ _ _ h => h) (by rfl) (fun W hS => ?_) ?_
        rotate_left
        · skip
          go_simp; refine Gives.enter ((numBytes_any _ _ data data W (HRO.out W hS) (HRA.out W hS) H8.out H8.out).mono ?_); rintro e wn ⟨rfl, rfl⟩; rw [decide_eq_true rfl]; refine ⟨?_, Below.refl _ _, hS⟩; with_reducible rfl
        simp only [List.setIfInBounds_toArray, List.set_cons_zero, List.set_cons_succ]
        refine extS_take (i := 20) (d := 176) (v := ?_) rfl rfl (by kernel_rfl) (by kernel_rfl) (by kernel_rfl) (fun _ _ _ h => h) (by rfl) (fun W hS => ?_) ?_
        rotate_left
        · skip
          refine gives_value (w := W) ⟨Below.refl _ _, hS⟩ ?_; go_simp; try with_reducible rfl
        simp only [List.setIfInBounds_toArray, List.set_cons_zero, List.set_cons_succ]
        refine extS_take (i := 21) (d := 15) (v := ?_) rfl rfl (by kernel_rfl) (by kernel_rfl) (by kernel_rfl) (fun _ _ _ h => h) (by rfl) (fun W hS => ?_) ?_
        rotate_left
        · skip
          refine gives_value (w := W) ⟨Below.refl _ _, hS⟩ ?_; go_simp; try with_reducible rfl
        simp only [List.setIfInBounds_toArray, List.set_cons_zero, List.set_cons_succ]
        refine extS_done (by kernel_rfl) (fun wd _ hSd => ?_) _
        go_wp2
        go_meet
        case rel => exact ⟨true, rfl, fun e => rfl, hSd⟩
    case rest =>
      obtain ⟨b, rfl, hbU, hbx⟩ := hcut
      have hvc := HDV.out.old hbx
      have hownc := HOOO.out.below hbx (Nat.le_refl _)
      have hclc := HCLO.out.below hbx (Nat.le_refl _)
      have HBU := Lib.hid hbU
      have HVC := Lib.hid hvc
      have HXO := Lib.hid (Xsu.start hownc)
      have HCLC := Lib.hid hclc
      clear hvc hownc hclc hbx hbU HQE HB3 HCELL HRC HRO HRA HER HEQ HD HBN d3 y0 y1 z0 z1
      go_wp2
      go_loopw [16, 179] (fun _ i wr => ∃ k : Nat, k ≤ data.length ∧ i = .int .i64 (k : Int) ∧ Xsu wc wr (.slice aoo data.length capo) data k)
        (fun _ i _ => data.length - (intOf i).toNat)
      case atStart => exact ⟨0, Nat.zero_le _, rfl, HXO.out⟩
      case round =>
        obtain ⟨k, hk, rfl, hx⟩ := hrel
        have HBL9 : Hid (data.length ≤ 9223372036854775807) := Lib.hid (Nat.le_trans HBL.out (by decide))
        by_cases hlt : k < data.length
        · obtain ⟨g, cur, ⟨cpo, hov⟩, hg, hcur⟩ := hx.at hlt
          cases hov
          have e0 : wr.cell? ⟨g, k, none⟩ = some (.int .u8 (data.getD k 0 : Nat)) := by rw [cell_of_row _ _ k _ _ _ hg]; exact hcur
          have f0 : wr.frozen? ⟨g, k, none⟩ = false := frozen_of_row _ _ k _ _ hg
          have hlti : (k : Int) < data.length := by omega
          have HK := Lib.hid hlt
          have HX := Lib.hid hx
          clear hg hcur hx hlt
          go_wp2
          go_roundw
          case rel => exact ⟨k + 1, HK.out, (by first | exact uinc_eq HK.out HBL9.out | rfl), HX.out.step _⟩
          case measure => first | exact uinc_meas HK.out HBL9.out | (have := HK.out; simp [intOf]; omega)
        · have hvr := HVC.out.turn hx.1 fun j hj => ⟨(HOB.out j hj).1, .inl (HOB.out j hj).2⟩
          have hclr : Owns wr t 5 .u8 (.slice aoc cl.length capc) cl := DoU.ownedB HCLC.out fun j hj => hx.1.block j (Owns.lt HCLC.out j hj).2 fun h => by
            have h1 := (HOB.out j h).2
            have h2 := HOC.out j hj
            have h3 := HST.out
            omega
          obtain ⟨z0, z1, _⟩ := two_cells hvr.cb
          have hlt' : ¬ (k : Int) < data.length := by omega
          have HVR := Lib.hid hvr
          have HXC := Lib.hid (Xsu.start hclr)
          obtain ⟨wv, rfl⟩ : ∃ wv, wv = wr := ⟨_, rfl⟩
          clear hx hvr hclr hlt hk
          go_wp2
          go_loopw [17, 192] (fun _ i wr => ∃ k : Nat, k ≤ cl.length ∧ i = .int .i64 (k : Int) ∧ Xsu wv wr (.slice aoc cl.length capc) cl k)
            (fun _ i _ => cl.length - (intOf i).toNat)
          case atStart => exact ⟨0, Nat.zero_le _, rfl, HXC.out⟩
          case round =>
            obtain ⟨k2, hk2, rfl, hx⟩ := hrel
            have hvr := HVR.out.turn hx.1 fun j hj => ⟨by have := HOC.out j hj; have := HST.out; have := HVR.out.ns; omega, .inr (HOC.out j hj)⟩
            by_cases hlt : k2 < cl.length
            · obtain ⟨g, cur, ⟨cpo, hov⟩, hg, hcur⟩ := hx.at hlt
              obtain ⟨y0, y1, _⟩ := two_cells hvr.cb
              cases hov
              have e0 : wr.cell? ⟨g, k2, none⟩ = some (.int .u8 (cl.getD k2 0 : Nat)) := by rw [cell_of_row _ _ k2 _ _ _ hg]; exact hcur
              have f0 : wr.frozen? ⟨g, k2, none⟩ = false := frozen_of_row _ _ k2 _ _ hg
              have hlti : (k2 : Int) < cl.length := by omega
              have HK := Lib.hid hlt
              have HX := Lib.hid hx
              clear hg hcur hx hlt hvr z0 z1
              go_wp2
              go_roundw
              case rel => exact ⟨k2 + 1, HK.out, (by first | exact uinc_eq HK.out HLEN.out | rfl), HX.out.step _⟩
              case measure => first | exact uinc_meas HK.out HLEN.out | (have := HK.out; simp [intOf]; omega)
            · have hlt2 : ¬ (k2 : Int) < cl.length := by omega
              obtain ⟨q0, q1, q2, _⟩ := three_cells hvr.box
              obtain ⟨x0, x1, x2, hrs⟩ := hvr.res
              have hrs' : wr.heap[w.heap.size + 1 + 1]? = some (.cells #[x0, x1, x2] 28 (0, 0)) := hrs
              obtain ⟨p0, p1, p2, pf⟩ := three_cells hrs'
              have HDOC : Hid (∀ W, Below wr.heap.size wr W → Calls Try.prog 18 #[.pointer (some ⟨u, 0, none⟩)] W fun r w' => ∃ lv, r = .returned (docU U' lv) ∧ DocU w' (fun j => W.heap.size ≤ j) lv U' ∧ Below W.heap.size W w') := Lib.hid fun W hb => documentU_any (hvr.old hb).un
              obtain ⟨sm, hsm⟩ : ∃ x, x = sameUS U' M' := ⟨_, rfl⟩
              have HSM : Hid (∀ W lvA BA, DocU W BA lvA U' → Below wr.heap.size wr W → Calls Try.prog 17 #[docU U' lvA, docU M' (.slice ao3 M'.cells.length cap3)] W fun r w' => r = .returned (.bool sm) ∧ Below W.heap.size W w') := Lib.hid fun W lvA BA hd hb => by
                rw [hsm]
                exact rsameG_any hd (hvr.old hb).doc HUO'.out.bytes HMO'.out.bytes HUO'.out.len HMO'.out.len
              have HSE : Hid (U = M → sm = true) := Lib.hid fun e => by rw [hsm, HUM.out e]; exact sameUS_self _
              have HFIN : Hid (∀ W, Below wr.heap.size wr W → ∀ a b c Z, Below (tri W (w.heap.size + 1 + 1) a b c).heap.size (tri W (w.heap.size + 1 + 1) a b c) Z → UPost w B u m U' Z ∧ DocU Z (fun j => BD j ∨ w.heap.size ≤ j) (.slice ao3 M'.cells.length cap3) M') := Lib.hid fun W hb a b c Z hz => by
                obtain ⟨⟨h1, h2⟩, h3⟩ := (hvr.old hb).fin a b c
                exact ⟨⟨h1.old hz, h2.trans (fr_below hz fun _ => False) (fun _ _ h => h) (fun _ _ h => h.elim)⟩, DocU.grown h3 hz⟩
              have HCB4 : Hid (∀ W, Fr (fun j => j = w.heap.size + 1 + 1) wr W → W.heap[w.heap.size]? = some (.cells #[.int .i64 M'.epoch, .int .i64 M'.low, .slice ao3 M'.cells.length cap3] 28 (0, 0))) := Lib.hid fun W hf => (hf.block _ (by have := hvr.lt; have := hvr.ns; omega) (by omega)).trans hvr.box
              have HCL : Hid (∀ W, Below wr.heap.size wr W → W.heap[w.heap.size]? = some (.cells #[.int .i64 M'.epoch, .int .i64 M'.low, .slice ao3 M'.cells.length cap3] 28 (0, 0)) ∧ W.heap[w.heap.size + 1 + 1]? = some (.cells #[x0, x1, x2] 28 (0, 0))) := Lib.hid fun W hb => ⟨(hb.block _ (by have := hvr.lt; have := hvr.ns; omega)).trans hvr.box, (hb.block _ (by have := hvr.lt; have := hvr.ns; omega)).trans hrs'⟩
              have HLT : Hid (w.heap.size + 1 + 1 < wr.heap.size) := Lib.hid (by have := hvr.lt; have := hvr.ns; omega)
              unfold docU at HDOC HSM
              clear hx hvr hlt hk2 z0 z1 hrs hrs' hsm
              go_wp2_with fail
              cases b
              · refine wp_region_extS (fun W => Fr (fun j => j = w.heap.size + 1 + 1) wr W) (fr_drew wr 1 _) HMX.out ?_
                refine extS_take (i := 0) (d := 203) (v := ?_) rfl rfl (by kernel_rfl) (by kernel_rfl) (by kernel_rfl) (fun _ _ _ h => h) (by rfl) (fun W hS => ?_) ?_
                rotate_left
                · skip
                  (refine load_gives 28 (.tmp 4) ?_ (w.heap.size) ?_ _ #[.int .i64 M'.epoch, .int .i64 M'.low, .slice ao3 M'.cells.length cap3] (0, 0) _ (HCB4.out W hS) Try.underlying28 rfl Try.infoRU9 ?_ <;> first | rfl | exact ⟨Below.refl _ _, hS⟩)
                simp only [List.setIfInBounds_toArray, List.set_cons_zero, List.set_cons_succ]
                refine extS_take (i := 1) (d := 204) (v := ?_) rfl rfl (by kernel_rfl) (by kernel_rfl) (by kernel_rfl) (fun _ _ _ h => h) (by rfl) (fun W hS => ?_) ?_
                rotate_left
                · skip
                  refine gives_value (w := W) ⟨Below.refl _ _, hS⟩ ?_; go_simp; try with_reducible rfl
                simp only [List.setIfInBounds_toArray, List.set_cons_zero, List.set_cons_succ]
                refine extS_take (i := 2) (d := 205) (v := ?_) rfl rfl (by kernel_rfl) (by kernel_rfl) (by kernel_rfl) (fun _ _ _ h => h) (by rfl) (fun W hS => ?_) ?_
                rotate_left
                · skip
                  refine gives_value (w := W) ⟨Below.refl _ _, hS⟩ ?_; go_simp; try with_reducible rfl
                simp only [List.setIfInBounds_toArray, List.set_cons_zero, List.set_cons_succ]
                have HB10 : Hid (Below wr.heap.size wr wr) := Lib.hid (Below.refl _ _)
                refine extS_skip (i := 3) (d := 206) rfl rfl (by kernel_rfl) (by kernel_rfl) (by kernel_rfl) (fun _ _ _ h => h) (by rfl) ?_
                simp only [List.setIfInBounds_toArray, List.set_cons_zero, List.set_cons_succ]
                refine extS_skip (i := 4) (d := 207) rfl rfl (by kernel_rfl) (by kernel_rfl) (by kernel_rfl) (fun _ _ _ h => h) (by rfl) ?_
                simp only [List.setIfInBounds_toArray, List.set_cons_zero, List.set_cons_succ]
                refine extS_skip (i := 5) (d := 208) rfl rfl (by kernel_rfl) (by kernel_rfl) (by kernel_rfl) (fun _ _ _ h => h) (by rfl) ?_
                simp only [List.setIfInBounds_toArray, List.set_cons_zero, List.set_cons_succ]
                refine extS_skip (i := 6) (d := 209) rfl rfl (by kernel_rfl) (by kernel_rfl) (by kernel_rfl) (fun _ _ _ h => h) (by rfl) ?_
                simp only [List.setIfInBounds_toArray, List.set_cons_zero, List.set_cons_succ]
                refine extS_take (i := 7) (d := 210) (v := ?_) rfl rfl (by kernel_rfl) (by kernel_rfl) (by kernel_rfl) (fun _ _ _ h => h) (by rfl) (fun W hS => ?_) ?_
                rotate_left
                · skip
                  refine gives_value (w := W) ⟨Below.refl _ _, hS⟩ ?_; go_simp; try with_reducible rfl
                simp only [List.setIfInBounds_toArray, List.set_cons_zero, List.set_cons_succ]
                refine extS_one (i := 8) (by kernel_rfl) rfl (fun we hbe hSe => ?_)
                have hbx := HB10.out.trans (hbe.mono HB10.out.size)
                obtain ⟨_, hc2⟩ := HCL.out we hbx
                obtain ⟨p0, p1, p2, pf⟩ := three_cells hc2
                have HF9 := Lib.hid (HFIN.out we hbx)
                have HTB : Hid (∀ a b c, (tri we (w.heap.size + 1 + 1) a b c).heap[w.heap.size + 1 + 1]? = some (.cells #[a, b, c] 28 (0, 0))) := Lib.hid fun a b c => tri_blk hc2 a b c
                have HFT : Hid (∀ a b c, Fr (fun j => j = w.heap.size + 1 + 1) wr (tri we (w.heap.size + 1 + 1) a b c)) := Lib.hid fun a b c => hSe.trans (fr_tri we (w.heap.size + 1 + 1) a b c) (fun _ _ h => h) (fun _ _ h => h)
                have HSZ9 : Hid (w.heap.size + 1 + 1 < we.heap.size) := Lib.hid (Array.getElem?_eq_some_iff.1 hc2).1
                unfold tri at HTB HFT HF9
                clear hbx hc2 hbe hSe
                intro K hK
                go_simp
                refine hK _ _ (HFT.out _ _ _) ?_
                clear hK K p0 p1 p2 pf
                try simp only [List.setIfInBounds_toArray, List.set_cons_zero, List.set_cons_succ]
                refine extS_take (i := 9) (d := 7) (v := ?_) rfl rfl (by kernel_rfl) (by kernel_rfl) (by kernel_rfl) (fun _ _ _ h => h) (by rfl) (fun W hS => ?_) ?_
                rotate_left
                · skip
                  refine gives_value (w := W) ⟨Below.refl _ _, hS⟩ ?_; go_simp; try with_reducible rfl
                simp only [List.setIfInBounds_toArray, List.set_cons_zero, List.set_cons_succ]
                refine extS_done (by kernel_rfl) (fun wf hbf _ => ?_) _
                obtain ⟨p0, p1, p2, _⟩ := three_cells ((hbf.block _ (by have := HSZ9.out; simp; exact this)).trans (HTB.out _ _ _))
                have HF10 := Lib.hid (HF9.out _ _ _ wf hbf)
                clear hbf
                go_wp2
                refine bodyPost_ret (v := .tuple #[docU M' (.slice ao3 M'.cells.length cap3), .bool false]) (by simp [docU, results, Try.results10, go_sem, p0, p1, p2]) rfl ?_
                exact ⟨_, false, rfl, fun e => absurd (HBU.out e) (by decide), HF10.out⟩
              · refine wp_region_extS (fun W => Fr (fun j => j = w.heap.size + 1 + 1) wr W) (fr_drew wr 1 _) HMX.out ?_
                refine extS_take (i := 0) (d := 203) (v := ?_) rfl rfl (by kernel_rfl) (by kernel_rfl) (by kernel_rfl) (fun _ _ _ h => h) (by rfl) (fun W hS => ?_) ?_
                rotate_left
                · skip
                  (refine load_gives 28 (.tmp 4) ?_ (w.heap.size) ?_ _ #[.int .i64 M'.epoch, .int .i64 M'.low, .slice ao3 M'.cells.length cap3] (0, 0) _ (HCB4.out W hS) Try.underlying28 rfl Try.infoRU9 ?_ <;> first | rfl | exact ⟨Below.refl _ _, hS⟩)
                simp only [List.setIfInBounds_toArray, List.set_cons_zero, List.set_cons_succ]
                refine extS_take (i := 1) (d := 204) (v := ?_) rfl rfl (by kernel_rfl) (by kernel_rfl) (by kernel_rfl) (fun _ _ _ h => h) (by rfl) (fun W hS => ?_) ?_
                rotate_left
                · skip
                  refine gives_value (w := W) ⟨Below.refl _ _, hS⟩ ?_; go_simp; try with_reducible rfl
                simp only [List.setIfInBounds_toArray, List.set_cons_zero, List.set_cons_succ]
                refine extS_take (i := 2) (d := 205) (v := ?_) rfl rfl (by kernel_rfl) (by kernel_rfl) (by kernel_rfl) (fun _ _ _ h => h) (by rfl) (fun W hS => ?_) ?_
                rotate_left
                · skip
                  refine gives_value (w := W) ⟨Below.refl _ _, hS⟩ ?_; go_simp; try with_reducible rfl
                simp only [List.setIfInBounds_toArray, List.set_cons_zero, List.set_cons_succ]
                refine extS_take (i := 3) (d := 206) (v := ?_) rfl rfl (by kernel_rfl) (by kernel_rfl) (by kernel_rfl) (fun _ _ _ h => h) (by rfl) (fun W hS => ?_) ?_
                rotate_left
                · skip
                  refine gives_value (w := W) ⟨Below.refl _ _, hS⟩ ?_; go_simp; try with_reducible rfl
                simp only [List.setIfInBounds_toArray, List.set_cons_zero, List.set_cons_succ]
                refine extS_take (i := 5) (d := 208) (v := ?_) rfl rfl (by kernel_rfl) (by kernel_rfl) (by kernel_rfl) (fun _ _ _ h => h) (by rfl) (fun W hS => ?_) ?_
                rotate_left
                · skip
                  (refine load_gives 28 (.tmp 4) ?_ (w.heap.size) ?_ _ #[.int .i64 M'.epoch, .int .i64 M'.low, .slice ao3 M'.cells.length cap3] (0, 0) _ (HCB4.out W hS) Try.underlying28 rfl Try.infoRU9 ?_ <;> first | rfl | exact ⟨Below.refl _ _, hS⟩)
                simp only [List.setIfInBounds_toArray, List.set_cons_zero, List.set_cons_succ]
                refine extS_one (i := 4) (by kernel_rfl) rfl (fun wa hba hSa => ?_)
                intro K hK
                go_simp
                refine (HDOC.out wa hba).mono ?_
                rintro e wb ⟨lv9, rfl, hd9, hb9⟩
                obtain ⟨ao9, cap9, rfl⟩ := hd9.val
                refine hK _ _ (hSa.trans (fr_below hb9 fun _ => False) (fun _ _ h => h) (fun _ _ h => h.elim)) ?_
                have HD9 := Lib.hid hd9
                have HB9 := Lib.hid (hba.trans (hb9.mono hba.size))
                clear hK K hd9 hb9 hba hSa
                try simp only [List.setIfInBounds_toArray, List.set_cons_zero, List.set_cons_succ]
                refine extS_one (i := 6) (by kernel_rfl) rfl (fun wc9 hbc hSc => ?_)
                have hbc9 := HB9.out.trans (hbc.mono HB9.out.size)
                intro K hK
                go_simp
                refine (HSM.out wc9 _ _ (HD9.out.grown hbc) hbc9).mono ?_
                rintro e wd ⟨rfl, hbd⟩
                refine hK _ _ (hSc.trans (fr_below hbd fun _ => False) (fun _ _ h => h) (fun _ _ h => h.elim)) ?_
                have HB10 := Lib.hid (hbc9.trans (hbd.mono hbc9.size))
                clear hK K HD9 hbc hSc hbd hbc9
                try simp only [List.setIfInBounds_toArray, List.set_cons_zero, List.set_cons_succ]
                refine extS_take (i := 7) (d := 210) (v := ?_) rfl rfl (by kernel_rfl) (by kernel_rfl) (by kernel_rfl) (fun _ _ _ h => h) (by rfl) (fun W hS => ?_) ?_
                rotate_left
                · skip
                  refine gives_value (w := W) ⟨Below.refl _ _, hS⟩ ?_; go_simp; try with_reducible rfl
                simp only [List.setIfInBounds_toArray, List.set_cons_zero, List.set_cons_succ]
                refine extS_one (i := 8) (by kernel_rfl) rfl (fun we hbe hSe => ?_)
                have hbx := HB10.out.trans (hbe.mono HB10.out.size)
                obtain ⟨_, hc2⟩ := HCL.out we hbx
                obtain ⟨p0, p1, p2, pf⟩ := three_cells hc2
                have HF9 := Lib.hid (HFIN.out we hbx)
                have HTB : Hid (∀ a b c, (tri we (w.heap.size + 1 + 1) a b c).heap[w.heap.size + 1 + 1]? = some (.cells #[a, b, c] 28 (0, 0))) := Lib.hid fun a b c => tri_blk hc2 a b c
                have HFT : Hid (∀ a b c, Fr (fun j => j = w.heap.size + 1 + 1) wr (tri we (w.heap.size + 1 + 1) a b c)) := Lib.hid fun a b c => hSe.trans (fr_tri we (w.heap.size + 1 + 1) a b c) (fun _ _ h => h) (fun _ _ h => h)
                have HSZ9 : Hid (w.heap.size + 1 + 1 < we.heap.size) := Lib.hid (Array.getElem?_eq_some_iff.1 hc2).1
                unfold tri at HTB HFT HF9
                clear hbx hc2 hbe hSe
                intro K hK
                go_simp
                refine hK _ _ (HFT.out _ _ _) ?_
                clear hK K p0 p1 p2 pf
                try simp only [List.setIfInBounds_toArray, List.set_cons_zero, List.set_cons_succ]
                refine extS_take (i := 9) (d := 7) (v := ?_) rfl rfl (by kernel_rfl) (by kernel_rfl) (by kernel_rfl) (fun _ _ _ h => h) (by rfl) (fun W hS => ?_) ?_
                rotate_left
                · skip
                  refine gives_value (w := W) ⟨Below.refl _ _, hS⟩ ?_; go_simp; try with_reducible rfl
                simp only [List.setIfInBounds_toArray, List.set_cons_zero, List.set_cons_succ]
                refine extS_done (by kernel_rfl) (fun wf hbf _ => ?_) _
                obtain ⟨p0, p1, p2, _⟩ := three_cells ((hbf.block _ (by have := HSZ9.out; simp; exact this)).trans (HTB.out _ _ _))
                have HF10 := Lib.hid (HF9.out _ _ _ wf hbf)
                clear hbf
                go_wp2
                refine bodyPost_ret (v := .tuple #[docU M' (.slice ao3 M'.cells.length cap3), .bool sm]) (by simp [docU, results, Try.results10, go_sem, p0, p1, p2]) rfl ?_
                exact ⟨_, sm, rfl, HSE.out, HF10.out⟩
end Go.Proofs.Ytnhffeppbliabaa
