/- The contract of package cell's TakeRun. -/
import Derived.Test.YtbihammpdjkonaaTakG
namespace Go.Proofs.Ytbihammpdjkonaa
open Go.RowKit

/-- What TakeRun answers. -/
def TRunPost (p : Nat) (rv : Value) (row : List Nat) (place c : Nat) (w : World) (e : Ending) (w' : World) : Prop :=
  ∃ (v' : Value) (run : List CC) (place' c' : Nat) (fin : List Nat), e = .returned v' ∧ TRun (row.drop place) c run c' fin ∧ Rd w' p rv row place' c' ∧ (c' = 0 → row.drop place' = fin) ∧ w.grownBy w' (some p) ∧
    CellsAt w' (fun j => w.heap.size ≤ j ∧ ∃ cs fr, w'.heap[j]? = some (.cells cs fr (0, 0))) v' (run.map toIC) ∧
    ∃ acc : List (Int × Value), OwnsI w' w.heap.size v' acc ∧ acc.length = run.length ∧ ∀ i, (hi : i < acc.length) → At w' (Own w' w.heap.size 5) .u8 acc[i].2 (run.getD i (0, [])).2

theorem TkS.cells {w : World} {base t p : Nat} {rv rnv lsv : Value} {row : List Nat} {place c : Nat} {acc : List (Int × Value)} {cs : List CC} {last : List Nat} (h : TkS w base t p rv row place c rnv lsv acc cs last) :
    CellsAt w (fun j => base ≤ j ∧ ∃ cs fr, w.heap[j]? = some (.cells cs fr (0, 0))) rnv (cs.map toIC) := by
  refine h.own.cells _ _ (by rw [List.length_map, h.len]) (fun j hj => ?_) (fun i hi => ?_)
  · obtain ⟨cs, hc⟩ := h.own.ty hj
    exact ⟨(h.own.lt j hj).1, cs, _, hc⟩
  · have hi2 : i < cs.length := by rw [← h.len]; exact hi
    obtain ⟨h1, h2⟩ := h.dat i hi
    rw [getD_toIC _ _ hi2]
    exact ⟨h1, h2.mono fun j _ hB => ⟨hB.1, hB.2.elim fun cs hc => ⟨cs, _, hc⟩⟩⟩

theorem Gr.grownBy {p : Nat} {w w' : World} (h : Gr w.heap.size p w w') : w.grownBy w' (some p) :=
  ⟨h.os, h.tape, h.output, h.size, fun j hj hp => h.block j hj (fun e => hp (by rw [e]))⟩
theorem stop_item {left : Nat} {last : List Nat} {row : Option Nat} {rest : List Nat} {a : List CC} {b : List Nat} {r : Option Nat} {d : List Nat} {c : Nat} (h0 : 0 < left) (h : Item left last row rest a b r d c) (hc : c ≠ 0) : TI left last row rest [] c [] := .stop h0 h hc

/-- A flag: no error. -/
def noErr : Value → Nat
  | .nilIface => 1
  | _ => 0

set_option maxHeartbeats 4000000 in
set_option maxRecDepth 100000 in
theorem takeRun_any {w : World} {p : Nat} {rv : Value} {row : List Nat} {place c : Nat} (hr : Rd w p rv row place c) :
    Calls Try.prog 33 #[.pointer (some ⟨p, 0, none⟩)] w (TRunPost p rv row place c w) := by
  have e3 : Value.iface 72 (.int .i64 3) = errV 3 := (errV_pos (by decide)).symm
  have E3 := Lib.hid e3
  clear e3
  obtain ⟨W0, hW0⟩ : ∃ W0, W0 = w.alloc (.cells #[.pointer (some ⟨p, 0, none⟩), .slice none 0 0, .slice none 0 0] 92) := ⟨_, rfl⟩
  have hb0 : Below w.heap.size w W0 := by rw [hW0]; exact (Below.refl _ _).alloc (Nat.le_refl _) _
  have htk : Tkr W0 w.heap.size p (.slice none 0 0) (.slice none 0 0) := by
    unfold Tkr
    rw [hW0]
    exact heap_alloc_new _ _
  have h0 : TkS W0 w.heap.size w.heap.size p rv row place c (.slice none 0 0) (.slice none 0 0) [] [] [] :=
    ⟨htk, hr.below hb0 (Nat.le_refl _), ownsI_nil _ _, rfl, fun i hi => by simp at hi, ⟨reads_none _ _, .inl rfl⟩, Nat.le_refl _⟩
  have H0 := Lib.hid h0
  have HG0 : Hid (Gr w.heap.size p w W0) := Lib.hid (gr_below hb0 (Nat.le_refl _))
  have HS0 : Hid (w.heap.size ≤ W0.heap.size) := Lib.hid hb0.size
  clear h0 htk hb0 hr
  go_enter Try.func33, Try.ntmps33
  go_wp2_with fail
  rw [← hW0, E3.out]
  refine (upTo_any H0.out.tk H0.out.rd 64 3 (by decide) (by decide)).mono ?_
  rintro e w1 ⟨n, pl1, c1, rfl, hn, hrd, hg⟩
  have HN := Lib.hid hn
  have H1 := Lib.hid (H0.out.read hg hrd)
  have HG1 : Hid (Gr w.heap.size p w w1) := Lib.hid (HG0.out.trans (gr_grown hg HS0.out (fun j hj => .inl (by simpa using hj.symm))))
  have HS1 : Hid (w.heap.size ≤ w1.heap.size) := Lib.hid (Nat.le_trans HS0.out hg.size)
  clear hn hrd hg H0 HG0 HS0 hW0
  obtain ⟨z, hz⟩ : ∃ z, z = upR n 64 := ⟨_, rfl⟩
  obtain ⟨d, hd⟩ : ∃ d, d = upC n c1 64 3 := ⟨_, rfl⟩
  rw [← hd] at H1
  rw [← hz]
  have hz64 : z ≤ 64 := by rw [hz]; exact upR_le _ _
  -- what the beginning says
  have HTOP : Hid ((d ≠ 0 → TRun (row.drop place) c [] d []) ∧ (d = 0 → z = n ∧ c1 = 0 ∧ n ≤ 64)) := Lib.hid (by
    refine ⟨fun h => ?_, fun h => ?_⟩
    · by_cases hc1 : c1 = 0
      · have h64 : 64 < n := by
          by_cases h6 : 64 < n
          · exact h6
          · rw [hd] at h; unfold upC at h; rw [if_neg h6] at h; exact absurd hc1 h
        have : d = 3 := by rw [hd]; unfold upC; rw [if_pos h64, if_pos hc1]
        exact ⟨n, _, c1, HN.out, .inr (.inl ⟨hc1, h64, rfl, this, rfl⟩)⟩
      · have : d = c1 := by rw [hd]; exact upC_had (numr_err HN.out hc1) rfl
        exact ⟨n, _, c1, HN.out, .inl ⟨hc1, rfl, this, rfl⟩⟩
    · have h6 : ¬ 64 < n := by
        intro h6
        rw [hd] at h; unfold upC at h; rw [if_pos h6] at h; split at h <;> omega
      exact ⟨by rw [hz]; unfold upR; rw [if_neg h6], by rw [hd] at h; unfold upC at h; rw [if_neg h6] at h; exact h, by omega⟩)
  have HFIX : Hid (d = 0 → ∀ run c2 fin, TI z [] none (row.drop pl1) run c2 fin → (c2 ≠ 0 → TRun (row.drop place) c [] c2 []) ∧ (c2 = 0 → TRun (row.drop place) c run 0 fin)) := Lib.hid (by
    intro h run c2 fin ht
    obtain ⟨h1, h2, h3⟩ := HTOP.out.2 h
    have hnn := HN.out
    rw [h2] at hnn
    rw [h1] at ht
    exact ⟨fun hc => ⟨n, _, 0, hnn, .inr (.inr ⟨rfl, h3, run, c2, fin, ht, rfl, by rw [if_neg hc], by rw [if_neg hc]⟩)⟩,
      fun hc => by subst hc; exact ⟨n, _, 0, hnn, .inr (.inr ⟨rfl, h3, run, 0, fin, ht, rfl, by rw [if_pos rfl], by rw [if_pos rfl]⟩)⟩⟩)
  have HZ64 := Lib.hid hz64
  clear hz hd hz64
  go_wp2
  go_loopw [] (fun wr => ∃ (pl cc : Nat) (rnv lsv : Value) (acc : List (Int × Value)) (cs : List CC) (last : List Nat), TkS wr w.heap.size w.heap.size p rv row pl cc rnv lsv acc cs last ∧ Gr w.heap.size p w wr ∧ w.heap.size ≤ wr.heap.size ∧
      last.length ≤ 64 ∧ cs.length ≤ z ∧ (cc ≠ 0 → TRun (row.drop place) c [] cc []) ∧
      (cc = 0 → d = 0 ∧ ∀ run c2 fin, TI (z - cs.length) last (rowO (lastK cs)) (row.drop pl) run c2 fin → TI z [] none (row.drop pl1) (cs ++ run) c2 fin))
    (fun wr => 2 * (64 - lenOf ((wr.cell? ⟨w.heap.size, 1, none⟩).getD .nilIface)) + noErr ((wr.cell? ⟨p, 2, none⟩).getD (.int .i64 0)))
  case atStart =>
    exact ⟨pl1, d, _, _, [], [], [], H1.out, HG1.out, HS1.out, by simp, by simp, HTOP.out.1, fun h => ⟨h, fun run c2 fin ht => ht⟩⟩
  case round =>
    obtain ⟨pl, cc, rnv, lsv, acc, cs, last, hS, hG, hsz, hll, hcl, herr, hti⟩ := hrel
    have HS := Lib.hid hS
    have HG := Lib.hid hG
    have HSZ := Lib.hid hsz
    have HLL := Lib.hid hll
    have HCL := Lib.hid hcl
    have HERR := Lib.hid herr
    have HTI := Lib.hid hti
    have HLEN : Hid (acc.length = cs.length) := Lib.hid hS.len
    have hacl : acc.length ≤ 64 := by have := HZ64.out; have := hS.len; omega
    obtain ⟨ao, cap, hv⟩ := hS.own.form
    subst hv
    have t0 := hS.tk.c0
    have t1 := hS.tk.c1
    have e2 := hS.rd.c2
    have HT1 := Lib.hid t1
    have HE2 := Lib.hid e2
    clear hS hG hsz hll hcl herr hti e2
    by_cases hc : cc = 0
    · subst hc
      by_cases hlt : (acc.length : Int) < (z : Int)
      · have hsub : IntKind.i64.wrap ((z : Int) - (acc.length : Int)) = ((z - acc.length : Nat) : Int) := by have := HZ64.out; rw [show ((z : Int) - (acc.length : Int)) = ((z - acc.length : Nat) : Int) by omega]; exact IntWalk.i64_in _ (by omega)
        go_wp2_with fail
        refine (err_any HS.out.rd).mono ?_
        rintro e w3 ⟨rfl, rfl⟩
        rw [errV_zero]
        go_wp2_with fail
        refine (takeItem_any HS.out (z - acc.length) (by omega) (by have := HZ64.out; have := HLEN.out; omega) HSZ.out HLL.out).mono ?_
        rintro e w3 ⟨cells, last', row', rest', c', place', rnv', lsv', acc', rfl, hitem, hS2, hz, hgr⟩
        have HS2 := Lib.hid hS2
        have HIT := Lib.hid hitem
        have HZ2 := Lib.hid hz
        have HGR := Lib.hid hgr
        have HLT := Lib.hid hlt
        clear hS2 hitem hz hgr hlt hsub t0 t1
        go_wp2
        go_roundw
        case rel =>
          have hl := HLEN.out
          have h64 := HZ64.out
          refine ⟨place', c', rnv', lsv', acc', _, _, HS2.out, HG.out.trans HGR.out, Nat.le_trans HSZ.out HGR.out.size, ?_, ?_, fun h0 => ?_, fun h0 => ?_⟩
          · by_cases h0 : c' = 0
            · rw [if_pos h0]; exact (HZ2.out h0).2.2.1
            · rw [if_neg h0]; exact HLL.out
          · by_cases h0 : c' = 0
            · rw [if_pos h0, List.length_append]; have := (HZ2.out h0).2.2.2.2; have := HLT.out; omega
            · rw [if_neg h0]; exact HCL.out
          · obtain ⟨hd, ht⟩ := HTI.out trivial
            have hlt := HLT.out
            have hh := HIT.out
            rw [hl] at hh
            have := stop_item (by omega) hh h0
            exact (HFIX.out hd _ _ _ (ht [] c' [] this)).1 h0
          · obtain ⟨hd, ht⟩ := HTI.out trivial
            subst h0
            obtain ⟨h1, h2, h3, h4, h5⟩ := HZ2.out rfl
            refine ⟨hd, fun run c2 fin hti => ?_⟩
            rw [if_pos rfl, if_pos rfl] at hti
            try rw [if_pos rfl]
            rw [List.append_assoc]
            refine ht _ _ _ ?_
            have hh := HIT.out
            rw [hl] at hh
            rw [h1, h2] at hh
            have hlt := HLT.out
            refine .more (by omega) hh ?_
            rw [show z - cs.length - cells.length = z - (cs ++ cells).length by rw [List.length_append]; omega]
            exact hti
        case measure =>
          have hl := HLEN.out
          have h64 := HZ64.out
          have hlt := HLT.out
          have hs2 := HS2.out
          rw [hs2.tk.c1, hs2.rd.c2, HT1.out, HE2.out]
          obtain ⟨ao2, cap2, hv2⟩ := hs2.own.form
          have hl2 := hs2.len
          rw [hv2]
          by_cases h0 : c' = 0
          · obtain ⟨_, _, _, h4, h5⟩ := HZ2.out h0
            rw [if_pos h0, List.length_append] at hl2
            subst h0
            simp only [Option.getD_some, errV_zero, lenOf, noErr]
            omega
          · rw [if_neg h0] at hl2
            simp only [Option.getD_some, errV_zero, errV_pos h0, lenOf, noErr]
            omega
      · have hze : acc.length = z := by have := HCL.out; have := HLEN.out; omega
        have HZE := Lib.hid hze
        clear hze
        go_wp2_with fail
        refine (err_any HS.out.rd).mono ?_
        rintro e w3 ⟨rfl, rfl⟩
        rw [errV_zero]
        go_wp2_with fail
        refine (err_any HS.out.rd).mono ?_
        rintro e w3 ⟨rfl, rfl⟩
        rw [errV_zero]
        go_wp2
        obtain ⟨hd, ht⟩ := HTI.out trivial
        have hrun := ht [] 0 (row.drop pl) (by
          rw [show z - cs.length = 0 by have := HZE.out; have := HLEN.out; omega]
          exact .over)
        rw [List.append_nil] at hrun
        exact bodyPost_ret (v := _) (by (simp [results, Try.results33, go_sem]; done)) rfl ⟨_, cs, pl, 0, row.drop pl, rfl, (HFIX.out hd _ _ _ hrun).2 rfl, HS.out.rd, fun _ => rfl, HG.out.grownBy, HS.out.cells, acc, HS.out.own, HS.out.len, fun i hi => (HS.out.dat i hi).2⟩
    · have HC := Lib.hid hc
      have hev := errV_pos hc
      clear hc
      go_wp2_with fail
      refine (err_any HS.out.rd).mono ?_
      rintro e w3 ⟨rfl, rfl⟩
      rw [hev]
      go_wp2_with fail
      refine (err_any HS.out.rd).mono ?_
      rintro e w3 ⟨rfl, rfl⟩
      rw [hev]
      go_wp2
      exact bodyPost_ret (v := _) (by (simp [results, Try.results33, go_sem]; done)) rfl ⟨_, [], pl, cc, [], rfl, HERR.out HC.out, HS.out.rd, fun h => absurd h HC.out, HG.out.grownBy, cells_nil _ _, [], ownsI_nil _ _, rfl, fun i hi => by simp at hi⟩

end Go.Proofs.Ytbihammpdjkonaa
