/- The contract of a taker's takeRow. -/
import Derived.Test.YtbihammpdjkonaaTakC
namespace Go.Proofs.Ytbihammpdjkonaa
open Go.RowKit

theorem rep_snocC {α : Type} (j : Nat) (x : α) : List.replicate j x ++ [x] = List.replicate (j + 1) x := (List.replicate_succ' (n := j) (a := x)).symm

/-- The error behind a row's kind. -/
def rowC (k c1 : Nat) (lk : Option Nat) : Nat := if upC k c1 3 1 ≠ 0 then upC k c1 3 1 else if k = 1 ∨ lk = some k then 2 else 0
theorem up_zero {k c1 : Nat} (h : upC k c1 3 1 = 0) : c1 = 0 ∧ k ≤ 3 ∧ upR k 3 = k := by
  unfold upC upR at *
  split at h
  · split at h <;> omega
  · next h1 => exact ⟨h, by omega, if_neg h1⟩

/-- What takeRow does. -/
def RowPost (base t p : Nat) (rv : Value) (row : List Nat) (place c : Nat) (lsv : Value) (cs : List CC) (last : List Nat) (many : Nat) (w : World) (e : Ending) (w' : World) : Prop :=
  ∃ (k c1 place' c' : Nat) (rnv' : Value) (acc' : List (Int × Value)), e = .returned (.tuple #[]) ∧ NumRel (row.drop place) c k (row.drop place') c1 ∧ c' = rowC k c1 (lastK cs) ∧
    TkS w' base t p rv row place' c' rnv' lsv acc' (if c' = 0 then cs ++ List.replicate many (k, []) else cs) last ∧ Gr base p w w'

set_option maxHeartbeats 4000000 in
set_option maxRecDepth 100000 in
theorem takeRow_any {w : World} {base t p : Nat} {rv rnv lsv : Value} {row : List Nat} {place c : Nat} {acc : List (Int × Value)} {cs : List CC} {last : List Nat}
    (h : TkS w base t p rv row place c rnv lsv acc cs last) (many : Nat) (hm : cs.length + many ≤ 64) (hbase : base ≤ w.heap.size) :
    Calls Try.prog 67 #[.pointer (some ⟨t, 0, none⟩), .int .i64 (many : Int)] w (RowPost base t p rv row place c lsv cs last many w) := by
  have e1 : Value.iface 72 (.int .i64 1) = errV 1 := (errV_pos (by decide)).symm
  have e2 : Value.iface 72 (.int .i64 2) = errV 2 := (errV_pos (by decide)).symm
  have E1 := Lib.hid e1
  have E2 := Lib.hid e2
  have H := Lib.hid h
  have HBS := Lib.hid hbase
  clear e1 e2 h hbase
  go_enter Try.func67, Try.ntmps67
  go_wp2_with fail
  rw [E1.out]
  refine (upTo_any H.out.tk H.out.rd 3 1 (by decide) (by decide)).mono ?_
  rintro e w1 ⟨k, pl1, c1, rfl, hn, hrd, hg⟩
  have HN := Lib.hid hn
  have H1 := Lib.hid (H.out.read hg hrd)
  have HG1 : Hid (Gr base p w w1) := Lib.hid (gr_grown hg HBS.out (fun j hj => .inl (by simpa using hj.symm)))
  have HB1 : Hid (base ≤ w1.heap.size) := Lib.hid (Nat.le_trans HBS.out hg.size)
  clear hn hrd hg H HBS
  obtain ⟨z, hz⟩ : ∃ z, z = upR k 3 := ⟨_, rfl⟩
  obtain ⟨cz, hcz⟩ : ∃ cz, cz = upC k c1 3 1 := ⟨_, rfl⟩
  rw [← hcz] at H1
  rw [← hz]
  have hz3 : z ≤ 3 := by rw [hz]; unfold upR; split <;> omega
  have HZ := Lib.hid hz
  have HCZ := Lib.hid hcz
  have hal : acc.length ≤ 100 := by have := H1.out.len; omega
  have hdec : (z = 1 ∨ lastK cs = some z) ∨ (z ≠ 1 ∧ lastK cs ≠ some z) := by
    by_cases h1 : z = 1
    · exact .inl (.inl h1)
    · by_cases h2 : lastK cs = some z
      · exact .inl (.inr h2)
      · exact .inr ⟨h1, h2⟩
  clear hz hcz
  rcases hdec with hbad | ⟨hz1, hlk⟩
  · have HBAD := Lib.hid hbad
    have HFIN : Hid ((if cz = 0 then 2 else cz) = rowC k c1 (lastK cs) ∧ (if cz = 0 then 2 else cz) ≠ 0) := Lib.hid (by
      unfold rowC
      rw [← HCZ.out]
      by_cases h0 : cz = 0
      · have hk := up_zero (HCZ.out.symm.trans h0)
        rw [if_pos h0, if_neg (by simpa using h0), if_pos (by rw [← hk.2.2, ← HZ.out]; exact HBAD.out)]
        exact ⟨rfl, by decide⟩
      · rw [if_neg h0, if_pos h0]
        exact ⟨rfl, h0⟩)
    have t0 := H1.out.tk.c0
    have hsp : z = 1 ∨ (z ≠ 1 ∧ lastK cs = some z) := by
      rcases HBAD.out with h | h
      · exact .inl h
      · by_cases h1 : z = 1
        · exact .inl h1
        · exact .inr ⟨h1, h⟩
    clear hbad
    rcases hsp with hz1 | ⟨hz1, hlk⟩
    · subst hz1
      go_wp2_with fail
      rw [E2.out]
      refine (fail_any H1.out.rd 2).mono ?_
      rintro e w2 ⟨rfl, hrd2, hg2⟩
      have H2 := Lib.hid (H1.out.read hg2 hrd2)
      have HG2 := Lib.hid (HG1.out.trans (gr_grown hg2 HB1.out (fun j hj => .inl (by simpa using hj.symm))))
      generalize (if cz = 0 then 2 else cz) = cf at H2 HFIN
      have t2 := H2.out.tk.c0
      clear hrd2 hg2 t0
      go_wp2_with fail
      refine (err_any H2.out.rd).mono ?_
      rintro e w3 ⟨rfl, rfl⟩
      rw [errV_pos HFIN.out.2]
      go_wp2
      exact bodyPost_ret (results_none rfl _ _ _) rfl ⟨k, c1, pl1, cf, rnv, acc, rfl, HN.out, HFIN.out.1, by rw [if_neg HFIN.out.2]; exact H2.out, HG2.out⟩
    · have hz1i : ((z : Int) == 1) = false := by rw [beq_eq_false_iff_ne]; omega
      have hend : endB acc (z : Int) = true := by rw [H1.out.ends, decide_eq_true hlk]
      have HEND := Lib.hid hend
      clear hend hlk
      go_wp2_with fail
      refine (endsWith_any H1.out.tk H1.out.own hal (z : Int)).mono ?_
      rintro e w2 ⟨rfl, rfl⟩
      rw [HEND.out]
      go_wp2_with fail
      rw [E2.out]
      refine (fail_any H1.out.rd 2).mono ?_
      rintro e w2 ⟨rfl, hrd2, hg2⟩
      have H2 := Lib.hid (H1.out.read hg2 hrd2)
      have HG2 := Lib.hid (HG1.out.trans (gr_grown hg2 HB1.out (fun j hj => .inl (by simpa using hj.symm))))
      generalize (if cz = 0 then 2 else cz) = cf at H2 HFIN
      have t2 := H2.out.tk.c0
      clear hrd2 hg2 t0
      go_wp2_with fail
      refine (err_any H2.out.rd).mono ?_
      rintro e w3 ⟨rfl, rfl⟩
      rw [errV_pos HFIN.out.2]
      go_wp2
      exact bodyPost_ret (results_none rfl _ _ _) rfl ⟨k, c1, pl1, cf, rnv, acc, rfl, HN.out, HFIN.out.1, by rw [if_neg HFIN.out.2]; exact H2.out, HG2.out⟩
  · have hz1i : ((z : Int) == 1) = false := by rw [beq_eq_false_iff_ne]; omega
    have hend : endB acc (z : Int) = false := by rw [H1.out.ends, decide_eq_false hlk]
    have HEND := Lib.hid hend
    have HNB : Hid (z ≠ 1 ∧ lastK cs ≠ some z) := Lib.hid ⟨hz1, hlk⟩
    have t0 := H1.out.tk.c0
    clear hend hlk
    go_wp2_with fail
    refine (endsWith_any H1.out.tk H1.out.own hal (z : Int)).mono ?_
    rintro e w2 ⟨rfl, rfl⟩
    rw [HEND.out]
    go_wp2_with fail
    refine (err_any H1.out.rd).mono ?_
    rintro e w3 ⟨rfl, rfl⟩
    by_cases h0 : cz = 0
    · have hk := up_zero (HCZ.out.symm.trans h0)
      have hzk : z = k := by rw [HZ.out]; exact hk.2.2
      have HFIN : Hid (0 = rowC k c1 (lastK cs)) := Lib.hid (by
        unfold rowC
        rw [← HCZ.out, if_neg (by simpa using h0), if_neg (by
          rintro (h | h)
          · exact HNB.out.1 (by rw [hzk]; exact h)
          · exact HNB.out.2 (by rw [hzk]; exact h))])
      subst h0
      subst hzk
      rw [errV_zero]
      clear t0 hz1
      go_wp2
      go_loopw [28] (fun i wr => ∃ (j : Nat) (rnv' : Value) (acc' : List (Int × Value)), j ≤ many ∧ i = .int .i64 (j : Int) ∧ TkS wr base t p rv row pl1 0 rnv' lsv acc' (cs ++ List.replicate j (z, [])) last ∧ Gr base p w wr ∧ base ≤ wr.heap.size)
        (fun i _ => many - (intOf i).toNat)
      case atStart => exact ⟨0, rnv, acc, Nat.zero_le _, rfl, by simpa using H1.out, HG1.out, HB1.out⟩
      case round =>
        obtain ⟨j, rnv', acc', hj, rfl, htk, hgr, hbr⟩ := hrel
        have HTK := Lib.hid htk
        have HGR := Lib.hid hgr
        have HBR := Lib.hid hbr
        have hacl : acc'.length ≤ 100 := by have := htk.len; simp at this; omega
        obtain ⟨aor, capr, hv⟩ := htk.own.form
        subst hv
        have t1 := htk.tk.c1
        clear htk hgr hbr
        by_cases hlt : (j : Int) < (many : Int)
        · obtain ⟨W2, hW2⟩ : ∃ W2, W2 = wr.alloc (.cells #[.int .i64 (z : Int), .slice none 0 0] 24) := ⟨_, rfl⟩
          have hal2 : Below wr.heap.size wr W2 := by rw [hW2]; exact (Below.refl _ _).alloc (Nat.le_refl _) _
          have HT2 := Lib.hid (HTK.out.more hal2)
          have HG2 := Lib.hid (HGR.out.trans (gr_below hal2 HBR.out))
          have HB2 : Hid (base ≤ W2.heap.size) := Lib.hid (Nat.le_trans HBR.out hal2.size)
          rw [hW2] at HT2 HG2 HB2
          clear hal2 hW2
          go_wp2_with (at_builtin; go_must (refine wpList_appI _ rfl _ _ rfl base _ acc' rfl HT2.out.own (z : Int) (.slice none 0 0) rfl wr rfl rfl (by omega) HB2.out ?_))
          intro v3 w3 ho3 hg3
          obtain ⟨ao3, cap3, hv3⟩ := ho3.form
          rw [show (acc' ++ [((z : Int), Value.slice none 0 0)]).length = acc'.length + 1 by simp] at hv3
          subst hv3
          have hp := HT2.out.push hg3 ho3 ⟨reads_none _ _, .inl rfl⟩
          have HP := Lib.hid hp
          have hts : Tkr w3 t p (.slice aor acc'.length capr) lsv := HT2.out.tk.grown hg3 (fun e => HT2.out.own.ne_tk HT2.out.tk e.symm)
          have u1 := hts.c1
          have u2 := hts.fz 1
          have HG3 := Lib.hid ((HG2.out.trans (gr_grown hg3 HB2.out (fun j hj => .inr (HT2.out.own.lt j hj).1))).trans (gr_grown (grown_set w3 t 1 (.slice ao3 (acc'.length + 1) cap3)) (Nat.le_trans HB2.out hg3.size) (fun j hj => .inr (by have := HT2.out.bt; simp at hj; omega))))
          have HB3 : Hid (base ≤ w3.heap.size) := Lib.hid (Nat.le_trans HB2.out hg3.size)
          clear hp ho3 hg3 hts HT2 HG2 HB2 t1
          go_wp2
          go_roundw
          case rel => exact ⟨j + 1, _, _, by omega, by go_num, by rw [← rep_snocC, ← List.append_assoc]; exact HP.out, HG3.out, by simpa using HB3.out⟩
          case measure => simp [intOf]; omega
        · obtain rfl : j = many := by omega
          go_wp2
          exact bodyPost_ret (results_none rfl _ _ _) rfl ⟨z, c1, pl1, 0, _, acc', rfl, HN.out, HFIN.out, by rw [if_pos rfl]; exact HTK.out, HGR.out⟩
    · have HFIN : Hid (cz = rowC k c1 (lastK cs)) := Lib.hid (by
        unfold rowC
        rw [← HCZ.out, if_pos h0])
      rw [errV_pos h0]
      have H0 := Lib.hid h0
      clear h0
      go_wp2
      exact bodyPost_ret (results_none rfl _ _ _) rfl ⟨k, c1, pl1, cz, rnv, acc, rfl, HN.out, HFIN.out, by rw [if_neg H0.out]; exact H1.out, HG1.out⟩

end Go.Proofs.Ytbihammpdjkonaa
