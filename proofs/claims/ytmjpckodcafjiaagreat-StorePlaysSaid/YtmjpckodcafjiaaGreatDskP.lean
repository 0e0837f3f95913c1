/- A disk in memory: the contracts of fits, Write, Rename, Remove, Read. -/
import Derived.Test.YtmjpckodcafjiaaGreatDskO
namespace Go.Proofs.YtmjpckodcafjiaaGreat
open Go.RowKit

def fitsD (d : DS) (n : Nm) (s : Nat) : Bool := decide ((if fhas d.shown n then d.shown.length else d.shown.length + 1) ≤ 512) && decide (tot d.shown - fsz d.shown n + s ≤ d.room)

set_option maxHeartbeats 1000000 in
set_option maxRecDepth 100000 in
theorem fits_any {w : World} {S : Nat → Prop} {p : Nat} {d : DS} (h : Dk w S p d) (hsz : d.sz < 1099511627776) {n : Nm} (hn : n.length ≤ 1000) (s : Nat) (hs : s ≤ 65536) :
    Calls Tryz.prog 70 #[.pointer (some ⟨p, 0, none⟩), nmV n, .int .i64 (s : Int)] w fun e w' => e = .returned (.bool (fitsD d n s)) ∧ ∃ q, w' = w.drewN q := by
  obtain ⟨m1, m2, cv, h⟩ := h
  have c0 := h.c0
  have c3 := h.c3
  have c4 := h.c4
  have htot := h.totShown hsz
  have hap := h.shown.apart
  have hlen := lenShown d
  have hfl := fsz_tot hap n
  have hroom := h.room
  obtain ⟨es, hm, hz, _⟩ := h.shown
  have hel := hz.length
  have hhas := hz.has n
  have HM := Lib.hid hm
  have HZ := Lib.hid hz
  have HN := Lib.hid (maxLen_1000 hn)
  have HR : Hid (d.room ≤ 1073741824) := Lib.hid hroom
  have HTT : Hid (tot d.shown < 4611686018427387904) := Lib.hid htot
  have HFL := Lib.hid hfl
  have HLEN : Hid (d.shown.length < 1099511627776) := Lib.hid (by omega)
  have HHAS := Lib.hid hhas
  have HEL := Lib.hid hel
  obtain ⟨z, hz'⟩ : ∃ z, z = tot d.shown - fsz d.shown n := ⟨_, rfl⟩
  have hw1 : wrap64 ((tot d.shown : Int) - (fsz d.shown n : Int)) = (z : Int) := by rw [w64_id (by omega) (by omega)]; omega
  have hw2 : wrap64 ((z : Int) + (s : Int)) = ((z + s : Nat) : Int) := by rw [w64_id (by omega) (by omega)]; omega
  have HZE := Lib.hid hz'
  clear h hsz hm hz hap hroom htot hfl hlen hel hhas hz'
  go_enter Tryz.func70, Tryz.ntmps70
  go_wp2_with fail
  refine (many_any c3 HM.out).mono ?_
  rintro e w1 ⟨rfl, rfl⟩
  rw [HEL.out]
  go_wp2_with fail
  refine (has_any c3 HM.out HN.out).mono ?_
  rintro e w2 ⟨rfl, rfl⟩
  rw [HHAS.out]
  have HSZ : Hid (∀ q, Calls Tryz.prog 87 #[.pointer (some ⟨p, 3, none⟩), nmV n] (w2.drewN q) fun e w' => e = .returned (.int .i64 (fsz d.shown n : Int)) ∧ w' = w2.drewN q) :=
    Lib.hid fun q => sizeOf_any (w := w2.drewN q) (B := Typ w2 S 5) (l := d.shown) c3 (HM.out.keep fun _ _ => rfl) HZ.out HN.out
  obtain ⟨many, hmany⟩ : ∃ many : Int, many = (d.shown.length : Int) := ⟨_, rfl⟩
  rw [← hmany]
  have HMY := Lib.hid hmany
  clear hmany
  cases hh : fhas d.shown n
  · obtain ⟨many2, hm2⟩ : ∃ many2 : Int, many2 = ((d.shown.length + 1 : Nat) : Int) := ⟨_, rfl⟩
    have hwm : wrap64 (many + 1) = many2 := by
      have h1 := HMY.out
      have h2 := HLEN.out
      rw [w64_id (by omega) (by omega), hm2, h1]
      rfl
    have HM2 := Lib.hid hm2
    have HF : Hid (fitsD d n s = (decide (d.shown.length + 1 ≤ 512) && decide (z + s ≤ d.room))) := Lib.hid (by unfold fitsD; rw [hh, HZE.out]; rfl)
    clear hh hm2
    by_cases h512 : many2 ≤ 512
    · go_wp2_with fail
      go_quiet ((go_at_call 87; exact Calls.quiet_of_same (HSZ.out _)))
      go_wp2
      go_ret
      refine ⟨?_, _, rfl⟩
      rw [HF.out]
      refine ret_bool ?_
      have h1 := HM2.out
      rw [decide_eq_true (p := d.shown.length + 1 ≤ 512) (by omega), Bool.true_and, decide_eq_decide]
      omega
    · have hdb : decide (many2 ≤ 512) = false := decide_eq_false h512
      go_wp2_with fail
      go_quiet ((go_at_call 87; exact Calls.quiet_of_same (HSZ.out _)))
      go_wp2
      go_ret
      refine ⟨?_, _, rfl⟩
      rw [HF.out]
      refine ret_bool ?_
      have h1 := HM2.out
      rw [decide_eq_false (p := d.shown.length + 1 ≤ 512) (by omega), Bool.false_and]
  · have HF : Hid (fitsD d n s = (decide (d.shown.length ≤ 512) && decide (z + s ≤ d.room))) := Lib.hid (by unfold fitsD; rw [hh, HZE.out]; rfl)
    clear hh
    by_cases h512 : many ≤ 512
    · go_wp2_with fail
      go_quiet ((go_at_call 87; exact Calls.quiet_of_same (HSZ.out _)))
      go_wp2
      go_ret
      refine ⟨?_, _, rfl⟩
      rw [HF.out]
      refine ret_bool ?_
      have h1 := HMY.out
      rw [decide_eq_true (p := d.shown.length ≤ 512) (by omega), Bool.true_and, decide_eq_decide]
      omega
    · have hdb : decide (many ≤ 512) = false := decide_eq_false h512
      go_wp2_with fail
      go_quiet ((go_at_call 87; exact Calls.quiet_of_same (HSZ.out _)))
      go_wp2
      go_ret
      refine ⟨?_, _, rfl⟩
      rw [HF.out]
      refine ret_bool ?_
      have h1 := HMY.out
      rw [decide_eq_false (p := d.shown.length ≤ 512) (by omega), Bool.false_and]

theorem fitsD_iff {d : DS} (hap : Apart d.shown) (n : Nm) (b : List Nat) : fitsD d n b.length = false ↔ (512 < (fput d.shown n b).length ∨ d.room < tot (fput d.shown n b)) := by
  have h1 := fput_length hap n b
  have h2 := tot_put hap n b
  have h3 := fsz_tot hap n
  unfold fitsD
  rw [← h1, Bool.and_eq_false_iff, decide_eq_false_iff_not, decide_eq_false_iff_not]
  omega
theorem dwork_ok (d : DS) : (dwork d).1.sz = d.sz ∧ (dwork d).1.shown = d.shown ∧ (dwork d).1.room = d.room := ⟨by unfold dwork DS.sz; split <;> rfl, dwork_shown d, dwork_room d⟩

def WPost (S : Nat → Prop) (p : Nat) (w : World) (r : DS × Nat) (e : Ending) (w' : World) : Prop := e = .returned (errV r.2) ∧ DPost S p w w' r.1

set_option maxHeartbeats 2000000 in
set_option maxRecDepth 100000 in
theorem writeD_any {w : World} {S : Nat → Prop} {p : Nat} {d : DS} (h : Dk w S p d) (hsz : d.sz < 1099511627776) {n : Nm} (hn : n.length ≤ 9223372036854775807) {v : Value} {b : List Nat} (hv : At w (fun j => ¬ S j) .u8 v b) (hb : ∀ y ∈ b, y < 256) :
    Calls Tryz.prog 41 #[.pointer (some ⟨p, 0, none⟩), nmV n, v] w (WPost S p w (dwrite d n b)) := by
  obtain ⟨m1, m2, cv, h⟩ := h
  obtain ⟨ao, cap, rfl, _, _, _⟩ := hv.reads.val
  have HSZ := Lib.hid hsz
  have HV := Lib.hid hv
  have HB := Lib.hid hb
  have H := Lib.hid h
  clear h hsz hv hb
  go_enter Tryz.func41, Tryz.ntmps41
  go_wp2_with fail
  refine (operate_any H.out).mono ?_
  rintro e w1 ⟨rfl, hd1, hfr1⟩
  have HFR1 : Hid (Fr S w w1) := Lib.hid (hfr1.mono fun j _ hj => by rw [hj]; exact H.out.inS)
  have HD1 : Hid (Dk w1 S p (dwork d).1) := Lib.hid ⟨m1, m2, cv, hd1⟩
  have HAP : Hid (Apart d.shown) := Lib.hid H.out.shown.apart
  clear hfr1 hd1
  by_cases hbad : (dwork d).2 = 0
  · obtain ⟨hs1, hs2, hs3⟩ := dwork_ok d
    rw [hbad, errV_zero]
    obtain ⟨d1, hd1e⟩ : ∃ d1, d1 = (dwork d).1 := ⟨_, rfl⟩
    rw [← hd1e] at HD1 hs1 hs2 hs3
    have HEQ := Lib.hid hd1e
    have HS := Lib.hid (And.intro hs1 (And.intro hs2 hs3))
    have HBAD := Lib.hid hbad
    clear hbad hs1 hs2 hs3 hd1e
    have hend : ∀ (k : Nat), dwrite d n b = (d1, k) → WPost S p w (dwrite d n b) (.returned (errV k)) w1 := fun k hk => by
      rw [hk]
      exact ⟨rfl, DPost.same HD1.out HFR1.out⟩
    have HEND := Lib.hid hend
    clear hend
    go_wp2_with fail
    refine (named_any n hn w1).mono ?_
    rintro e w1 ⟨rfl, rfl⟩
    cases hnm : named n
    · have HE : Hid (dwrite d n b = (d1, 2)) := Lib.hid (by unfold dwrite; rw [if_neg (by simp [HBAD.out]), if_pos hnm, ← HEQ.out])
      have e2 : Value.iface 58 (.int .i64 2) = errV 2 := (errV_pos (by decide)).symm
      have E2 := Lib.hid e2
      clear hnm e2
      go_wp2
      go_ret
      have := HEND.out 2 HE.out
      rw [← E2.out] at this
      exact this
    · have HNM := Lib.hid hnm
      have HNL : Hid (n.length ≤ 24) := Lib.hid (by
        unfold named at hnm
        simp only [Bool.and_eq_true, decide_eq_true_eq] at hnm
        omega)
      clear hnm
      by_cases hlong : (65536 : Int) < (b.length : Int)
      · have HE : Hid (dwrite d n b = (d1, 3)) := Lib.hid (by unfold dwrite; rw [if_neg (by simp [HBAD.out]), if_neg (by simp [HNM.out]), if_pos (by omega), ← HEQ.out])
        have e2 : Value.iface 58 (.int .i64 3) = errV 3 := (errV_pos (by decide)).symm
        have E2 := Lib.hid e2
        clear e2
        go_wp2
        go_ret
        have := HEND.out 3 HE.out
        rw [← E2.out] at this
        exact this
      · have HLB : Hid (b.length ≤ 65536) := Lib.hid (by omega)
        go_wp2_with fail
        refine (fits_any HD1.out (by rw [HS.out.1]; exact HSZ.out) (Nat.le_trans HNL.out (by decide)) b.length HLB.out).mono ?_
        rintro e w2 ⟨rfl, q, hw2⟩
        have hfe : fitsD d1 n b.length = fitsD d n b.length := by unfold fitsD; rw [HS.out.2.1, HS.out.2.2]
        rw [hfe]
        have HD2 : Hid (Dk w2 S p d1) := Lib.hid (by rw [hw2]; exact HD1.out.keep ⟨Nat.le_refl _, fun _ _ _ => rfl⟩)
        have HFR2 : Hid (Fr S w w2) := Lib.hid (by rw [hw2]; exact ⟨HFR1.out.os, HFR1.out.tape, HFR1.out.output, HFR1.out.size, HFR1.out.block⟩)
        clear hw2 hfe
        cases hfit : fitsD d n b.length
        · have HE : Hid (dwrite d n b = (d1, 5)) := Lib.hid (by unfold dwrite; rw [if_neg (by simp [HBAD.out]), if_neg (by simp [HNM.out]), if_neg (by have := HLB.out; omega), if_pos ((fitsD_iff HAP.out n b).1 hfit), ← HEQ.out])
          have e2 : Value.iface 58 (.int .i64 5) = errV 5 := (errV_pos (by decide)).symm
          have E2 := Lib.hid e2
          clear e2 hfit
          go_wp2
          go_ret
          unfold WPost
          rw [HE.out, ← E2.out]
          exact ⟨rfl, DPost.same HD2.out HFR2.out⟩
        · have HE : Hid (dwrite d n b = (dadd d1 ⟨0, n, [], b⟩, 0)) := Lib.hid (by
            unfold dwrite
            rw [if_neg (by simp [HBAD.out]), if_neg (by simp [HNM.out]), if_neg (by have := HLB.out; omega), if_neg (fun h => by rw [(fitsD_iff HAP.out n b).2 h] at hfit; cases hfit), ← HEQ.out])
          have HV2 := Lib.hid (HV.out.keep (HFR2.out.kept (fun j => ¬ S j) fun _ _ h => h))
          clear hfit
          go_wp2_with fail
          refine (writing_any n _ b w2 HV2.out.reads (Nat.le_trans HLB.out (by decide))).mono ?_
          rintro e w3 ⟨v3, rfl, ho3, hb3⟩
          have HD3 : Hid (Dk w3 (Ext S w2 w3) p d1) := Lib.hid (by
            obtain ⟨n1, n2, cv2, hd⟩ := HD2.out.keep (kept_new hb3 S)
            exact ⟨n1, n2, cv2, hd.blk, .inl hd.inS, fun j hj => hj.lt (fun j hj => HD2.out.lt hj) hb3.size, hd.sure.mono fun _ h => .inl h, hd.shown.mono fun _ h => .inl h, hd.apart, hd.chs.keep (Kept.refl _ _) (fun _ _ => rfl) fun _ h => .inl h, hd.room, hd.fuse, hd.ok, hd.small⟩)
          have hat := ho3.typ (S := Ext S w2 w3) fun j h1 h2 => .inr ⟨h1, h2⟩
          have HCH := Lib.hid (change_any HD3.out (by rw [HS.out.1]; exact HSZ.out) (c := ⟨0, n, [], b⟩) ⟨by simp, Nat.le_trans HNL.out (by decide), by simp, HLB.out, HB.out⟩ hat)
          have HB3 := Lib.hid hb3
          obtain ⟨ao3, cap3, rfl, _, _, _⟩ := ho3.reads.val
          clear hat ho3 hb3
          unfold chV at HCH ⊢
          simp only [] at HCH ⊢
          go_wp2_with fail
          refine HCH.out.mono ?_
          rintro e w4 ⟨rfl, hp4⟩
          have HP4 := Lib.hid hp4
          clear hp4
          go_wp2
          go_ret
          unfold WPost
          rw [HE.out]
          refine ⟨rfl, DPost.trans HFR2.out (fun _ h => h) (fun _ h => .inl h) (DPost.trans (fr_below HB3.out S) (fun _ h => .inl h) (fun _ h => h.imp id fun h => h.1) HP4.out)⟩
  · have HE : Hid (dwrite d n b = dwork d) := Lib.hid (by unfold dwrite; rw [if_pos hbad])
    have HP : Hid (errV (dwork d).2 = .iface 58 (.int .i64 ((dwork d).2 : Int))) := Lib.hid (errV_pos hbad)
    clear hbad
    rw [HP.out]
    go_wp2
    go_ret
    unfold WPost
    rw [HE.out, HP.out]
    exact ⟨rfl, DPost.same HD1.out HFR1.out⟩

end Go.Proofs.YtmjpckodcafjiaaGreat
