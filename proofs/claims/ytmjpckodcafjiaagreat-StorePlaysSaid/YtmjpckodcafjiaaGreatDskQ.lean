/- A disk in memory: the contracts of Rename, Remove, Read. -/
import Derived.Test.YtmjpckodcafjiaaGreatDskP
namespace Go.Proofs.YtmjpckodcafjiaaGreat
open Go.RowKit

theorem errV_if (c : Nat) (h : c ≠ 0) : Value.iface 58 (.int .i64 (c : Int)) = errV c := (errV_pos h).symm
theorem At.none_any (w : World) (B : Nat → Prop) : At w B .u8 (.slice none 0 0) [] := ⟨⟨none, 0, rfl, by simp, by simp [maxLen], fun _ => rfl, .inl rfl⟩, .inl rfl⟩

set_option maxHeartbeats 2000000 in
set_option maxRecDepth 100000 in
theorem removeD_any {w : World} {S : Nat → Prop} {p : Nat} {d : DS} (h : Dk w S p d) (hsz : d.sz < 1099511627776) {n : Nm} (hn : n.length ≤ 9223372036854775807) :
    Calls Tryz.prog 44 #[.pointer (some ⟨p, 0, none⟩), nmV n] w (WPost S p w (dremove d n)) := by
  obtain ⟨m1, m2, cv, h⟩ := h
  have HSZ := Lib.hid hsz
  have H := Lib.hid h
  clear h hsz
  go_enter Tryz.func44, Tryz.ntmps44
  go_wp2_with fail
  refine (operate_any H.out).mono ?_
  rintro e w1 ⟨rfl, hd1, hfr1⟩
  have HFR1 : Hid (Fr S w w1) := Lib.hid (hfr1.mono fun j _ hj => by rw [hj]; exact H.out.inS)
  have HV1 := Lib.hid hd1
  clear hfr1 hd1
  by_cases hbad : (dwork d).2 = 0
  · obtain ⟨hs1, hs2, _⟩ := dwork_ok d
    rw [hbad, errV_zero]
    obtain ⟨d1, hd1e⟩ : ∃ d1, d1 = (dwork d).1 := ⟨_, rfl⟩
    rw [← hd1e] at HV1 hs1 hs2
    have HEQ := Lib.hid hd1e
    have HS := Lib.hid (And.intro hs1 hs2)
    have HBAD := Lib.hid hbad
    have HD1 : Hid (Dk w1 S p d1) := Lib.hid ⟨m1, m2, cv, HV1.out⟩
    clear hbad hs1 hs2 hd1e
    have HEND : Hid (∀ (k : Nat), dremove d n = (d1, k) → WPost S p w (dremove d n) (.returned (errV k)) w1) := Lib.hid fun k hk => by
      rw [hk]
      exact ⟨rfl, DPost.same HD1.out HFR1.out⟩
    go_wp2_with fail
    refine (named_any n hn w1).mono ?_
    rintro e w1 ⟨rfl, rfl⟩
    cases hnm : named n
    · have HE : Hid (dremove d n = (d1, 2)) := Lib.hid (by unfold dremove; rw [if_neg (by simp [HBAD.out]), if_pos hnm, ← HEQ.out])
      clear hnm
      go_wp2
      go_ret
      have := HEND.out 2 HE.out
      rw [← errV_if 2 (by decide)] at this
      exact this
    · have HNM := Lib.hid hnm
      have HNL : Hid (n.length ≤ 24) := Lib.hid (by
        unfold named at hnm
        simp only [Bool.and_eq_true, decide_eq_true_eq] at hnm
        omega)
      obtain ⟨es, hm, hz, _⟩ := HV1.out.shown
      have hhas := hz.has n
      rw [HS.out.2] at hhas
      have HM := Lib.hid hm
      have HHAS := Lib.hid hhas
      have c3 := HV1.out.c3
      clear hnm hm hz hhas
      go_wp2_with fail
      refine (has_any c3 HM.out (Nat.le_trans HNL.out (by simp [maxLen]))).mono ?_
      rintro e w1 ⟨rfl, rfl⟩
      rw [HHAS.out]
      cases hh : fhas d.shown n
      · have HE : Hid (dremove d n = (d1, 4)) := Lib.hid (by unfold dremove; rw [if_neg (by simp [HBAD.out]), if_neg (by simp [HNM.out]), if_pos hh, ← HEQ.out])
        clear hh
        go_wp2
        go_ret
        have := HEND.out 4 HE.out
        rw [← errV_if 4 (by decide)] at this
        exact this
      · have HE : Hid (dremove d n = (dadd d1 ⟨2, n, [], []⟩, 0)) := Lib.hid (by unfold dremove; rw [if_neg (by simp [HBAD.out]), if_neg (by simp [HNM.out]), if_neg (by simp [hh]), ← HEQ.out])
        have HCH := Lib.hid (change_any HD1.out (by rw [HS.out.1]; exact HSZ.out) (c := ⟨2, n, [], []⟩) ⟨by simp, Nat.le_trans HNL.out (by decide), by simp, by simp, by simp⟩ (At.none_any _ _))
        clear hh c3
        unfold chV at HCH
        simp only [] at HCH
        have HCI : Hid (Calls Tryz.prog 71 #[.pointer (some ⟨p, 0, none⟩), .agg #[.int .i64 2, nmV n, .string { data := #[] }, .slice none 0 0]] w1 fun e w' => e = .returned (.tuple #[]) ∧ DPost S p w1 w' (dadd d1 ⟨2, n, [], []⟩)) := Lib.hid HCH.out
        clear HCH
        obtain ⟨s1, hs1⟩ : ∃ s1 : ByteArray, nmV n = .string s1 := ⟨_, rfl⟩
        rw [hs1] at HCI ⊢
        clear hs1
        go_wp2_with fail
        refine HCI.out.mono ?_
        rintro e w4 ⟨rfl, hp4⟩
        have HP4 := Lib.hid hp4
        clear hp4
        go_wp2
        go_ret
        unfold WPost
        rw [HE.out]
        exact ⟨rfl, DPost.trans HFR1.out (fun _ h => h) (fun _ h => .inl h) HP4.out⟩
  · have HE : Hid (dremove d n = dwork d) := Lib.hid (by unfold dremove; rw [if_pos hbad])
    have HP : Hid (errV (dwork d).2 = .iface 58 (.int .i64 ((dwork d).2 : Int))) := Lib.hid (errV_pos hbad)
    clear hbad
    rw [HP.out]
    go_wp2
    go_ret
    unfold WPost
    rw [HE.out, HP.out]
    exact ⟨rfl, DPost.same ⟨m1, m2, cv, HV1.out⟩ HFR1.out⟩

set_option maxHeartbeats 2000000 in
set_option maxRecDepth 100000 in
theorem renameD_any {w : World} {S : Nat → Prop} {p : Nat} {d : DS} (h : Dk w S p d) (hsz : d.sz < 1099511627776) {n n2 : Nm} (hn : n.length ≤ 9223372036854775807) (hn2 : n2.length ≤ 9223372036854775807) :
    Calls Tryz.prog 43 #[.pointer (some ⟨p, 0, none⟩), nmV n, nmV n2] w (WPost S p w (drename d n n2)) := by
  obtain ⟨m1, m2, cv, h⟩ := h
  have HSZ := Lib.hid hsz
  have H := Lib.hid h
  clear h hsz
  go_enter Tryz.func43, Tryz.ntmps43
  go_wp2_with fail
  refine (operate_any H.out).mono ?_
  rintro e w1 ⟨rfl, hd1, hfr1⟩
  have HFR1 : Hid (Fr S w w1) := Lib.hid (hfr1.mono fun j _ hj => by rw [hj]; exact H.out.inS)
  have HV1 := Lib.hid hd1
  clear hfr1 hd1
  by_cases hbad : (dwork d).2 = 0
  · obtain ⟨hs1, hs2, _⟩ := dwork_ok d
    rw [hbad, errV_zero]
    obtain ⟨d1, hd1e⟩ : ∃ d1, d1 = (dwork d).1 := ⟨_, rfl⟩
    rw [← hd1e] at HV1 hs1 hs2
    have HEQ := Lib.hid hd1e
    have HS := Lib.hid (And.intro hs1 hs2)
    have HBAD := Lib.hid hbad
    have HD1 : Hid (Dk w1 S p d1) := Lib.hid ⟨m1, m2, cv, HV1.out⟩
    clear hbad hs1 hs2 hd1e
    have HEND : Hid (∀ (k : Nat), drename d n n2 = (d1, k) → WPost S p w (drename d n n2) (.returned (errV k)) w1) := Lib.hid fun k hk => by
      rw [hk]
      exact ⟨rfl, DPost.same HD1.out HFR1.out⟩
    go_wp2_with fail
    refine (named_any n hn w1).mono ?_
    rintro e w1 ⟨rfl, rfl⟩
    cases hnm : named n
    · have HE : Hid (drename d n n2 = (d1, 2)) := Lib.hid (by unfold drename; rw [if_neg (by simp [HBAD.out]), if_pos (.inl hnm), ← HEQ.out])
      clear hnm
      go_wp2
      go_ret
      have := HEND.out 2 HE.out
      rw [← errV_if 2 (by decide)] at this
      exact this
    · have HNM := Lib.hid hnm
      have HNL : Hid (n.length ≤ 24) := Lib.hid (by
        unfold named at hnm
        simp only [Bool.and_eq_true, decide_eq_true_eq] at hnm
        omega)
      clear hnm
      go_wp2_with fail
      refine (named_any n2 hn2 w1).mono ?_
      rintro e w1 ⟨rfl, rfl⟩
      cases hnm2 : named n2
      · have HE : Hid (drename d n n2 = (d1, 2)) := Lib.hid (by unfold drename; rw [if_neg (by simp [HBAD.out]), if_pos (.inr hnm2), ← HEQ.out])
        clear hnm2
        go_wp2
        go_ret
        have := HEND.out 2 HE.out
        rw [← errV_if 2 (by decide)] at this
        exact this
      · have HNM2 := Lib.hid hnm2
        have HNL2 : Hid (n2.length ≤ 24) := Lib.hid (by
          unfold named at hnm2
          simp only [Bool.and_eq_true, decide_eq_true_eq] at hnm2
          omega)
        obtain ⟨es, hm, hz, _⟩ := HV1.out.shown
        have hhas := hz.has n
        rw [HS.out.2] at hhas
        have HM := Lib.hid hm
        have HHAS := Lib.hid hhas
        have c3 := HV1.out.c3
        clear hnm2 hm hz hhas
        go_wp2_with fail
        refine (has_any c3 HM.out (Nat.le_trans HNL.out (by simp [maxLen]))).mono ?_
        rintro e w1 ⟨rfl, rfl⟩
        rw [HHAS.out]
        cases hh : fhas d.shown n
        · have HE : Hid (drename d n n2 = (d1, 4)) := Lib.hid (by unfold drename; rw [if_neg (by simp [HBAD.out]), if_neg (by simp [HNM.out, HNM2.out]), if_pos hh, ← HEQ.out])
          clear hh
          go_wp2
          go_ret
          have := HEND.out 4 HE.out
          rw [← errV_if 4 (by decide)] at this
          exact this
        · have HE : Hid (drename d n n2 = (dadd d1 ⟨1, n, n2, []⟩, 0)) := Lib.hid (by unfold drename; rw [if_neg (by simp [HBAD.out]), if_neg (by simp [HNM.out, HNM2.out]), if_neg (by simp [hh]), ← HEQ.out])
          have HCH := Lib.hid (change_any HD1.out (by rw [HS.out.1]; exact HSZ.out) (c := ⟨1, n, n2, []⟩) ⟨by simp, Nat.le_trans HNL.out (by decide), Nat.le_trans HNL2.out (by decide), by simp, by simp⟩ (At.none_any _ _))
          clear hh c3
          unfold chV at HCH
          simp only [] at HCH
          have HCI : Hid (Calls Tryz.prog 71 #[.pointer (some ⟨p, 0, none⟩), .agg #[.int .i64 1, nmV n, nmV n2, .slice none 0 0]] w1 fun e w' => e = .returned (.tuple #[]) ∧ DPost S p w1 w' (dadd d1 ⟨1, n, n2, []⟩)) := Lib.hid HCH.out
          clear HCH
          obtain ⟨s1, hs1⟩ : ∃ s1 : ByteArray, nmV n = .string s1 := ⟨_, rfl⟩
          obtain ⟨s2, hs2⟩ : ∃ s2 : ByteArray, nmV n2 = .string s2 := ⟨_, rfl⟩
          rw [hs1, hs2] at HCI ⊢
          clear hs1 hs2
          go_wp2_with fail
          refine HCI.out.mono ?_
          rintro e w4 ⟨rfl, hp4⟩
          have HP4 := Lib.hid hp4
          clear hp4
          go_wp2
          go_ret
          unfold WPost
          rw [HE.out]
          exact ⟨rfl, DPost.trans HFR1.out (fun _ h => h) (fun _ h => .inl h) HP4.out⟩
  · have HE : Hid (drename d n n2 = dwork d) := Lib.hid (by unfold drename; rw [if_pos hbad])
    have HP : Hid (errV (dwork d).2 = .iface 58 (.int .i64 ((dwork d).2 : Int))) := Lib.hid (errV_pos hbad)
    clear hbad
    rw [HP.out]
    go_wp2
    go_ret
    unfold WPost
    rw [HE.out, HP.out]
    exact ⟨rfl, DPost.same ⟨m1, m2, cv, HV1.out⟩ HFR1.out⟩

def ReadDPost (r : List Nat × Nat) (w : World) (e : Ending) (w' : World) : Prop := ∃ v, e = .returned (.tuple #[v, errV r.2]) ∧ Owns w' w.heap.size 5 .u8 v r.1 ∧ Below w.heap.size w w'

set_option maxHeartbeats 2000000 in
set_option maxRecDepth 100000 in
theorem readD_any {w : World} {S : Nat → Prop} {p : Nat} {d : DS} (h : Dk w S p d) {n : Nm} (hn : n.length ≤ 1000) :
    Calls Tryz.prog 38 #[.pointer (some ⟨p, 0, none⟩), nmV n] w (ReadDPost (dread d n) w) := by
  obtain ⟨m1, m2, cv, h⟩ := h
  have H := Lib.hid h
  have c3 := h.c3
  obtain ⟨es, hm, hz, _⟩ := h.shown
  have hhas := hz.has n
  have HM := Lib.hid hm
  have HZ := Lib.hid hz
  have HHAS := Lib.hid hhas
  have HN : Hid (n.length ≤ maxLen) := Lib.hid (maxLen_1000 hn)
  have HFS : Hid (fsz d.shown n ≤ 65536) := Lib.hid (fsz_le (fun f hf => (h.smallShown f hf).1) n)
  clear h hm hz hhas
  go_enter Tryz.func38, Tryz.ntmps38
  go_wp2_with fail
  refine (able_any H.out).mono ?_
  rintro e w ⟨rfl, rfl⟩
  cases hd : d.down
  · have HD := Lib.hid hd
    clear hd
    rw [if_neg (by decide), errV_zero]
    go_wp2_with fail
    refine (has_any c3 HM.out HN.out).mono ?_
    rintro e w ⟨rfl, rfl⟩
    rw [HHAS.out]
    cases hh : fhas d.shown n
    · have HE : Hid (dread d n = ([], 4)) := Lib.hid (by
        rw [fhas_get, Option.isSome_eq_false_iff, Option.isNone_iff_eq_none] at hh
        unfold dread
        rw [HD.out, hh]
        rfl)
      clear hh
      go_wp2
      go_ret2
      unfold ReadDPost
      rw [HE.out, ← errV_if 4 (by decide)]
      exact ⟨_, rfl, owns_nil _ _ _ _, Below.refl _ _⟩
    · have HE : Hid (dread d n = ((fget d.shown n).getD [], 0)) := Lib.hid (by
        rw [fhas_get] at hh
        obtain ⟨t, ht⟩ := Option.isSome_iff_exists.1 hh
        unfold dread
        rw [HD.out, ht]
        rfl)
      clear hh
      go_wp2_with fail
      refine (text_any c3 HM.out HZ.out HN.out (Nat.le_trans HFS.out (by decide))).mono ?_
      rintro e w2 ⟨v, rfl, ho, hb⟩
      have HO := Lib.hid ho
      have HB := Lib.hid hb
      obtain ⟨ao, cap, rfl, _, _, _⟩ := ho.reads.val
      clear ho hb
      go_wp2
      go_ret2
      unfold ReadDPost
      rw [HE.out]
      exact ⟨_, rfl, HO.out, HB.out⟩
  · have HE : Hid (dread d n = ([], 14)) := Lib.hid (by unfold dread; rw [if_pos hd])
    clear hd
    rw [if_pos rfl, ← errV_if 14 (by decide)]
    go_wp2
    go_ret2
    unfold ReadDPost
    rw [HE.out, ← errV_if 14 (by decide)]
    exact ⟨_, rfl, owns_nil _ _ _ _, Below.refl _ _⟩

end Go.Proofs.YtmjpckodcafjiaaGreat
