/- The contract of a taker's takeItem. -/
import Derived.Test.YtbihammpdjkonaaTakF
namespace Go.Proofs.Ytbihammpdjkonaa
open Go.RowKit

theorem lastK_data (cs : List CC) (d : List Nat) : rowO (lastK (cs ++ [(1, d)])) = none := by simp [lastK, rowO]
theorem lastK_row (cs : List CC) {n k : Nat} (hn : 0 < n) (hk : k ≠ 1) : rowO (lastK (cs ++ List.replicate n (k, []))) = some k := by
  obtain ⟨m, rfl⟩ : ∃ m, n = m + 1 := ⟨n - 1, by omega⟩
  unfold lastK
  rw [List.replicate_succ', ← List.append_assoc, List.getLast?_append]
  simp [rowO, hk]

/-- What takeItem does. -/
def ItemPost (base t p : Nat) (rv : Value) (row : List Nat) (place : Nat) (cs : List CC) (last : List Nat) (left : Nat) (w : World) (e : Ending) (w' : World) : Prop :=
  ∃ (cells : List CC) (last' : List Nat) (row' : Option Nat) (rest' : List Nat) (c' place' : Nat) (rnv' lsv' : Value) (acc' : List (Int × Value)), e = .returned (.tuple #[]) ∧
    Item left last (rowO (lastK cs)) (row.drop place) cells last' row' rest' c' ∧ TkS w' base t p rv row place' c' rnv' lsv' acc' (if c' = 0 then cs ++ cells else cs) (if c' = 0 then last' else last) ∧
    (c' = 0 → rest' = row.drop place' ∧ row' = rowO (lastK (cs ++ cells)) ∧ last'.length ≤ 64 ∧ 0 < cells.length ∧ cells.length ≤ left) ∧ Gr base p w w'

set_option maxHeartbeats 2000000 in
set_option maxRecDepth 100000 in
theorem takeItem_any {w : World} {base t p : Nat} {rv rnv lsv : Value} {row : List Nat} {place : Nat} {acc : List (Int × Value)} {cs : List CC} {last : List Nat}
    (h : TkS w base t p rv row place 0 rnv lsv acc cs last) (left : Nat) (h0 : 0 < left) (hcs : cs.length + left ≤ 64) (hbase : base ≤ w.heap.size) (hll : last.length ≤ 64) :
    Calls Try.prog 53 #[.pointer (some ⟨t, 0, none⟩), .int .i64 (left : Int)] w (ItemPost base t p rv row place cs last left w) := by
  have e2 : Value.iface 72 (.int .i64 2) = errV 2 := (errV_pos (by decide)).symm
  have E2 := Lib.hid e2
  have H := Lib.hid h
  have HBS := Lib.hid hbase
  clear e2 h hbase
  go_enter Try.func53, Try.ntmps53
  go_wp2_with fail
  rw [E2.out]
  refine (upTo_any H.out.tk H.out.rd left 2 (by omega) (by decide)).mono ?_
  rintro e w1 ⟨n, pl1, c1, rfl, hn, hrd, hg⟩
  have HN := Lib.hid hn
  have H1 := Lib.hid (H.out.read hg hrd)
  have HG1 : Hid (Gr base p w w1) := Lib.hid (gr_grown hg HBS.out (fun j hj => .inl (by simpa using hj.symm)))
  have HB1 : Hid (base ≤ w1.heap.size) := Lib.hid (Nat.le_trans HBS.out hg.size)
  clear hn hrd hg H HBS
  obtain ⟨z, hz⟩ : ∃ z, z = upR n left := ⟨_, rfl⟩
  obtain ⟨d, hd⟩ : ∃ d, d = upC n c1 left 2 := ⟨_, rfl⟩
  rw [← hd] at H1
  rw [← hz]
  have hzl : z ≤ left := by rw [hz]; exact upR_le _ _
  have HZ := Lib.hid hz
  have HD := Lib.hid hd
  clear hz hd
  by_cases hz0 : z = 0
  · subst hz0
    go_wp2_with fail
    refine (takeData_any H1.out (by omega) HB1.out hll).mono ?_
    rintro e w2 ⟨text, pl2, c2, rnv2, lsv2, acc2, rfl, hrel, htk, hgr⟩
    have HG2 := Lib.hid (HG1.out.trans hgr)
    have HTK := Lib.hid htk
    have HREL := Lib.hid hrel
    clear hgr htk hrel
    go_wp2
    by_cases hd0 : d = 0
    · have hnl : ¬ left < n := by
        intro h
        have := HD.out
        unfold upC at this
        rw [if_pos h] at this
        split at this <;> omega
      have hc1 : c1 = 0 := by
        have := HD.out
        unfold upC at this
        rw [if_neg hnl] at this
        omega
      have hn0 : n = 0 := by
        have := HZ.out
        unfold upR at this
        rw [if_neg hnl] at this
        exact this.symm
      subst hc1 hn0 hd0
      obtain ⟨cells, last', row', rest', hitem, hz⟩ := data_item (left := left) (row := rowO (lastK cs)) HN.out hll HREL.out
      refine bodyPost_ret (results_none rfl _ _ _) rfl ⟨cells, last', row', rest', c2, pl2, rnv2, lsv2, acc2, rfl, hitem, ?_, fun h0c => ?_, HG2.out⟩
      · by_cases hc2 : c2 = 0
        · obtain ⟨h1, h2, _, _, _⟩ := hz hc2
          have := HTK.out
          rw [if_pos hc2, if_pos hc2] at this
          rw [if_pos hc2, if_pos hc2, h1, h2]
          exact this
        · have := HTK.out
          rw [if_neg hc2, if_neg hc2] at this
          rw [if_neg hc2, if_neg hc2]
          exact this
      · obtain ⟨h1, h2, h3, h4, h5⟩ := hz h0c
        rw [h1, h2, h3, h4, lastK_data]
        exact ⟨rfl, rfl, h5, by simp, by simp; omega⟩
    · have hc2 : c2 = d := data_had HREL.out hd0
      subst hc2
      have hitem : Item left last (rowO (lastK cs)) (row.drop place) [] [] none [] c2 := by
        by_cases hc1 : c1 = 0
        · subst hc1
          have hln : left < n := by
            by_cases h : left < n
            · exact h
            · have := HD.out
              unfold upC at this
              rw [if_neg h] at this
              exact absurd this hd0
          have : c2 = 2 := by rw [HD.out]; unfold upC; rw [if_pos hln, if_pos rfl]
          exact ⟨n, _, 0, HN.out, .inr (.inl ⟨rfl, hln, rfl, rfl, rfl, rfl, this⟩)⟩
        · have : c2 = c1 := by rw [HD.out]; exact upC_had (numr_err HN.out hc1) rfl
          exact ⟨n, _, c1, HN.out, .inl ⟨hc1, rfl, rfl, rfl, rfl, this⟩⟩
      refine bodyPost_ret (results_none rfl _ _ _) rfl ⟨[], [], none, [], c2, pl2, rnv2, lsv2, acc2, rfl, hitem, ?_, fun h => absurd h hd0, HG2.out⟩
      have := HTK.out
      rw [if_neg hd0, if_neg hd0] at this ⊢
      exact this
  · have hnl : ¬ left < n := by
      intro h
      have := HZ.out
      unfold upR at this
      rw [if_pos h] at this
      exact hz0 this
    have hzn : z = n := by rw [HZ.out]; unfold upR; rw [if_neg hnl]
    have hc1 : c1 = 0 := by
      by_cases h : c1 = 0
      · exact h
      · exact absurd (hzn.trans (numr_err HN.out h)) hz0
    have hd0 : d = 0 := by rw [HD.out, hc1]; unfold upC; rw [if_neg hnl]
    subst hc1 hd0 hzn
    have hzi : ((z : Int) == 0) = false := by rw [beq_eq_false_iff_ne]; omega
    go_wp2_with fail
    refine (takeRow_any H1.out z (by omega) HB1.out).mono ?_
    rintro e w2 ⟨k, c2, pl2, c3, rnv2, acc2, rfl, hk, hc3, htk, hgr⟩
    have HG2 := Lib.hid (HG1.out.trans hgr)
    have HTK := Lib.hid htk
    obtain ⟨cells, last', row', rest', hitem, hz⟩ := row_item (left := left) (last := last) (lk := lastK cs) HN.out (by omega) (by omega) hk
    rw [← hc3] at hitem hz
    have HIT := Lib.hid hitem
    have HZZ := Lib.hid hz
    clear hgr htk hk hc3 hitem hz
    go_wp2
    refine bodyPost_ret (results_none rfl _ _ _) rfl ⟨cells, last', row', rest', c3, pl2, rnv2, lsv, acc2, rfl, HIT.out, ?_, fun h0c => ?_, HG2.out⟩
    · by_cases hc : c3 = 0
      · obtain ⟨h1, h2, _, _, _⟩ := HZZ.out hc
        have := HTK.out
        rw [if_pos hc] at this
        rw [if_pos hc, if_pos hc, h1, h2]
        exact this
      · have := HTK.out
        rw [if_neg hc] at this
        rw [if_neg hc, if_neg hc]
        exact this
    · obtain ⟨h1, h2, h3, h4, h5⟩ := HZZ.out h0c
      rw [h1, h2, h3, h4, lastK_row cs (by omega) h5]
      exact ⟨rfl, rfl, hll, by simp; omega, by simp; omega⟩

end Go.Proofs.Ytbihammpdjkonaa
