/- The walk of the statement on frames behind frames. -/
import Derived.Test.YtlnmbgaicdlnmaaFrL
import Derived.Test.YtlnmbgaicdlnmaaFrC
namespace Go.Proofs.Ytlnmbgaicdlnmaa
open Go.RowKit

theorem frs_short {ls : List (List Nat)} (h : ∀ t ∈ ls, t.length ≤ 300) : (frs ls).length ≤ 320 * ls.length := by
  induction ls with
  | nil => simp [frs]
  | cons t ls ih =>
    have h1 := ih fun x hx => h x (by simp [hx])
    have h2 := h t (by simp)
    have h3 := enc_len10 (u64_small (show t.length ≤ 65536 by omega))
    rw [frs_cons, List.length_append, fr_length, List.length_cons]
    unfold fsize
    omega

theorem txs_app {w : World} {A : Nat → Prop} {v : Value} {us ws : List Value} {a b : List (List Nat)} (hr : RowV w A v (us ++ ws)) (h1 : us.length = a.length) (h2 : ws.length = b.length)
    (hu : ∀ i, i < a.length → At w A .u8 (us.getD i .nilIface) (a.getD i [])) (hw : ∀ i, i < b.length → At w A .u8 (ws.getD i .nilIface) (b.getD i [])) : Txs w A v (a ++ b) := by
  have key : ∀ i, i < (a ++ b).length → At w A .u8 ((us ++ ws).getD i .nilIface) ((a ++ b).getD i []) := by
    intro i hi
    rw [List.length_append] at hi
    by_cases h : i < a.length
    · rw [List.getD_eq_getElem?_getD, List.getD_eq_getElem?_getD, List.getElem?_append_left (by omega), List.getElem?_append_left h, ← List.getD_eq_getElem?_getD, ← List.getD_eq_getElem?_getD]
      exact hu i h
    · rw [List.getD_eq_getElem?_getD, List.getD_eq_getElem?_getD, List.getElem?_append_right (by omega), List.getElem?_append_right (by omega), ← List.getD_eq_getElem?_getD, ← List.getD_eq_getElem?_getD, h1]
      exact hw _ (by omega)
  refine ⟨us ++ ws, by simp [h1, h2], hr, fun u hu => ?_, key⟩
  obtain ⟨i, hi, rfl⟩ := List.getElem_of_mem hu
  have := (key i (by simp at hi; simp; omega)).oneCell
  rwa [List.getD_eq_getElem?_getD, List.getElem?_eq_getElem hi] at this

theorem str_app {a b : List Nat} : strOfNums (a.map (fun n : Nat => (n : Int))) ++ strOfNums (b.map (fun n : Nat => (n : Int))) = strOfNums ((a ++ b).map (fun n : Nat => (n : Int))) := by
  apply ByteArray.ext
  apply Array.toList_inj.1
  rw [ByteArray.data_append, Array.toList_append]
  simp only [strOfNums_data, List.map_append]

set_option maxHeartbeats 2000000 in
set_option maxRecDepth 100000 in
theorem frameJoins_walk (av bv : Value) (a b : List (List Nat)) (w : World) (ha : Txs w (fun _ => True) av a) (hb : Txs w (fun _ => True) bv b) (a8 : ∀ t ∈ a, ∀ y ∈ t, y < 256) (b8 : ∀ t ∈ b, ∀ y ∈ t, y < 256) :
    Calls Try.prog 7 #[av, bv] w fun e w' => e = .returned (.bool true) ∧ Below w.heap.size w w' := by
  obtain ⟨aoa, capa, rfl, _, _, _⟩ := ha.val
  obtain ⟨aob, capb, rfl, _, _, _⟩ := hb.val
  go_enter Try.func7, Try.ntmps7
  go_wp2_with fail
  refine (alive4_any w).mono ?_
  rintro e w0 ⟨rfl, hb0⟩
  have HB0 := Lib.hid hb0
  have HA := Lib.hid (ha.old hb0)
  have HB := Lib.hid (hb.old hb0)
  clear ha hb hb0
  by_cases g1 : 20 < (a.length : Int)
  · go_wp2
    go_ret
    exact ⟨rfl, HB0.out⟩
  by_cases g2 : 20 < (b.length : Int)
  · go_wp2
    go_ret
    exact ⟨rfl, HB0.out⟩
  have hl1 : a.length ≤ 20 := by omega
  have hl2 : b.length ≤ 20 := by omega
  obtain ⟨us, hu1, hu2, hu3, hu4⟩ := HA.out
  obtain ⟨ws, hw1, hw2, hw3, hw4⟩ := HB.out
  have HU1 := Lib.hid hu1
  have HW1 := Lib.hid hw1
  have HU2 := Lib.hid hu2
  have HW2 := Lib.hid hw2
  have HU3 := Lib.hid hu3
  have HW3 := Lib.hid hw3
  have HU4 := Lib.hid hu4
  have HW4 := Lib.hid hw4
  clear hu1 hu2 hu3 hu4 hw1 hw2 hw3 hw4
  have HLIT := Lib.hid (World.ownsRow_lit (e := 22) (size := 1) w0 #[] 0 (Nat.le_refl _) (by simp [maxLen]) rfl)
  have hn0 : Below w0.heap.size w0 (w0.alloc (.cells #[] 22)) := (Below.refl _ _).alloc (Nat.le_refl _) _
  have HN0 := Lib.hid hn0; clear hn0
  go_wp2_with (at_builtin; go_must (refine wpList_appV _ rfl _ _ 40 rfl w0.heap.size 22 (.slice none 0 0) 24 Try.underlying40 Try.info22 rfl _ [] rfl HLIT.out _ _ us rfl (HU2.out.keep (kept_new HN0.out _)) HU3.out (by decide) ?c1_1 ?c3_1 ?_))
  case c1_1 => have := HU1.out; simp; omega
  try (case c3_1 => simp)
  intro v1 w1 ho1 hg1
  have hd1 : Below w0.heap.size w0 w1 := HN0.out.grown hg1 (by simp) (fun j hj => by simp [Value.ownBlock] at hj; omega)
  have HO1 := Lib.hid ho1
  have HD1 := Lib.hid hd1
  clear ho1 hg1 hd1
  go_wp2_with (at_builtin; go_must (refine wpList_appV _ rfl _ _ 40 rfl w0.heap.size 22 (.slice none 0 0) 24 Try.underlying40 Try.info22 rfl _ us rfl HO1.out _ _ ws rfl (HW2.out.keep (kept_new HD1.out _)) HW3.out (by decide) ?c1_2 ?c3_2 ?_))
  case c1_2 => have := HU1.out; have := HW1.out; omega
  try (case c3_2 => exact HD1.out.size)
  intro v2 w2 ho2 hg2
  have hd2 : Below w0.heap.size w0 w2 := HD1.out.grown hg2 HD1.out.size (fun j hj => (HO1.out.lt j hj).1)
  have hab : Txs w2 (fun _ => True) v2 (a ++ b) := txs_app ((owned_row (us := us ++ ws) (by simpa using ho2)).mono fun _ _ _ => trivial) HU1.out HW1.out (fun i hi => (HU4.out i hi).old hd2) (fun i hi => (HW4.out i hi).old hd2)
  have h8 : ∀ t ∈ a ++ b, ∀ y ∈ t, y < 256 := fun t ht => (List.mem_append.1 ht).elim (a8 t) (b8 t)
  obtain ⟨ls, hls⟩ : ∃ ls, ls = a ++ b := ⟨_, rfl⟩
  have hlen : ls.length ≤ 40 := by rw [hls, List.length_append]; omega
  rw [← hls] at hab h8
  have HLS := Lib.hid hls
  have HD2 := Lib.hid hd2
  have HAB := Lib.hid hab
  have HA2 := Lib.hid (HA.out.old hd2)
  have HB2 := Lib.hid (HB.out.old hd2)
  obtain ⟨ao2, cap2, rfl, _, _, _⟩ := hab.val
  clear hls ho2 hg2 hd2 hab HLIT
  go_wp2
  go_loopw [6, 8, 32] (fun sv _ i wr => ∃ k s : Nat, k ≤ ls.length ∧ i = .int .i64 (k : Int) ∧ sv = .int .i64 (s : Int) ∧ s = (frs (ls.take k)).length ∧ (∀ t ∈ ls.take k, t.length ≤ 300) ∧ w2 = wr)
    (fun _ _ i _ => ls.length - (intOf i).toNat)
  case atStart => exact ⟨0, 0, Nat.zero_le _, rfl, rfl, by simp [frs], by simp, rfl⟩
  case round =>
    obtain ⟨k, s, hk, rfl, rfl, hs, hsh, rfl⟩ := hrel
    have hsb : s ≤ 320 * 40 := by
      have h1 := frs_short hsh
      have h2 : (ls.take k).length ≤ 40 := by rw [List.length_take]; omega
      omega
    have HSS := Lib.hid hs
    have HSH := Lib.hid hsh
    clear hs hsh
    by_cases hlt : k < ls.length
    · obtain ⟨blk, off, u, rfl, _, _, hcell, hat⟩ := HAB.out.at hlt
      have hts := lists_take k hlt
      generalize ls.getD k [] = t at hat hts
      obtain ⟨aot, capt, rfl, _, _, _⟩ := hat.reads.val
      have HT := Lib.hid hat.reads
      have HTS := Lib.hid hts
      clear hat hts
      have hlti : (k : Int) < ls.length := by omega
      by_cases hlong : (300 : Int) < (t.length : Int)
      · go_wp2
        go_ret
        exact ⟨rfl, HB0.out.trans (HD2.out.mono HB0.out.size)⟩
      have ht3 : t.length ≤ 300 := by omega
      have hfs : (fsize t : Int) ≤ 320 := by have := enc_len10 (u64_small (show t.length ≤ 65536 by omega)); unfold fsize; omega
      have HNX : Hid (s + fsize t = (frs (ls.take (k + 1))).length) := Lib.hid (by rw [HTS.out, frs_snoc, List.length_append, fr_length, ← HSS.out])
      have HSN : Hid (∀ x ∈ ls.take (k + 1), x.length ≤ 300) := Lib.hid fun x hx => by
        rw [HTS.out] at hx
        rcases List.mem_append.1 hx with hx | hx
        · exact HSH.out x hx
        · obtain rfl : x = t := by simpa using hx
          exact ht3
      have hsbi : (s : Int) ≤ 12800 := by omega
      go_wp2_with fail
      refine (frameSize_any _ t w2 HT.out (by omega)).mono ?_
      rintro e w' ⟨rfl, rfl⟩
      generalize fsize t = z at hfs HNX
      go_wp2
      go_roundw
      case rel => exact ⟨k + 1, s + z, by omega, by go_num, by go_num, HNX.out, HSN.out, trivial⟩
      case measure => simp [intOf]; omega
    · obtain rfl : k = ls.length := by omega
      have hall := HSH.out
      rw [List.take_length] at hall
      have hss := HSS.out
      rw [List.take_length] at hss
      have hz : (frs ls).length = (frs a).length + (frs b).length := by rw [HLS.out, frs_append, List.length_append]
      have hta : ∀ t ∈ a, t.length ≤ 65536 ∧ ∀ y ∈ t, y < 256 := fun t ht => ⟨by have := hall t (by rw [HLS.out]; simp [ht]); omega, a8 t ht⟩
      have htb : ∀ t ∈ b, t.length ≤ 65536 ∧ ∀ y ∈ t, y < 256 := fun t ht => ⟨by have := hall t (by rw [HLS.out]; simp [ht]); omega, b8 t ht⟩
      have htl : ∀ t ∈ ls, t.length ≤ 65536 ∧ ∀ y ∈ t, y < 256 := fun t ht => ⟨by have := hall t ht; omega, h8 t ht⟩
      have HZ := Lib.hid hz
      have HQ := Lib.hid hss
      clear hall hss hz
      go_wp2_with fail
      refine (join_any _ a w2 _ HA2.out hta (by omega) (by have := HZ.out; have := HQ.out; omega)).mono ?_
      rintro e w3 ⟨v3, rfl, ho3, hb3⟩
      have HX3 := Lib.hid ho3.reads
      have HD3 := Lib.hid hb3
      clear ho3 hb3
      go_wp2_with fail
      refine (join_any _ b w3 _ (HB2.out.old HD3.out) htb (by omega) (by have := HZ.out; have := HQ.out; omega)).mono ?_
      rintro e w4 ⟨v4, rfl, ho4, hb4⟩
      have HX4 := Lib.hid (HX3.out.new hb4)
      have HY4 := Lib.hid ho4.reads
      have HD4 := Lib.hid (HD3.out.trans (hb4.mono HD3.out.size))
      clear ho4 hb4
      go_wp2_with fail
      refine (join_any _ ls w4 _ (HAB.out.old HD4.out) htl (by omega) (by have := HQ.out; omega)).mono ?_
      rintro e w5 ⟨v5, rfl, ho5, hb5⟩
      obtain ⟨ao5, cap5, rfl, _, _, _⟩ := ho5.reads.val
      have hc1 := conv_reads _ _ w5 (HX4.out.new hb5)
      have hc2 := conv_reads _ _ w5 (HY4.out.new hb5)
      have hc3 := conv_reads _ _ w5 ho5.reads
      have HD5 := Lib.hid (HD4.out.trans (hb5.mono HD4.out.size))
      have hst : strOfNums ((frs a).map (fun n : Nat => (n : Int))) ++ strOfNums ((frs b).map (fun n : Nat => (n : Int))) = strOfNums ((frs ls).map (fun n : Nat => (n : Int))) := by rw [str_app, HLS.out, frs_append]
      have hnc : ¬ 9223372036854775807 < (strOfNums ((frs a).map (fun n : Nat => (n : Int)))).size + (strOfNums ((frs b).map (fun n : Nat => (n : Int)))).size := by
        rw [strOfNums_size, strOfNums_size, List.length_map, List.length_map]
        have := HZ.out
        have := HQ.out
        omega
      clear ho5 hb5
      generalize strOfNums ((frs a).map (fun n : Nat => (n : Int))) = s1 at hc1 hst hnc
      generalize strOfNums ((frs b).map (fun n : Nat => (n : Int))) = s2 at hc2 hst hnc
      generalize strOfNums ((frs ls).map (fun n : Nat => (n : Int))) = s3 at hc3 hst
      have hq := HQ.out
      generalize (frs ls).length = L at hc3 hq
      have hLs : ((L : Int) == (s : Int)) = true := by rw [beq_iff_eq, hq]
      clear hq
      go_wp2
      go_ret
      exact ⟨rfl, HB0.out.trans ((HD2.out.trans (HD5.out.mono HD2.out.size)).mono HB0.out.size)⟩

end Go.Proofs.Ytlnmbgaicdlnmaa
