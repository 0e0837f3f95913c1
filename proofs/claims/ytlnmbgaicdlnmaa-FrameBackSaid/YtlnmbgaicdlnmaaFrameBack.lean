/- The walk of the statement on frames there and back, and on frames that are cut off. -/
import Derived.Test.YtlnmbgaicdlnmaaFrameJoins
import Derived.Test.YtlnmbgaicdlnmaaHeadT
namespace Go.Proofs.Ytlnmbgaicdlnmaa
open Go.RowKit

set_option maxHeartbeats 2000000 in
set_option maxRecDepth 100000 in
theorem frameBack_walk (av : Value) (ls : List (List Nat)) (cut : Int) (w : World) (ha : Txs w (fun _ => True) av ls) (h8 : ∀ t ∈ ls, ∀ y ∈ t, y < 256) :
    Calls Try.prog 5 #[av, .int .i64 cut] w fun e w' => e = .returned (.bool true) ∧ Below w.heap.size w w' := by
  obtain ⟨ao, cap, rfl, _, _, _⟩ := ha.val
  go_enter Try.func5, Try.ntmps5
  go_wp2_with fail
  refine (alive4_any w).mono ?_
  rintro e w0 ⟨rfl, hb0⟩
  have HB0 := Lib.hid hb0
  have HA := Lib.hid (ha.old hb0)
  clear ha hb0
  by_cases g1 : 20 < (ls.length : Int)
  · go_wp2
    go_ret
    exact ⟨rfl, HB0.out⟩
  have hl1 : ls.length ≤ 20 := by omega
  go_wp2
  go_loopw [6, 25] (fun _ i wr => ∃ k : Nat, k ≤ ls.length ∧ i = .int .i64 (k : Int) ∧ (∀ t ∈ ls.take k, t.length ≤ 300) ∧ w0 = wr)
    (fun _ i _ => ls.length - (intOf i).toNat)
  case atStart => exact ⟨0, Nat.zero_le _, rfl, by simp, rfl⟩
  case round =>
    obtain ⟨k, hk, rfl, hsh, rfl⟩ := hrel
    have HSH := Lib.hid hsh
    clear hsh
    by_cases hlt : k < ls.length
    · obtain ⟨blk, off, u, rfl, _, _, hcell, hat⟩ := HA.out.at hlt
      have hts := lists_take k hlt
      generalize ls.getD k [] = t at hat hts
      obtain ⟨aot, capt, rfl, _, _, _⟩ := hat.reads.val
      have HTS := Lib.hid hts
      clear hat hts
      have hlti : (k : Int) < ls.length := by omega
      by_cases hlong : (300 : Int) < (t.length : Int)
      · go_wp2
        go_ret
        exact ⟨rfl, HB0.out⟩
      have ht3 : t.length ≤ 300 := by omega
      have HSN : Hid (∀ x ∈ ls.take (k + 1), x.length ≤ 300) := Lib.hid fun x hx => by
        rw [HTS.out] at hx
        rcases List.mem_append.1 hx with hx | hx
        · exact HSH.out x hx
        · obtain rfl : x = t := by simpa using hx
          exact ht3
      go_wp2
      go_roundw
      case rel => exact ⟨k + 1, by omega, by go_num, HSN.out, trivial⟩
      case measure => simp [intOf]; omega
    · obtain rfl : k = ls.length := by omega
      have hall := HSH.out
      rw [List.take_length] at hall
      have htl : ∀ t ∈ ls, t.length ≤ 65536 ∧ ∀ y ∈ t, y < 256 := fun t ht => ⟨by have := hall t ht; omega, h8 t ht⟩
      have HALL := Lib.hid hall
      have hflen := frs_short hall
      have hf8 := frs_byte (ls := ls) fun t ht => ⟨h8 t ht, u64_small (htl t ht).1⟩
      have HLD : Hid (Led (frs ls) ls (frs ls).length 0) := Lib.hid (led_frs ls fun t ht => (htl t ht).1)
      clear hall
      go_wp2_with fail
      refine (join_any _ ls w0 _ HA.out htl (by omega) (by omega)).mono ?_
      rintro e w1 ⟨v1, rfl, ho1, hb1⟩
      obtain ⟨ao1, cap1, rfl, _, _, _⟩ := ho1.reads.val
      have HX1 := Lib.hid ho1.reads
      have HD1 := Lib.hid hb1
      clear ho1 hb1
      go_wp2_with fail
      refine (frameAll_any _ (frs ls) w1 HX1.out hf8 (by omega)).mono ?_
      rintro e w2 ⟨v2, ls2, k2, c2, rfl, hled, htx, hb2⟩
      obtain ⟨rfl, rfl, rfl⟩ := HLD.out.unique hled
      rw [if_pos rfl] at htx
      rw [errV_zero]
      obtain ⟨ao2, cap2, rfl, _, _, _⟩ := htx.val
      have HX2 := Lib.hid (HX1.out.new hb2)
      have HT2 := Lib.hid htx
      have HD2 := Lib.hid (HD1.out.trans (hb2.mono HD1.out.size))
      clear hled htx hb2
      go_wp2_with fail
      refine (lists_any _ _ ls ls w2 _ _ HT2.out (HA.out.old HD2.out) h8 h8).mono ?_
      rw [decide_eq_true rfl]
      rintro e w3 ⟨rfl, hb3⟩
      have HX3 := Lib.hid (HX2.out.new hb3)
      have HD3 := Lib.hid (HD2.out.trans (hb3.mono HD2.out.size))
      clear hb3
      obtain ⟨L, hL⟩ : ∃ L, (frs ls).length = L := ⟨_, rfl⟩
      rw [hL] at hflen ⊢
      have hX3' := HX3.out
      rw [hL] at hX3'
      have HX3' := Lib.hid hX3'
      have HL := Lib.hid hL
      clear hX3' hL
      have hLi : (L : Int) ≤ 6400 := by omega
      obtain ⟨q, hq, hql⟩ : ∃ q : Nat, wrap64 ((IntKind.u64.wrap cut).tmod ((L : Int) + 1)) = (q : Int) ∧ q ≤ L := by
        have hu : 0 ≤ IntKind.u64.wrap cut := by show 0 ≤ cut % 18446744073709551616; omega
        have e1 := Int.tmod_nonneg ((L : Int) + 1) hu
        have e2 := Int.tmod_lt_of_pos (IntKind.u64.wrap cut) (show (0 : Int) < (L : Int) + 1 by omega)
        rw [IntWalk.wrap64_in _ (by omega)]
        exact ⟨_, (Int.toNat_of_nonneg e1).symm, by omega⟩
      have hsl := fun w => slice_head w ao1 L cap1 q (by have := HL.out; omega)
      have HQ : Hid (Reads w3 .u8 (.slice ao1 q cap1) ((frs ls).take q)) := Lib.hid (HX3'.out.head (by have := HL.out; omega))
      have hq8 : ∀ y ∈ (frs ls).take q, y < 256 := fun y hy => hf8 y (List.mem_of_mem_take hy)
      go_wp2_with fail
      refine (framePrefix_any _ ((frs ls).take q) w3 HQ.out hq8 (by have := HL.out; rw [List.length_take]; omega)).mono ?_
      rintro e w4 ⟨v4, ls4, k4, c4, rfl, hled, htx, hb4⟩
      obtain ⟨c5, hcut⟩ := led_cut ls q (fun t ht => (htl t ht).1) (by have := HL.out; omega)
      obtain ⟨rfl, rfl, rfl⟩ := hcut.unique hled
      have HT4 := Lib.hid htx
      have HD4 := Lib.hid (HD3.out.trans (hb4.mono HD3.out.size))
      have HA4 := Lib.hid (HA.out.old (HD3.out.trans (hb4.mono HD3.out.size)))
      clear hled htx hb4 hcut hq8 hf8
      have hqi : (q : Int) ≤ 6400 := by omega
      obtain ⟨J, hJ⟩ : ∃ J, whole ls q = J := ⟨_, rfl⟩
      rw [hJ] at HT4 ⊢
      have HJ := Lib.hid hJ
      clear hJ
      go_wp2
      go_loopw [14, 15, 17, 72] (fun wh en _ i wr => ∃ k s : Nat, k ≤ ls.length ∧ i = .int .i64 (k : Int) ∧ wh = .int .i64 (k : Int) ∧ en = .int .i64 (s : Int) ∧ s = (frs (ls.take k)).length ∧ s ≤ q ∧ w4 = wr)
        (fun _ _ _ i _ => ls.length - (intOf i).toNat)
      case atStart => exact ⟨0, 0, Nat.zero_le _, rfl, rfl, rfl, by simp [frs], Nat.zero_le _, rfl⟩
      case round =>
        obtain ⟨k, s, hk, rfl, rfl, rfl, hs, hsq, rfl⟩ := hrel
        have HS := Lib.hid hs
        clear hs
        have hsi : (s : Int) ≤ 6400 := by omega
        by_cases hlt : k < ls.length
        · have hmem : ls.getD k [] ∈ ls := by rw [List.getD_eq_getElem?_getD, List.getElem?_eq_getElem hlt]; exact List.getElem_mem hlt
          obtain ⟨blk, off, u, rfl, _, _, hcell, hat⟩ := HA4.out.at hlt
          have ht3 := HALL.out _ hmem
          have HST : Hid (q < s + fsize (ls.getD k []) → whole ls q = k) := Lib.hid fun h => whole_stop ls q k (by omega) (by rw [← HS.out]; omega) (.inr (by rw [← HS.out]; exact h))
          have hts := lists_take k hlt
          generalize ls.getD k [] = t at hat hts ht3 HST
          obtain ⟨aot, capt, rfl, _, _, _⟩ := hat.reads.val
          have HT := Lib.hid hat.reads
          have HNX : Hid (s + fsize t = (frs (ls.take (k + 1))).length) := Lib.hid (by rw [hts, frs_snoc, List.length_append, fr_length, ← HS.out])
          clear hat hts hmem
          have hfs : (fsize t : Int) ≤ 320 := by have := enc_len10 (u64_small (show t.length ≤ 65536 by omega)); unfold fsize; omega
          have hlti : (k : Int) < ls.length := by omega
          have HSZ := Lib.hid (frameSize_any _ t w4 HT.out (by omega))
          generalize fsize t = z at hfs HNX HST HSZ
          go_wp2_with fail
          refine HSZ.out.mono ?_
          rintro e w' ⟨rfl, rfl⟩
          by_cases hstop : (q : Int) < (s : Int) + (z : Int)
          · have hJk : J = k := by rw [← HJ.out]; exact HST.out (by omega)
            subst hJk
            have hsl4 := fun w => slice_headT w (some ⟨blk, off, none⟩) ls.length cap J (by omega)
            have HS4 : Hid (Txs w4 (fun _ => True) (.slice (some ⟨blk, off, none⟩) J cap) (ls.take J)) := Lib.hid (HA4.out.head (by omega))
            have h8J : ∀ t ∈ ls.take J, ∀ y ∈ t, y < 256 := fun t ht => h8 t (List.mem_of_mem_take ht)
            have hsJ : ((((frs (ls.take J)).length : Nat) : Int) == (s : Int)) = true := by rw [beq_iff_eq, HS.out]
            go_wp2_with fail
            refine (lists_any _ _ _ _ w4 _ _ HT4.out HS4.out h8J h8J).mono ?_
            rw [decide_eq_true rfl]
            rintro e w5 ⟨rfl, hb5⟩
            go_wp2
            go_ret
            exact ⟨rfl, HB0.out.trans ((HD4.out.trans (hb5.mono HD4.out.size)).mono HB0.out.size)⟩
          · go_wp2_with fail
            refine HSZ.out.mono ?_
            rintro e w' ⟨rfl, rfl⟩
            go_wp2
            go_roundw
            case rel => exact ⟨k + 1, s + z, by omega, by go_num, by go_num, by go_num, HNX.out, by omega, trivial⟩
            case measure => simp [intOf]; omega
        · obtain rfl : k = ls.length := by omega
          have hJk : J = ls.length := by rw [← HJ.out]; exact whole_stop ls q _ (Nat.le_refl _) (by rw [← HS.out]; exact hsq) (.inl rfl)
          subst hJk
          have hsl4 := fun w => slice_headT w ao ls.length cap ls.length (by omega)
          have HS4 : Hid (Txs w4 (fun _ => True) (.slice ao ls.length cap) (ls.take ls.length)) := Lib.hid (HA4.out.head (Nat.le_refl _))
          have h8J : ∀ t ∈ ls.take ls.length, ∀ y ∈ t, y < 256 := fun t ht => h8 t (List.mem_of_mem_take ht)
          have hsJ : ((((frs ls).length : Nat) : Int) == (s : Int)) = true := by rw [beq_iff_eq, HS.out, List.take_length]
          go_wp2_with fail
          refine (lists_any _ _ _ _ w4 _ _ HT4.out HS4.out h8J h8J).mono ?_
          rw [decide_eq_true rfl]
          rintro e w5 ⟨rfl, hb5⟩
          go_wp2
          go_ret
          exact ⟨rfl, HB0.out.trans ((HD4.out.trans (hb5.mono HD4.out.size)).mono HB0.out.size)⟩

end Go.Proofs.Ytlnmbgaicdlnmaa
