/- The walk of the statement on turned bits: the loop that turns them. -/
import Derived.Test.YtlaloddmlkkbgaaCrcQ
import Derived.Laws.CopyOwn
namespace Go.Proofs.Ytlaloddmlkkbgaa
open Go.RowKit

/-- What is owned and not empty lies in a block. -/
theorem Owns.blocked {w : World} {base : Nat} {e : TypeId} {k : IntKind} {v : Value} {l : List Nat} (h : Owns w base e k v l) (h0 : l.length ≠ 0) : ∃ g cap, v = .slice (some ⟨g, 0, none⟩) l.length cap ∧ base ≤ g ∧ l.length ≤ cap ∧ cap ≤ maxLen := by
  rcases h.2 with ⟨_, h2⟩ | ⟨g, cap, cur, h1, h2, _, h3, h4, _⟩
  · exact absurd h2 h0
  · exact ⟨g, cap, h1, h2, h3, h4⟩

theorem vals_set (k : IntKind) (l : List Nat) (i y : Nat) : (vals k l).set i (.int k (y : Int)) = vals k (l.set i y) := by simp [vals, List.map_set]

/-- A store into what is owned. -/
theorem Owns.set {w : World} {base : Nat} {e : TypeId} {k : IntKind} {g n cap : Nat} {l : List Nat} (h : Owns w base e k (.slice (some ⟨g, 0, none⟩) n cap) l) (hn : n = l.length) (i y : Nat) :
    Owns (w.setCell ⟨g, i, none⟩ (.int k (y : Int))) base e k (.slice (some ⟨g, 0, none⟩) n cap) (l.set i y) := by
  subst hn
  have h2 := (World.ownsRow.stored h i (.int k (y : Int))).1
  unfold Owns
  rw [← vals_set, List.length_set]
  exact h2

theorem Owns.cell {w : World} {base : Nat} {e : TypeId} {k : IntKind} {g n cap : Nat} {l : List Nat} (h : Owns w base e k (.slice (some ⟨g, 0, none⟩) n cap) l) (hn : n = l.length) {i : Nat} (hi : i < l.length) : w.cell? ⟨g, i, none⟩ = some (.int k ((l.getD i 0 : Nat) : Int)) := by
  subst hn
  exact (World.ownsRow.cellAt h i (by omega)).trans (vals_get k l i hi)

theorem Owns.free {w : World} {base : Nat} {e : TypeId} {k : IntKind} {g n cap : Nat} {l : List Nat} (h : Owns w base e k (.slice (some ⟨g, 0, none⟩) n cap) l) (hn : n = l.length) (i : Nat) : w.frozen? ⟨g, i, none⟩ = false := by
  subst hn
  exact World.ownsRow.frozenAt h i

/-- Numbers laid over the head of what is owned. -/
theorem owns_copied {w' : World} {base : Nat} {e : TypeId} {k : IntKind} {g m cap : Nat} {cur : Array Value} {a c l : List Nat} (hgb : base ≤ g) (hnc : m ≤ cap) (hcm : cap ≤ maxLen) (hsz : cur.size = cap * 1)
    (htk : List.take (m * 1) cur.toList = vals k (a ++ c)) (hm : m = (a ++ c).length) (hl : l.length = a.length) (hh : w'.heap[g]? = some (.cells (splice cur.toList 0 (vals k l)).toArray e (0, 0))) :
    Owns w' base e k (.slice (some ⟨g, 0, none⟩) m cap) (l ++ c) := by
  have hlen : (l ++ c).length = m := by rw [hm, List.length_append, List.length_append, hl]
  unfold Owns
  rw [hlen]
  have hcl : (vals k l).length ≤ cur.toList.length := by
    have h1 := vals_length k l
    have h2 : cur.toList.length = cur.size := by simp
    have h3 : a.length ≤ m := by rw [hm, List.length_append]; omega
    omega
  refine ⟨by rw [vals_length, hlen]; omega, .inr ⟨g, cap, _, rfl, hgb, hh, hnc, hcm, ?_, ?_⟩⟩
  · rw [List.size_toArray, length_splice _ _ _ (by omega), Array.length_toList, hsz]
  · show List.take (m * 1) (splice cur.toList 0 (vals k l)) = _
    have e0 : splice cur.toList 0 (vals k l) = vals k l ++ cur.toList.drop l.length := by simp [splice, vals_length]
    have e1 : (cur.toList.drop l.length).take c.length = vals k c := by
      have h2 := congrArg (List.drop l.length) htk
      rw [vals_append, List.drop_left' (by rw [vals_length, hl]), List.drop_take] at h2
      rw [← h2]
      congr 1
      rw [hm, List.length_append, hl]
      omega
    have h4 : m * 1 - (vals k l).length = c.length := by rw [vals_length, ← hlen, List.length_append]; omega
    rw [e0, vals_append, List.take_append, h4, e1, List.take_of_length_le (by rw [vals_length, ← hlen, List.length_append]; omega)]

set_option maxHeartbeats 2000000 in
set_option maxRecDepth 100000 in
theorem finds_walk (v : Value) (b : List Nat) (at_ : Int) (bits : Nat) (w : World) (hr : Reads w .u8 v b) (hb : ∀ y ∈ b, y < 256) (hbits : U32 bits) :
    Calls Try.prog 11 #[v, .int .i64 at_, .int .u32 (bits : Int)] w fun e w' => e = .returned (.bool true) ∧ Below w.heap.size w w' := by
  obtain ⟨ao, cap, rfl, _, _, _⟩ := hr.val
  go_enter Try.func11, Try.ntmps11
  go_wp2_with fail
  refine (alive2_any w).mono ?_
  rintro e w0 ⟨rfl, hb0⟩
  have hr0 := hr.new hb0
  clear hr
  by_cases n1 : (500 : Int) < b.length
  · go_wp2
    go_ret
    exact ⟨rfl, hb0⟩
  by_cases n2 : ((b.length : Int) == 0) = true
  · go_wp2
    go_ret
    exact ⟨rfl, hb0⟩
  by_cases n3 : ((bits : Int) == 0) = true
  · go_wp2
    go_ret
    exact ⟨rfl, hb0⟩
  have hl0 : b.length ≠ 0 := fun h => n2 (by rw [h]; rfl)
  rw [Bool.not_eq_true] at n2 n3
  obtain ⟨place, hpl, hplt⟩ : ∃ place : Nat, wrap64 ((IntKind.u64.wrap at_).tmod (8 * (b.length : Int))) = (place : Int) ∧ place < 8 * b.length := by
    have e1 : 0 ≤ IntKind.u64.wrap at_ := by rw [IntKind.wrap_u64]; omega
    have e2 : 0 < 8 * (b.length : Int) := by omega
    have e3 := Int.tmod_nonneg (8 * (b.length : Int)) e1
    have e4 := Int.tmod_lt_of_pos (IntKind.u64.wrap at_) e2
    refine ⟨((IntKind.u64.wrap at_).tmod (8 * (b.length : Int))).toNat, ?_, by omega⟩
    rw [IntWalk.wrap64_in _ (by omega)]
    omega
  have HB0 := Lib.hid hb0
  have HR0 := Lib.hid hr0
  clear hb0 hr0
  go_wp2_with (at_builtin; go_must (refine wpList_app _ rfl _ _ 22 rfl w0.heap.size 5 (.int .u8 0) 1 Try.underlying22 Try.info5 rfl .u8 _ [] rfl (owns_empty w0 w0.heap.size 5 .u8 (Nat.le_refl _)) _ b rfl (HR0.out.below ((Below.refl _ _).alloc (Nat.le_refl _) _) (Nat.le_refl _)) (by decide) ?c1 ?c3 ?_))
  case c1 => (try simp); omega
  case c3 => simp
  intro v1 w1 ho1 hg1
  have hb1 : Below w0.heap.size w0 w1 := ((Below.refl _ _).alloc (Nat.le_refl _) _).grown hg1 (by simp) (fun j hj => by simp [Value.ownBlock] at hj; omega)
  obtain ⟨g, cap1, rfl, hgb, hlc, hcm⟩ := Owns.blocked ho1 hl0
  clear hg1
  have HO1 := Lib.hid ho1
  have HB1 := Lib.hid hb1
  clear ho1 hb1
  go_wp2
  go_loopw [9, 10] (fun t i wr => ∃ (k : Nat) (l : List Nat) (D : Nat), k ≤ 32 ∧ i = .int .i64 (k : Int) ∧ t = .bool (decide (D ≠ 0)) ∧ D < 2 ^ k ∧ l.length = b.length ∧ (∀ y ∈ l, y < 256) ∧ cnum l = cnum b ^^^ 2 ^ place * D ∧ Owns wr w0.heap.size 5 .u8 (.slice (some ⟨g, 0, none⟩) b.length cap1) l ∧ Below w0.heap.size w0 wr)
    (fun _ i _ => 32 - (intOf i).toNat)
  case atStart => exact ⟨0, b, 0, by omega, rfl, rfl, by decide, rfl, hb, by simp, HO1.out, HB1.out⟩
  case round =>
    obtain ⟨k, l, D, hk, rfl, rfl, hD, hll, hlb, hn, ho, hd⟩ := hrel
    have HD := Lib.hid hD
    have HN := Lib.hid hn
    have HO := Lib.hid ho
    have HW := Lib.hid hd
    have HLL := Lib.hid hll
    clear hD hn ho hd hll
    by_cases hlt : (k : Int) < 32
    · have hp8 : (place : Int) < 8 * b.length := by omega
      have hsum : Hid (wrap64 ((place : Int) + k) = ((place + k : Nat) : Int)) := Lib.hid (by rw [IntWalk.wrap64_in _ (by omega)]; omega)
      have hsh : (k : Int) % 18446744073709551616 = (k : Int) := by omega
      have hbk : Hid ((bits : Int) / 2 ^ k = ((bits / 2 ^ k : Nat) : Int)) := Lib.hid (by push_cast; rfl)
      have hbl : bits / 2 ^ k < 4294967296 := Nat.lt_of_le_of_lt (Nat.div_le_self _ _) hbits
      rcases Nat.mod_two_eq_zero_or_one (bits / 2 ^ k) with hp | hp
      · have hpi : Go.bits .and .u32 ((bits : Int) / 2 ^ k) 1 = ((0 : Nat) : Int) := by rw [hbk.out]; exact (u32_and_nat _ 1 hbl (by decide)).trans (by rw [Nat.and_one_is_mod, hp])
        go_wp2
        go_roundw
        case rel => exact ⟨k + 1, l, D, by omega, by go_num, rfl, Nat.lt_of_lt_of_le HD.out (Nat.pow_le_pow_right (by decide) (by omega)), HLL.out, hlb, HN.out, HO.out, HW.out⟩
        case measure => simp [intOf]; omega
      · have hpi : Go.bits .and .u32 ((bits : Int) / 2 ^ k) 1 = ((1 : Nat) : Int) := by rw [hbk.out]; exact (u32_and_nat _ 1 hbl (by decide)).trans (by rw [Nat.and_one_is_mod, hp])
        by_cases hin : (place : Int) + k < 8 * b.length
        · have hi8 : (place + k) / 8 < l.length := by rw [HLL.out]; omega
          have hcell := HO.out.cell HLL.out.symm hi8
          have hfr := HO.out.free HLL.out.symm ((place + k) / 8)
          have hq1 : ((place : Int) + k) / 8 < b.length := by omega
          have hq2 : (0 : Int) ≤ ((place : Int) + k) / 8 := by omega
          have hx8 : l.getD ((place + k) / 8) 0 < 256 := byte_get hlb _
          have hr8 : 2 ^ ((place + k) % 8) < 256 := Nat.lt_of_lt_of_le (Nat.pow_lt_pow_right (by decide) (Nat.mod_lt _ (by decide))) (show (2 : Nat) ^ 8 ≤ 256 by decide)
          have hpow : (2 : Int) ^ ((place + k) % 8) % 256 = ((2 ^ ((place + k) % 8) : Nat) : Int) := by
            rw [show (2 : Int) ^ ((place + k) % 8) = ((2 ^ ((place + k) % 8) : Nat) : Int) from by push_cast; rfl]
            generalize 2 ^ ((place + k) % 8) = q at hr8
            omega
          have hxor : Hid (Go.bits .xor .u8 ((l.getD ((place + k) / 8) 0 : Nat) : Int) ((2 : Int) ^ ((place + k) % 8) % 256) = ((l.getD ((place + k) / 8) 0 ^^^ 2 ^ ((place + k) % 8) : Nat) : Int)) := Lib.hid (by rw [hpow]; exact u8_xor_nat _ _ hx8 hr8)
          have HS : Hid (Owns (wr.setCell ⟨g, (place + k) / 8, none⟩ (.int .u8 ((l.getD ((place + k) / 8) 0 ^^^ 2 ^ ((place + k) % 8) : Nat) : Int))) w0.heap.size 5 .u8 (.slice (some ⟨g, 0, none⟩) b.length cap1) (cflip l (place + k))) := Lib.hid (HO.out.set HLL.out.symm _ _)
          have HCB := Lib.hid (cflip_byte (p := place + k) hlb)
          have HCN := Lib.hid (cnum_more (i := k) HN.out (by rw [HLL.out]; omega))
          have HCL : Hid ((cflip l (place + k)).length = b.length) := Lib.hid ((cflip_length _ _).trans HLL.out)
          generalize cflip l (place + k) = l' at HS HCB HCN HCL
          generalize l.getD ((place + k) / 8) 0 = x at hcell hxor HS
          clear hpow hr8 hx8
          go_wp2
          go_roundw
          case rel =>
            rw [hxor.out]
            exact ⟨k + 1, l', D ^^^ 2 ^ k, by omega, by go_num, by rw [decide_eq_true (flipped_ne HD.out)], flipped_lt HD.out, HCL.out, HCB.out, HCN.out, HS.out, HW.out.setCell hgb _⟩
          case measure => simp [intOf]; omega
        · go_wp2
          go_roundw
          case rel => exact ⟨k + 1, l, D, by omega, by go_num, rfl, Nat.lt_of_lt_of_le HD.out (Nat.pow_le_pow_right (by decide) (by omega)), HLL.out, hlb, HN.out, HO.out, HW.out⟩
          case measure => simp [intOf]; omega
    · obtain rfl : k = 32 := by omega
      by_cases hD0 : D = 0
      · subst hD0
        go_wp2
        go_ret
        exact ⟨rfl, HB0.out.trans (HW.out.mono HB0.out.size)⟩
      have hdt : decide (D ≠ 0) = true := decide_eq_true hD0
      have hne : crcx 0 l ≠ crcx 0 b := crcx_finds HLL.out HN.out (by omega) HD.out hD0
      have hqb : U32 (crcx 0 b) := crcx_lt (by decide) hb
      have hql : U32 (crcx 0 l) := crcx_lt (by decide) hlb
      have hop : openC (l ++ four (crcx 0 b)) = 11 := by
        unfold openC
        have hl4 : (l ++ four (crcx 0 b)).length - 4 = l.length := by rw [List.length_append, four_length]; omega
        rw [if_neg (by rw [List.length_append, four_length]; omega), hl4, List.take_left, if_neg (fun h => hne (four_inj hql hqb (List.append_cancel_left h)))]
      have hopl : openL (l ++ four (crcx 0 b)) = [] := by unfold openL; rw [if_neg (by rw [hop]; decide)]
      have HOP := Lib.hid hop
      have HOPL := Lib.hid hopl
      have HNE := Lib.hid hne
      clear hop hopl hne
      go_wp2_with fail
      refine (new_any _).mono ?_
      rintro e w2 ⟨p, rfl, hp, hm2, hb2⟩
      have HP := Lib.hid hp
      have HB2 := Lib.hid hb2
      have HM2 := Lib.hid hm2
      have HR2 := Lib.hid ((HR0.out.new HW.out).new hb2)
      have HC2 := Lib.hid (HO.out.reads.new hb2)
      clear hp hb2 hm2
      go_wp2_with fail
      refine (sealed_any p 0 _ b w2 HM2.out (by decide) HR2.out hb (by omega)).mono ?_
      rintro e w3 ⟨v3, rfl, ho3, hm3, hg3⟩
      rcases ho3 with ⟨hle3, ⟨_, hn3⟩ | ⟨g3, cap3, cur, rfl, hgb3, hheap, hnc, hcm3, hsz, htk⟩⟩
      · rw [List.length_append] at hn3; omega
      have HHEAP : Hid (w3.heap[g3]? = some (.cells cur.toList.toArray 5 (0, 0))) := Lib.hid (by rw [Array.toArray_toList]; exact hheap)
      have hsz8 : (Try.prog.info? 5).map (·.size) = some 1 := by kernel_rfl
      have hfit : 0 + (vals .u8 l).length ≤ cur.toList.length := by
        have e1 : cur.toList.length = cur.size := by simp
        have e2 := vals_length .u8 l
        have e3 := HLL.out
        rw [List.length_append] at hnc
        omega
      have HTK := Lib.hid htk
      have HM3 := Lib.hid hm3
      have HG3 := Lib.hid hg3
      have HC3 := Lib.hid (reads_kept HM2.out HC2.out hg3)
      have hlen4 : (b ++ four (crcx 0 b)).length = b.length + 4 := by rw [List.length_append, four_length]
      rw [hlen4] at hnc
      have HL4 := Lib.hid hlen4
      clear hheap htk hm3 hg3 hle3 hlen4
      rw [HL4.out]
      have hpg : p < g3 := Nat.lt_of_lt_of_le HM2.out.lt hgb3
      have HSRC : Hid (∀ j v, (vals .u8 l)[j]? = some v → w3.cell? (Addr.add ⟨g, 0, none⟩ j) = some v) := Lib.hid fun j v hj => by
        have hjl : j < l.length := by have := (List.getElem?_eq_some_iff.1 hj).1; rwa [vals_length] at this
        obtain ⟨g', off', hga, _, hcc⟩ := HC3.out.at hjl
        have hga' := Option.some.inj hga
        simp only [Addr.mk.injEq] at hga'
        obtain ⟨rfl, rfl, _⟩ := hga'
        have h2 := hcc j hjl
        rw [vals_get .u8 l j hjl] at hj
        rw [Addr.add_lit]
        exact h2.trans hj
      have hmn : (vals .u8 l).length = Nat.min b.length (b.length + 4) := by rw [vals_length, HLL.out]; show _ = min _ _; omega
      go_wp2_with ((with_reducible show wpList _ _ _ (Oper.mk (some 80) _ _ _ _ _ :: _) _ _); go_must (refine wpList_copy_splice rfl _ _ 22 22 rfl 5 Try.underlying22 hsz8 (some ⟨g3, 0, none⟩) (some ⟨g, 0, none⟩) (b.length + 4) cap3 b.length cap1 rfl rfl g3 0 cur.toList 5 HHEAP.out (vals .u8 l) hmn (fun _ => ⟨rfl, _, rfl, HSRC.out⟩) hfit (vals_oneCell _ _) g3 w3 (Below.refl _ _) (Nat.le_refl _) ?_))
      intro w4 hg4 hb4
      have HO4 : Hid (Owns w4 w2.heap.size 5 .u8 (.slice (some ⟨g3, 0, none⟩) (b.length + 4) cap3) (l ++ four (crcx 0 b))) :=
        Lib.hid (owns_copied hgb3 hnc hcm3 hsz (by rw [← HL4.out]; exact HTK.out) HL4.out.symm HLL.out hg4.out)
      have HG4 : Hid (w2.grownBy w4 (some p)) := Lib.hid ⟨hb4.os.trans HG3.out.os, hb4.tape.trans HG3.out.tape, hb4.output.trans HG3.out.output, Nat.le_trans HG3.out.size hb4.size, fun j hj hne => (hb4.block j (Nat.lt_of_lt_of_le hj hgb3)).trans (HG3.out.block j hj hne)⟩
      have HM4 := Lib.hid (HM3.out.below hb4 hpg)
      clear hg4 hb4 hsz hfit hcm3 hgb3 hmn hnc
      have hbb : ∀ y ∈ l ++ four (crcx 0 b), y < 256 := fun y hy => (List.mem_append.1 hy).elim (hlb y) (four_byte _ y)
      have hll4 : (l ++ four (crcx 0 b)).length ≤ 90000000000000 := by rw [List.length_append, four_length, HLL.out]; omega
      go_wp2_with fail
      refine (opened_any p 1 _ (l ++ four (crcx 0 b)) w4 HM4.out (by decide) HO4.out.reads hbb hll4).mono ?_
      rw [HOP.out, HOPL.out, errV_pos (by decide)]
      rintro e w5 ⟨v5, rfl, ho5, hm5, hg5⟩
      obtain ⟨ao5, cap5, rfl, _, _, _⟩ := ho5.reads.val
      have HM5 := Lib.hid hm5
      have HG5 : Hid (w2.grownBy w5 (some p)) := Lib.hid (HG4.out.trans hg5)
      clear ho5 hm5 hg5 hbb hll4
      go_wp2_with fail
      refine (sum_any p 2 _ l w5 HM5.out (by decide) (reads_kept HM2.out HC2.out HG5.out) hlb).mono ?_
      rintro e w6 ⟨rfl, hm6, hg6⟩
      have HM6 := Lib.hid hm6
      have HG6 : Hid (w2.grownBy w6 (some p)) := Lib.hid (HG5.out.trans hg6)
      clear hm6 hg6
      go_wp2_with fail
      refine (sum_any p 3 _ b w6 HM6.out (by decide) (reads_kept HM2.out HR2.out HG6.out) hb).mono ?_
      rintro e w7 ⟨rfl, hm7, hg7⟩
      have HG7 : Hid (w2.grownBy w7 (some p)) := Lib.hid (HG6.out.trans hg7)
      clear hm7 hg7
      have hnei : ((crcx 0 l : Nat) : Int) ≠ ((crcx 0 b : Nat) : Int) := fun h => HNE.out (by omega)
      have hneb : (((crcx 0 l : Nat) : Int) == ((crcx 0 b : Nat) : Int)) = false := by rw [beq_eq_false_iff_ne]; exact hnei
      have hnec : (((crcx 0 l : Nat) : Int) != ((crcx 0 b : Nat) : Int)) = true := by rw [bne_iff_ne]; exact hnei
      generalize crcx 0 l = s1 at hnei hneb hnec
      generalize crcx 0 b = s2 at hnei hneb hnec
      go_wp2_with fail
      refine (is_any 11 w7).mono ?_
      rintro e w' ⟨rfl, rfl⟩
      go_wp2
      go_ret
      have hz : Below w0.heap.size w0 w2 := HW.out.trans (HB2.out.mono HW.out.size)
      exact ⟨rfl, HB0.out.trans ((hz.trans (below_grown HG7.out (Nat.le_trans HW.out.size HP.out) hz.size)).mono HB0.out.size)⟩

end Go.Proofs.Ytlaloddmlkkbgaa
