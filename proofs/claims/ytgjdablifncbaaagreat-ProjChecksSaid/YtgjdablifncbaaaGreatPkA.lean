/- A projection's bytes: numbersOf, Put. -/
import Derived.Test.YtgjdablifncbaaaGreatPjE
import Derived.Test.YtgjdablifncbaaaGreatFrE
import Derived.Test.YtgjdablifncbaaaGreatPrA
namespace Go.Proofs.YtgjdablifncbaaaGreat
open Go.RowKit

/-- A chain's bytes. -/
def ctext (c : List Int) : List Nat := enc c.length ++ encs (c.map Int.toNat)
/-- A projection's bytes. -/
def ptext (ep : Int) (cs : List (List Int)) : List Nat := encs [ep.toNat, cs.length] ++ (cs.map ctext).flatten
theorem Tryz.infoP64 : (Tryz.prog.info? 61).map (fun i => (i.zero, i.size, i.bytes)) = some (some (.int .u64 0), 1, 8) := by kernel_rfl

set_option maxHeartbeats 1000000 in
set_option maxRecDepth 100000 in
theorem numbersOf_any (v : Value) (l : List Int) (w : World) (B : Nat → Prop) (h : IRow w B v l) (hp : ∀ u ∈ l, unitB u = true) (hl : l.length ≤ 1000000) :
    Calls Tryz.prog 30 #[v] w fun e w' => ∃ v', e = .returned v' ∧ Owns w' w.heap.size 61 .u64 v' (l.map Int.toNat) ∧ Below w.heap.size w w' := by
  obtain ⟨ao, cap, rfl, l1, m1, _⟩ := h.val
  have HR := Lib.hid h
  have HP := Lib.hid hp
  have HL := Lib.hid hl
  clear h hp hl
  unfold maxLen at m1
  go_enter Tryz.func30, Tryz.ntmps30
  go_wp2
  go_loopw [3, 5, 8] (fun lv _ i wr => ∃ k : Nat, k ≤ l.length ∧ i = .int .i64 (k : Int) ∧ Owns wr w.heap.size 61 .u64 lv ((l.take k).map Int.toNat) ∧ Below w.heap.size w wr)
    (fun _ _ i _ => l.length - (intOf i).toNat)
  case atStart => exact ⟨0, Nat.zero_le _, rfl, owns_nil _ _ _ _, Below.refl _ _⟩
  case round =>
    obtain ⟨k, hk, rfl, ho, hb⟩ := hrel
    by_cases hlt : k < l.length
    · obtain ⟨b, off, rfl, _, _, hc⟩ := (HR.out.old hb).at hlt
      have hcc := hc k hlt
      have HTS := Lib.hid (ints_take k hlt)
      have hu := unitB_iff.1 (HP.out _ (getD_memI k hlt))
      generalize l.getD k 0 = u at hcc HTS hu
      obtain ⟨m, rfl⟩ : ∃ m : Nat, u = (m : Int) := ⟨u.toNat, by omega⟩
      have hm : m ≤ 7 := by omega
      have HTM : Hid ((l.take (k + 1)).map Int.toNat = (l.take k).map Int.toNat ++ [m]) := Lib.hid (by rw [HTS.out, List.map_append]; simp)
      have hw : IntKind.u64.wrap (m : Int) = (m : Int) := by rw [IntKind.wrap_u64]; omega
      have hki : (k : Int) < l.length := by omega
      clear hc hu
      have HLL := Lib.hid (show ((l.take k).map Int.toNat).length ≤ 1000000 by rw [List.length_map, List.length_take]; have := HL.out; omega)
      go_wp2_with (at_builtin; go_must (refine wpList_app _ rfl _ _ 63 rfl w.heap.size 61 (.int .u64 0) 8 Tryz.underlying63 Tryz.infoP64 rfl .u64 _ ((l.take k).map Int.toNat) rfl (ho.alloc _) _ [m] rfl ?r (by decide) ?c1 ?c3 ?_))
      case r => exact reads_new _ _ _ _
      case c1 => have := HLL.out; simp only [List.length_cons, List.length_nil]; omega
      case c3 => have := hb.size; simp; omega
      intro v8 w8 ho8 hg8
      have HO8 : Hid (Owns w8 w.heap.size 61 .u64 v8 ((l.take (k + 1)).map Int.toNat)) := Lib.hid (by rw [HTM.out, List.map_take]; exact ho8)
      have HB8 : Hid (Below w.heap.size w w8) := Lib.hid ((hb.alloc hb.size _).grown hg8 (by have := hb.size; simp; omega) (fun j hj => (ho.lt j hj).1))
      clear ho8 hg8
      go_wp2
      go_roundw
      case rel => exact ⟨k + 1, by omega, by go_num, HO8.out, HB8.out⟩
      case measure => simp [intOf]; omega
    · obtain rfl : k = l.length := by omega
      rw [List.take_length] at ho
      have HO := Lib.hid ho
      have HB := Lib.hid hb
      clear ho hb
      go_wp2
      go_ret
      exact ⟨_, rfl, HO.out, HB.out⟩

theorem reads_litP (w : World) (e : TypeId) (k : IntKind) (l : List Nat) (cs : Array Value) (fr : Nat × Nat) (hc : cs.toList = vals k l) (hm : l.length ≤ maxLen) :
    Reads (w.alloc (.cells cs e fr)) k (.slice (some ⟨w.heap.size, 0, none⟩) l.length l.length) l :=
  ⟨_, _, rfl, Nat.le_refl _, hm, by simp, .inr ⟨w.heap.size, 0, rfl, by simp, fun i hi => by
    rw [Nat.zero_add, World.cell?_alloc_mark, ← Array.getElem?_toList, hc, vals_get k l i hi]⟩⟩
theorem ctext_len {c : List Int} (h4 : c.length ≤ 4) (hu : ∀ u ∈ c, unitB u = true) : (ctext c).length ≤ 50 ∧ ∀ y ∈ ctext c, y < 256 := by
  have h64 : ∀ n ∈ c.map Int.toNat, U64 n := by
    intro n hn
    obtain ⟨u, h1, rfl⟩ := List.mem_map.1 hn
    have := unitB_iff.1 (hu u h1)
    unfold U64; omega
  have e1 := enc_len10 (n := c.length) (by unfold U64; omega)
  have e2 := encs_len h64
  rw [List.length_map] at e2
  unfold ctext
  refine ⟨by rw [List.length_append]; omega, app_byte (enc_u64 (by unfold U64; omega)) (encs_u64 h64)⟩
theorem cflat_len : ∀ {l : List (List Int)}, (∀ c ∈ l, c.length ≤ 4 ∧ ∀ u ∈ c, unitB u = true) → ((l.map ctext).flatten).length ≤ 50 * l.length ∧ ∀ y ∈ (l.map ctext).flatten, y < 256
  | [], _ => ⟨Nat.le_refl _, by simp⟩
  | c :: r, h => by
    obtain ⟨h1, h2⟩ := ctext_len (h c (by simp)).1 (h c (by simp)).2
    obtain ⟨h3, h4⟩ := cflat_len (l := r) fun d hd => h d (by simp [hd])
    rw [List.map_cons, List.flatten_cons]
    exact ⟨by rw [List.length_append, List.length_cons]; omega, app_byte h2 h4⟩
theorem phead_len {en n : Nat} (h1 : en ≤ 1099511627776) (h2 : n ≤ 4) : (encs [en, n]).length ≤ 20 ∧ ∀ y ∈ encs [en, n], y < 256 := by
  have h64 : ∀ x ∈ [en, n], U64 x := by
    intro x hx
    simp only [List.mem_cons, List.not_mem_nil, or_false] at hx
    unfold U64
    rcases hx with rfl | rfl <;> omega
  exact ⟨encs_len h64, encs_u64 h64⟩
/-- What a right projection is, for its bytes. -/
theorem pright {ep : Int} {cs : List (List Int)} (h : pchk ep cs = 0) : (∃ en : Nat, ep = (en : Int) ∧ en ≤ 1099511627776) ∧ (1 ≤ cs.length ∧ cs.length ≤ 4) ∧ ∀ c ∈ cs, (1 ≤ c.length ∧ c.length ≤ 4) ∧ ∀ u ∈ c, unitB u = true := by
  obtain ⟨h1, h2, h3, _⟩ := pchk_zero.1 h
  obtain ⟨e1, e2⟩ := epochB_iff.1 h1
  obtain ⟨f1, f2⟩ := formedB_iff.1 h2
  exact ⟨⟨ep.toNat, by omega, by omega⟩, f1, fun c hc => ⟨f2 c hc, fun u hu => List.all_eq_true.1 h3 u (List.mem_flatten.2 ⟨c, hc, hu⟩)⟩⟩

set_option maxHeartbeats 2000000 in
set_option maxRecDepth 100000 in
theorem pput_any (ep : Int) (v : Value) (cs : List (List Int)) (w : World) (B : Nat → Prop) (h : Chs w B v cs) :
    Calls Tryz.prog 11 #[.agg #[.int .i64 ep, v]] w fun e w' => Below w.heap.size w w' ∧
      ((pchk ep cs = 0 ∧ ∃ v', e = .returned (.tuple #[v', errV 0]) ∧ Owns w' w.heap.size 5 .u8 v' (fr (ptext ep cs))) ∨ (pchk ep cs ≠ 0 ∧ e = .returned (.tuple #[.slice none 0 0, errV (pchk ep cs)]))) := by
  obtain ⟨ao, cap, rfl, l1, m1, _⟩ := h.val
  obtain ⟨W1, hW1⟩ : ∃ W1, W1 = w.alloc (.cells #[.int .i64 ep, .slice ao cs.length cap] 24) := ⟨_, rfl⟩
  have hb1 : Below w.heap.size w W1 := by rw [hW1]; exact (Below.refl _ _).alloc (Nat.le_refl _) _
  have hx1 : Box2 W1 w.heap.size (.int .i64 ep) (.slice ao cs.length cap) := by rw [hW1]; exact box2_new _ _ _ _
  have HX1 := Lib.hid hx1
  have HB1 := Lib.hid hb1
  have HR := Lib.hid (h.old hb1)
  have HC := Lib.hid (pcheck_any ep _ cs W1 _ (h.old hb1))
  clear h hb1 l1 m1 hx1
  subst hW1
  by_cases g1 : pchk ep cs = 0
  rotate_left
  · have HG := Lib.hid g1
    obtain ⟨c, hc⟩ : ∃ c, c = pchk ep cs := ⟨_, rfl⟩
    rw [← hc] at HC HG g1 ⊢
    have HE : Hid (errV c = .iface 48 (.int .i64 (c : Int))) := Lib.hid (errV_pos g1)
    rw [HE.out] at HC
    clear g1 hc
    go_enter Tryz.func11, Tryz.ntmps11
    go_wp2_with fail
    refine HC.out.mono ?_
    rintro e w2 ⟨rfl, hb2⟩
    have HB2 : Hid (Below w.heap.size w w2) := Lib.hid (HB1.out.trans (hb2.mono HB1.out.size))
    clear hb2
    go_wp2
    go_ret2
    exact ⟨HB2.out, .inr ⟨HG.out, by rw [HE.out]; rfl⟩⟩
  have HG := Lib.hid g1
  obtain ⟨⟨en, rfl, hen⟩, ⟨n1, n4⟩, hcs⟩ := pright g1
  rw [g1, errV_zero] at HC
  have HEN := Lib.hid hen
  have HN4 := Lib.hid n4
  have HCS := Lib.hid hcs
  have hwe : IntKind.u64.wrap (en : Int) = (en : Int) := by rw [IntKind.wrap_u64]; omega
  have hwn : IntKind.u64.wrap (cs.length : Int) = (cs.length : Int) := by rw [IntKind.wrap_u64]; omega
  clear g1 hen n1 n4 hcs
  go_enter Tryz.func11, Tryz.ntmps11
  go_wp2_with fail
  refine HC.out.mono ?_
  rintro e w2 ⟨rfl, hb2⟩
  have q2 := HX1.out.old hb2
  obtain ⟨W3, hW3⟩ : ∃ W, W = w2.alloc (.cells #[.int .u64 (en : Int), .int .u64 (cs.length : Int)] 61) := ⟨_, rfl⟩
  have hb3 : Below w2.heap.size w2 W3 := by rw [hW3]; exact (Below.refl _ _).alloc (Nat.le_refl _) _
  have hr3 : Reads W3 .u64 (.slice (some ⟨w2.heap.size, 0, none⟩) 2 2) [en, cs.length] := by rw [hW3]; exact reads_litP w2 61 .u64 [en, cs.length] _ (0, 0) rfl (by simp [maxLen])
  have HPU := Lib.hid (put_any (.slice none 0 0) _ [] [en, cs.length] W3 (owns_nil W3 0 5 .u8).reads hr3 (by
    have h1 := HEN.out; have h2 := HN4.out
    intro x hx
    simp only [List.mem_cons, List.not_mem_nil, or_false] at hx
    unfold U64
    rcases hx with rfl | rfl <;> omega) (by simp))
  have HX3 := Lib.hid (q2.old hb3)
  have HB3 : Hid (Below w.heap.size w W3) := Lib.hid ((HB1.out.trans (hb2.mono HB1.out.size)).trans (hb3.mono (by have := hb2.size; have := HB1.out.size; omega)))
  have HR3 := Lib.hid ((HR.out.old hb2).old hb3)
  have HW3 := Lib.hid hW3
  have c0 := q2.c0
  have c1 := q2.c1
  clear hb2 q2 hW3 hb3 hr3
  go_wp2_with fail
  rw [← HW3.out]
  refine HPU.out.mono ?_
  rintro e w4 ⟨v4, rfl, ho4, hb4⟩
  have HO4 : Hid (Owns w4 w.heap.size 5 .u8 v4 (encs [en, cs.length])) := Lib.hid (ho4.mono HB3.out.size)
  have HB4 : Hid (Below w.heap.size w w4) := Lib.hid (HB3.out.trans (hb4.mono HB3.out.size))
  have HR4 := Lib.hid (HR3.out.old hb4)
  have q4 := HX3.out.old hb4
  have c0 := q4.c0
  have c1 := q4.c1
  obtain ⟨ao4, cap4, rfl, _, _, _⟩ := ho4.reads.val
  obtain ⟨n4, hn4⟩ : ∃ n, n = ([] ++ encs [en, cs.length]).length := ⟨_, rfl⟩
  rw [← hn4] at HO4 ⊢
  clear ho4 hb4 q4 hn4 hwe hwn
  go_wp2
  go_loopw [5, 7, 25] (fun tv _ i wr => ∃ k : Nat, k ≤ cs.length ∧ i = .int .i64 (k : Int) ∧ Owns wr w.heap.size 5 .u8 tv (encs [en, cs.length] ++ ((cs.take k).map ctext).flatten) ∧ Below w.heap.size w wr ∧ Chs wr B (.slice ao cs.length cap) cs)
    (fun _ _ i _ => cs.length - (intOf i).toNat)
  case atStart => exact ⟨0, Nat.zero_le _, rfl, by show Owns _ _ _ _ _ (_ ++ []); rw [List.append_nil]; exact HO4.out, HB4.out, HR4.out⟩
  case round =>
    obtain ⟨k, hk, rfl, ho, hb, hch⟩ := hrel
    obtain ⟨aot, capt, rfl, _, _, _⟩ := ho.reads.val
    obtain ⟨nt, hnt⟩ : ∃ n, n = (encs [en, cs.length] ++ ((cs.take k).map ctext).flatten).length := ⟨_, rfl⟩
    rw [← hnt] at ho ⊢
    have HLT : Hid ((encs [en, cs.length] ++ ((cs.take k).map ctext).flatten).length ≤ 300 ∧ ∀ y ∈ encs [en, cs.length] ++ ((cs.take k).map ctext).flatten, y < 256) := Lib.hid (by
      obtain ⟨a1, a2⟩ := phead_len HEN.out HN4.out
      obtain ⟨b1, b2⟩ := cflat_len (l := cs.take k) fun c hc => ⟨(HCS.out c (List.mem_of_mem_take hc)).1.2, (HCS.out c (List.mem_of_mem_take hc)).2⟩
      refine ⟨?_, app_byte a2 b2⟩
      have := HN4.out
      rw [List.length_append]
      have : (cs.take k).length ≤ 4 := by rw [List.length_take]; omega
      omega)
    have HO := Lib.hid ho
    have HB := Lib.hid hb
    have HCH := Lib.hid hch
    clear hnt hb
    by_cases hlt : k < cs.length
    · obtain ⟨b, off, x, rfl, hbl, _, hc, hat⟩ := hch.at hlt
      obtain ⟨aox, capx, rfl, _⟩ := hat.val
      have hm := HCS.out _ (getD_memC k hlt)
      have HTS : Hid (((cs.take (k + 1)).map ctext).flatten = ((cs.take k).map ctext).flatten ++ ctext (cs.getD k [])) := Lib.hid (by rw [chains_take k hlt]; simp)
      generalize cs.getD k [] = c at hc hat hm HTS
      have hlti : (k : Int) < cs.length := by omega
      have HNO := Lib.hid (numbersOf_any _ c wr B hat hm.2 (by omega))
      obtain ⟨nx, hnx⟩ : ∃ n, n = c.length := ⟨_, rfl⟩
      rw [← hnx] at hc HNO
      have HM := Lib.hid hm
      clear hat hm ho hch hnx
      go_wp2_with fail
      refine HNO.out.mono ?_
      rintro e w5 ⟨v5, rfl, ho5, hb5⟩
      have h64 : ∀ n ∈ c.map Int.toNat, U64 n := by
        intro n hn
        obtain ⟨u, h1, rfl⟩ := List.mem_map.1 hn
        have := unitB_iff.1 (HM.out.2 u h1)
        unfold U64; omega
      have HPL := Lib.hid (putList_any _ v5 _ _ w5 (HO.out.reads.new hb5) ho5.reads h64 (by have := HLT.out.1; have := HM.out.1; rw [List.length_map]; omega))
      have HB5 : Hid (Below w.heap.size w w5) := Lib.hid (HB.out.trans (hb5.mono HB.out.size))
      have HC5 := Lib.hid (HCH.out.old hb5)
      obtain ⟨ao5, cap5, rfl, _, _, _⟩ := ho5.reads.val
      obtain ⟨n5, hn5⟩ : ∃ n, n = (c.map Int.toNat).length := ⟨_, rfl⟩
      rw [← hn5] at HPL ⊢
      have HN5 := Lib.hid hn5
      clear ho5 hb5 h64 hn5
      go_wp2_with fail
      refine HPL.out.mono ?_
      rintro e w6 ⟨v6, rfl, ho6, hb6⟩
      have HO6 : Hid (Owns w6 w.heap.size 5 .u8 v6 (encs [en, cs.length] ++ ((cs.take (k + 1)).map ctext).flatten)) := Lib.hid (by
        rw [HTS.out, ← List.append_assoc]
        unfold ctext
        rw [← List.append_assoc]
        rw [HN5.out, List.length_map] at ho6
        exact ho6.mono HB5.out.size)
      have HB6 : Hid (Below w.heap.size w w6) := Lib.hid (HB5.out.trans (hb6.mono HB5.out.size))
      have HC6 := Lib.hid (HC5.out.old hb6)
      have hcl4 := HN4.out
      clear ho6 hb6
      go_wp2
      go_roundw
      case rel => exact ⟨k + 1, by omega, by go_num, HO6.out, HB6.out, HC6.out⟩
      case measure => simp [intOf]; omega
    · obtain rfl : k = cs.length := by omega
      have HPT : Hid (ptext (en : Int) cs = encs [en, cs.length] ++ ((cs.take cs.length).map ctext).flatten) := Lib.hid (by rw [List.take_length]; rfl)
      have HPG := Lib.hid (put_good (.slice none 0 0) _ [] _ wr (owns_nil wr 0 5 .u8).reads HO.out.reads HLT.out.2 (by have := HLT.out.1; omega) (by simp))
      clear ho hch
      go_wp2_with fail
      refine HPG.out.mono ?_
      rintro e w7 ⟨v7, rfl, ho7, hb7⟩
      have HO7 : Hid (Owns w7 w.heap.size 5 .u8 v7 (fr (ptext (en : Int) cs))) := Lib.hid (by rw [HPT.out]; exact ho7.mono HB.out.size)
      have HB7 : Hid (Below w.heap.size w w7) := Lib.hid (HB.out.trans (hb7.mono HB.out.size))
      clear ho7 hb7
      go_wp2
      go_ret2
      exact ⟨HB7.out, .inl ⟨HG.out, _, by rw [errV_zero]; rfl, HO7.out⟩⟩

end Go.Proofs.YtgjdablifncbaaaGreat
