/- A projection's bytes: numbersOf, Put. · A projection's bytes: unitsOf. · A projection's bytes: how many chains follow. · A projection's bytes: which bytes are one, there and back: the mathematics. -/
import Derived.Test.YtjbodokligpcaaaGreatPjE
import Derived.Test.YtjbodokligpcaaaGreatFrE
import Derived.Test.YtjbodokligpcaaaGreatPrA
import Derived.Test.YtjbodokligpcaaaGreatRdP
import Derived.Test.YtjbodokligpcaaaGreatFrC
namespace Go.Proofs.YtjbodokligpcaaaGreat
open Go.RowKit

/-- A chain's bytes. -/
def ctext (c : List Int) : List Nat := enc c.length ++ encs (c.map Int.toNat)
/-- A projection's bytes. -/
def ptext (ep : Int) (cs : List (List Int)) : List Nat := encs [ep.toNat, cs.length] ++ (cs.map ctext).flatten
theorem Tryz.infoP64 : (Tryz.prog.info? 50).map (fun i => (i.zero, i.size, i.bytes)) = some (some (.int .u64 0), 1, 8) := by kernel_rfl

set_option maxHeartbeats 1000000 in
set_option maxRecDepth 100000 in
theorem numbersOf_any (v : Value) (l : List Int) (w : World) (B : Nat → Prop) (h : IRow w B v l) (hp : ∀ u ∈ l, unitB u = true) (hl : l.length ≤ 1000000) :
    Calls Tryz.prog 41 #[v] w fun e w' => ∃ v', e = .returned v' ∧ Owns w' w.heap.size 50 .u64 v' (l.map Int.toNat) ∧ Below w.heap.size w w' := by
  obtain ⟨ao, cap, rfl, l1, m1, _⟩ := h.val
  have HR := Lib.hid h
  have HP := Lib.hid hp
  have HL := Lib.hid hl
  clear h hp hl
  unfold maxLen at m1
  go_enter Tryz.func41, Tryz.ntmps41
  go_wp2
  go_loopw [3, 5, 8] (fun lv _ i wr => ∃ k : Nat, k ≤ l.length ∧ i = .int .i64 (k : Int) ∧ Owns wr w.heap.size 50 .u64 lv ((l.take k).map Int.toNat) ∧ Below w.heap.size w wr)
    (fun _ _ i _ => l.length - (intOf i).toNat)
  case atStart => exact ⟨0, Nat.zero_le _, rfl, owns_nil _ _ _ _, Below.refl _ _⟩
  case round =>
    obtain ⟨k, hk, rfl, ho, hb⟩ := hrel
    by_cases hlt : k < l.length
    · obtain ⟨b, off, rfl, _, _, hc⟩ := (HR.out.old hb).at hlt
      have hcc := hc k hlt
      have HTS := Lib.hid (ints_take k hlt)
      have hu := unitB_iff.1 (HP.out _ (getD_memI k hlt))
      generalize l.getD k 0 = u at hcc HTS hu
      obtain ⟨m, rfl⟩ : ∃ m : Nat, u = (m : Int) := ⟨u.toNat, by omega⟩
      have hm : m ≤ 7 := by omega
      have HTM : Hid ((l.take (k + 1)).map Int.toNat = (l.take k).map Int.toNat ++ [m]) := Lib.hid (by rw [HTS.out, List.map_append]; simp)
      have hw : IntKind.u64.wrap (m : Int) = (m : Int) := by rw [IntKind.wrap_u64]; omega
      have hki : (k : Int) < l.length := by omega
      clear hc hu
      have HLL := Lib.hid (show ((l.take k).map Int.toNat).length ≤ 1000000 by rw [List.length_map, List.length_take]; have := HL.out; omega)
      go_wp2_with (at_builtin; go_must (refine wpList_app _ rfl _ _ 53 rfl w.heap.size 50 (.int .u64 0) 8 Tryz.underlying53 Tryz.infoP64 rfl .u64 _ ((l.take k).map Int.toNat) rfl (ho.alloc _) _ [m] rfl ?r (by decide) ?c1 ?c3 ?_))
      case r => exact reads_new _ _ _ _
      case c1 => have := HLL.out; simp only [List.length_cons, List.length_nil]; omega
      case c3 => have := hb.size; simp; omega
      intro v8 w8 ho8 hg8
      have HO8 : Hid (Owns w8 w.heap.size 50 .u64 v8 ((l.take (k + 1)).map Int.toNat)) := Lib.hid (by rw [HTM.out, List.map_take]; exact ho8)
      have HB8 : Hid (Below w.heap.size w w8) := Lib.hid ((hb.alloc hb.size _).grown hg8 (by have := hb.size; simp; omega) (fun j hj => (ho.lt j hj).1))
      clear ho8 hg8
      go_wp2
      go_roundw
      case rel => exact ⟨k + 1, by omega, by go_num, HO8.out, HB8.out⟩
      case measure => simp [intOf]; omega
    · obtain rfl : k = l.length := by omega
      rw [List.take_length] at ho
      have HO := Lib.hid ho
      have HB := Lib.hid hb
      clear ho hb
      go_wp2
      go_ret
      exact ⟨_, rfl, HO.out, HB.out⟩

theorem reads_litP (w : World) (e : TypeId) (k : IntKind) (l : List Nat) (cs : Array Value) (fr : Nat × Nat) (hc : cs.toList = vals k l) (hm : l.length ≤ maxLen) :
    Reads (w.alloc (.cells cs e fr)) k (.slice (some ⟨w.heap.size, 0, none⟩) l.length l.length) l :=
  ⟨_, _, rfl, Nat.le_refl _, hm, by simp, .inr ⟨w.heap.size, 0, rfl, by simp, fun i hi => by
    rw [Nat.zero_add, World.cell?_alloc_mark, ← Array.getElem?_toList, hc, vals_get k l i hi]⟩⟩
theorem ctext_len {c : List Int} (h4 : c.length ≤ 4) (hu : ∀ u ∈ c, unitB u = true) : (ctext c).length ≤ 50 ∧ ∀ y ∈ ctext c, y < 256 := by
  have h64 : ∀ n ∈ c.map Int.toNat, U64 n := by
    intro n hn
    obtain ⟨u, h1, rfl⟩ := List.mem_map.1 hn
    have := unitB_iff.1 (hu u h1)
    unfold U64; omega
  have e1 := enc_len10 (n := c.length) (by unfold U64; omega)
  have e2 := encs_len h64
  rw [List.length_map] at e2
  unfold ctext
  refine ⟨by rw [List.length_append]; omega, app_byte (enc_u64 (by unfold U64; omega)) (encs_u64 h64)⟩
theorem cflat_len : ∀ {l : List (List Int)}, (∀ c ∈ l, c.length ≤ 4 ∧ ∀ u ∈ c, unitB u = true) → ((l.map ctext).flatten).length ≤ 50 * l.length ∧ ∀ y ∈ (l.map ctext).flatten, y < 256
  | [], _ => ⟨Nat.le_refl _, by simp⟩
  | c :: r, h => by
    obtain ⟨h1, h2⟩ := ctext_len (h c (by simp)).1 (h c (by simp)).2
    obtain ⟨h3, h4⟩ := cflat_len (l := r) fun d hd => h d (by simp [hd])
    rw [List.map_cons, List.flatten_cons]
    exact ⟨by rw [List.length_append, List.length_cons]; omega, app_byte h2 h4⟩
theorem phead_len {en n : Nat} (h1 : en ≤ 1099511627776) (h2 : n ≤ 4) : (encs [en, n]).length ≤ 20 ∧ ∀ y ∈ encs [en, n], y < 256 := by
  have h64 : ∀ x ∈ [en, n], U64 x := by
    intro x hx
    simp only [List.mem_cons, List.not_mem_nil, or_false] at hx
    unfold U64
    rcases hx with rfl | rfl <;> omega
  exact ⟨encs_len h64, encs_u64 h64⟩
/-- What a right projection is, for its bytes. -/
theorem pright {ep : Int} {cs : List (List Int)} (h : pchk ep cs = 0) : (∃ en : Nat, ep = (en : Int) ∧ en ≤ 1099511627776) ∧ (1 ≤ cs.length ∧ cs.length ≤ 4) ∧ ∀ c ∈ cs, (1 ≤ c.length ∧ c.length ≤ 4) ∧ ∀ u ∈ c, unitB u = true := by
  obtain ⟨h1, h2, h3, _⟩ := pchk_zero.1 h
  obtain ⟨e1, e2⟩ := epochB_iff.1 h1
  obtain ⟨f1, f2⟩ := formedB_iff.1 h2
  exact ⟨⟨ep.toNat, by omega, by omega⟩, f1, fun c hc => ⟨f2 c hc, fun u hu => List.all_eq_true.1 h3 u (List.mem_flatten.2 ⟨c, hc, hu⟩)⟩⟩

set_option maxHeartbeats 2000000 in
set_option maxRecDepth 100000 in
theorem pput_any (ep : Int) (v : Value) (cs : List (List Int)) (w : World) (B : Nat → Prop) (h : Chs w B v cs) :
    Calls Tryz.prog 14 #[.agg #[.int .i64 ep, v]] w fun e w' => Below w.heap.size w w' ∧
      ((pchk ep cs = 0 ∧ ∃ v', e = .returned (.tuple #[v', errV 0]) ∧ Owns w' w.heap.size 5 .u8 v' (fr (ptext ep cs))) ∨ (pchk ep cs ≠ 0 ∧ e = .returned (.tuple #[.slice none 0 0, errV (pchk ep cs)]))) := by
  obtain ⟨ao, cap, rfl, l1, m1, _⟩ := h.val
  obtain ⟨W1, hW1⟩ : ∃ W1, W1 = w.alloc (.cells #[.int .i64 ep, .slice ao cs.length cap] 25) := ⟨_, rfl⟩
  have hb1 : Below w.heap.size w W1 := by rw [hW1]; exact (Below.refl _ _).alloc (Nat.le_refl _) _
  have hx1 : Box2 W1 w.heap.size (.int .i64 ep) (.slice ao cs.length cap) := by rw [hW1]; exact box2_new _ _ _ _
  have HX1 := Lib.hid hx1
  have HB1 := Lib.hid hb1
  have HR := Lib.hid (h.old hb1)
  have HC := Lib.hid (pcheck_any ep _ cs W1 _ (h.old hb1))
  clear h hb1 l1 m1 hx1
  subst hW1
  by_cases g1 : pchk ep cs = 0
  rotate_left
  · have HG := Lib.hid g1
    obtain ⟨c, hc⟩ : ∃ c, c = pchk ep cs := ⟨_, rfl⟩
    rw [← hc] at HC HG g1 ⊢
    have HE : Hid (errV c = .iface 68 (.int .i64 (c : Int))) := Lib.hid (errV_pos g1)
    rw [HE.out] at HC
    clear g1 hc
    go_enter Tryz.func14, Tryz.ntmps14
    go_wp2_with fail
    refine HC.out.mono ?_
    rintro e w2 ⟨rfl, hb2⟩
    have HB2 : Hid (Below w.heap.size w w2) := Lib.hid (HB1.out.trans (hb2.mono HB1.out.size))
    clear hb2
    go_wp2
    go_ret2
    exact ⟨HB2.out, .inr ⟨HG.out, by rw [HE.out]; rfl⟩⟩
  have HG := Lib.hid g1
  obtain ⟨⟨en, rfl, hen⟩, ⟨n1, n4⟩, hcs⟩ := pright g1
  rw [g1, errV_zero] at HC
  have HEN := Lib.hid hen
  have HN4 := Lib.hid n4
  have HCS := Lib.hid hcs
  have hwe : IntKind.u64.wrap (en : Int) = (en : Int) := by rw [IntKind.wrap_u64]; omega
  have hwn : IntKind.u64.wrap (cs.length : Int) = (cs.length : Int) := by rw [IntKind.wrap_u64]; omega
  clear g1 hen n1 n4 hcs
  go_enter Tryz.func14, Tryz.ntmps14
  go_wp2_with fail
  refine HC.out.mono ?_
  rintro e w2 ⟨rfl, hb2⟩
  have q2 := HX1.out.old hb2
  obtain ⟨W3, hW3⟩ : ∃ W, W = w2.alloc (.cells #[.int .u64 (en : Int), .int .u64 (cs.length : Int)] 50) := ⟨_, rfl⟩
  have hb3 : Below w2.heap.size w2 W3 := by rw [hW3]; exact (Below.refl _ _).alloc (Nat.le_refl _) _
  have hr3 : Reads W3 .u64 (.slice (some ⟨w2.heap.size, 0, none⟩) 2 2) [en, cs.length] := by rw [hW3]; exact reads_litP w2 50 .u64 [en, cs.length] _ (0, 0) rfl (by simp [maxLen])
  have HPU := Lib.hid (put_any (.slice none 0 0) _ [] [en, cs.length] W3 (owns_nil W3 0 5 .u8).reads hr3 (by
    have h1 := HEN.out; have h2 := HN4.out
    intro x hx
    simp only [List.mem_cons, List.not_mem_nil, or_false] at hx
    unfold U64
    rcases hx with rfl | rfl <;> omega) (by simp))
  have HX3 := Lib.hid (q2.old hb3)
  have HB3 : Hid (Below w.heap.size w W3) := Lib.hid ((HB1.out.trans (hb2.mono HB1.out.size)).trans (hb3.mono (by have := hb2.size; have := HB1.out.size; omega)))
  have HR3 := Lib.hid ((HR.out.old hb2).old hb3)
  have HW3 := Lib.hid hW3
  have c0 := q2.c0
  have c1 := q2.c1
  clear hb2 q2 hW3 hb3 hr3
  go_wp2_with fail
  rw [← HW3.out]
  refine HPU.out.mono ?_
  rintro e w4 ⟨v4, rfl, ho4, hb4⟩
  have HO4 : Hid (Owns w4 w.heap.size 5 .u8 v4 (encs [en, cs.length])) := Lib.hid (ho4.mono HB3.out.size)
  have HB4 : Hid (Below w.heap.size w w4) := Lib.hid (HB3.out.trans (hb4.mono HB3.out.size))
  have HR4 := Lib.hid (HR3.out.old hb4)
  have q4 := HX3.out.old hb4
  have c0 := q4.c0
  have c1 := q4.c1
  obtain ⟨ao4, cap4, rfl, _, _, _⟩ := ho4.reads.val
  obtain ⟨n4, hn4⟩ : ∃ n, n = ([] ++ encs [en, cs.length]).length := ⟨_, rfl⟩
  rw [← hn4] at HO4 ⊢
  clear ho4 hb4 q4 hn4 hwe hwn
  go_wp2
  go_loopw [5, 7, 25] (fun tv _ i wr => ∃ k : Nat, k ≤ cs.length ∧ i = .int .i64 (k : Int) ∧ Owns wr w.heap.size 5 .u8 tv (encs [en, cs.length] ++ ((cs.take k).map ctext).flatten) ∧ Below w.heap.size w wr ∧ Chs wr B (.slice ao cs.length cap) cs)
    (fun _ _ i _ => cs.length - (intOf i).toNat)
  case atStart => exact ⟨0, Nat.zero_le _, rfl, by show Owns _ _ _ _ _ (_ ++ []); rw [List.append_nil]; exact HO4.out, HB4.out, HR4.out⟩
  case round =>
    obtain ⟨k, hk, rfl, ho, hb, hch⟩ := hrel
    obtain ⟨aot, capt, rfl, _, _, _⟩ := ho.reads.val
    obtain ⟨nt, hnt⟩ : ∃ n, n = (encs [en, cs.length] ++ ((cs.take k).map ctext).flatten).length := ⟨_, rfl⟩
    rw [← hnt] at ho ⊢
    have HLT : Hid ((encs [en, cs.length] ++ ((cs.take k).map ctext).flatten).length ≤ 300 ∧ ∀ y ∈ encs [en, cs.length] ++ ((cs.take k).map ctext).flatten, y < 256) := Lib.hid (by
      obtain ⟨a1, a2⟩ := phead_len HEN.out HN4.out
      obtain ⟨b1, b2⟩ := cflat_len (l := cs.take k) fun c hc => ⟨(HCS.out c (List.mem_of_mem_take hc)).1.2, (HCS.out c (List.mem_of_mem_take hc)).2⟩
      refine ⟨?_, app_byte a2 b2⟩
      have := HN4.out
      rw [List.length_append]
      have : (cs.take k).length ≤ 4 := by rw [List.length_take]; omega
      omega)
    have HO := Lib.hid ho
    have HB := Lib.hid hb
    have HCH := Lib.hid hch
    clear hnt hb
    by_cases hlt : k < cs.length
    · obtain ⟨b, off, x, rfl, hbl, _, hc, hat⟩ := hch.at hlt
      obtain ⟨aox, capx, rfl, _⟩ := hat.val
      have hm := HCS.out _ (getD_memC k hlt)
      have HTS : Hid (((cs.take (k + 1)).map ctext).flatten = ((cs.take k).map ctext).flatten ++ ctext (cs.getD k [])) := Lib.hid (by rw [chains_take k hlt]; simp)
      generalize cs.getD k [] = c at hc hat hm HTS
      have hlti : (k : Int) < cs.length := by omega
      have HNO := Lib.hid (numbersOf_any _ c wr B hat hm.2 (by omega))
      obtain ⟨nx, hnx⟩ : ∃ n, n = c.length := ⟨_, rfl⟩
      rw [← hnx] at hc HNO
      have HM := Lib.hid hm
      clear hat hm ho hch hnx
      go_wp2_with fail
      refine HNO.out.mono ?_
      rintro e w5 ⟨v5, rfl, ho5, hb5⟩
      have h64 : ∀ n ∈ c.map Int.toNat, U64 n := by
        intro n hn
        obtain ⟨u, h1, rfl⟩ := List.mem_map.1 hn
        have := unitB_iff.1 (HM.out.2 u h1)
        unfold U64; omega
      have HPL := Lib.hid (putList_any _ v5 _ _ w5 (HO.out.reads.new hb5) ho5.reads h64 (by have := HLT.out.1; have := HM.out.1; rw [List.length_map]; omega))
      have HB5 : Hid (Below w.heap.size w w5) := Lib.hid (HB.out.trans (hb5.mono HB.out.size))
      have HC5 := Lib.hid (HCH.out.old hb5)
      obtain ⟨ao5, cap5, rfl, _, _, _⟩ := ho5.reads.val
      obtain ⟨n5, hn5⟩ : ∃ n, n = (c.map Int.toNat).length := ⟨_, rfl⟩
      rw [← hn5] at HPL ⊢
      have HN5 := Lib.hid hn5
      clear ho5 hb5 h64 hn5
      go_wp2_with fail
      refine HPL.out.mono ?_
      rintro e w6 ⟨v6, rfl, ho6, hb6⟩
      have HO6 : Hid (Owns w6 w.heap.size 5 .u8 v6 (encs [en, cs.length] ++ ((cs.take (k + 1)).map ctext).flatten)) := Lib.hid (by
        rw [HTS.out, ← List.append_assoc]
        unfold ctext
        rw [← List.append_assoc]
        rw [HN5.out, List.length_map] at ho6
        exact ho6.mono HB5.out.size)
      have HB6 : Hid (Below w.heap.size w w6) := Lib.hid (HB5.out.trans (hb6.mono HB5.out.size))
      have HC6 := Lib.hid (HC5.out.old hb6)
      have hcl4 := HN4.out
      clear ho6 hb6
      go_wp2
      go_roundw
      case rel => exact ⟨k + 1, by omega, by go_num, HO6.out, HB6.out, HC6.out⟩
      case measure => simp [intOf]; omega
    · obtain rfl : k = cs.length := by omega
      have HPT : Hid (ptext (en : Int) cs = encs [en, cs.length] ++ ((cs.take cs.length).map ctext).flatten) := Lib.hid (by rw [List.take_length]; rfl)
      have HPG := Lib.hid (put_good (.slice none 0 0) _ [] _ wr (owns_nil wr 0 5 .u8).reads HO.out.reads HLT.out.2 (by have := HLT.out.1; omega) (by simp))
      clear ho hch
      go_wp2_with fail
      refine HPG.out.mono ?_
      rintro e w7 ⟨v7, rfl, ho7, hb7⟩
      have HO7 : Hid (Owns w7 w.heap.size 5 .u8 v7 (fr (ptext (en : Int) cs))) := Lib.hid (by rw [HPT.out]; exact ho7.mono HB.out.size)
      have HB7 : Hid (Below w.heap.size w w7) := Lib.hid (HB.out.trans (hb7.mono HB.out.size))
      clear ho7 hb7
      go_wp2
      go_ret2
      exact ⟨HB7.out, .inl ⟨HG.out, _, by rw [errV_zero]; rfl, HO7.out⟩⟩

end Go.Proofs.YtjbodokligpcaaaGreat

namespace Go.Proofs.YtjbodokligpcaaaGreat
open Go.RowKit

/-- Numbers as units, as the program turns them. -/
def unitW (n : Nat) : Int := IntKind.i64.wrap (n : Int)

set_option maxHeartbeats 1000000 in
set_option maxRecDepth 100000 in
theorem unitsOf_any (v : Value) (l : List Nat) (w : World) (h : Reads w .u64 v l) (hl : l.length ≤ 1000000) :
    Calls Tryz.prog 20 #[v] w fun e w' => ∃ v', e = .returned v' ∧ IOwn w' w.heap.size v' (l.map unitW) ∧ Below w.heap.size w w' := by
  obtain ⟨ao, cap, rfl, l1, m1, _⟩ := h.val
  have HR := Lib.hid h
  have HL := Lib.hid hl
  clear h hl
  unfold maxLen at m1
  go_enter Tryz.func20, Tryz.ntmps20
  go_wp2
  go_loopw [3, 5, 8] (fun lv _ i wr => ∃ k : Nat, k ≤ l.length ∧ i = .int .i64 (k : Int) ∧ IOwn wr w.heap.size lv ((l.take k).map unitW) ∧ Below w.heap.size w wr)
    (fun _ _ i _ => l.length - (intOf i).toNat)
  case atStart => exact ⟨0, Nat.zero_le _, rfl, iown_nil _ _, Below.refl _ _⟩
  case round =>
    obtain ⟨k, hk, rfl, ho, hb⟩ := hrel
    by_cases hlt : k < l.length
    · obtain ⟨b, off, rfl, _, hc⟩ := (HR.out.below hb (Nat.le_refl _)).at hlt
      have hcc := hc k hlt
      have HTS : Hid ((l.take (k + 1)).map unitW = (l.take k).map unitW ++ [unitW (l.getD k 0)]) := Lib.hid (by rw [List.take_add_one, List.getElem?_eq_getElem hlt, List.getD_eq_getElem?_getD, List.getElem?_eq_getElem hlt, List.map_append]; rfl)
      generalize l.getD k 0 = m at hcc HTS
      obtain ⟨y, hy⟩ : ∃ y, y = unitW m := ⟨_, rfl⟩
      have hw : IntKind.i64.wrap (m : Int) = y := by rw [hy]; rfl
      rw [← hy] at HTS
      have hki : (k : Int) < l.length := by omega
      have HLL := Lib.hid (show ((l.take k).map unitW).length ≤ 1000000 by rw [List.length_map, List.length_take]; have := HL.out; omega)
      clear hc hy
      go_wp2_with (at_builtin; go_must (refine wpList_appI _ rfl _ _ rfl w.heap.size _ ((l.take k).map unitW) rfl (ho.below ((Below.refl _ _).alloc (Nat.le_refl _) _) (Nat.le_refl _)) _ _ [y] rfl (show IRow (wr.alloc (.cells #[.int .i64 y] 3)) _ _ [y] from row_one wr 3 (.int .i64 y) (0, 0)) ?c1 ?c3 ?_))
      case c1 => have := HLL.out; simp only [List.length_cons, List.length_nil]; omega
      case c3 => have := hb.size; simp; omega
      intro v8 w8 ho8 hg8
      have HO8 : Hid (IOwn w8 w.heap.size v8 ((l.take (k + 1)).map unitW)) := Lib.hid (by rw [HTS.out, List.map_take]; exact ho8)
      have HB8 : Hid (Below w.heap.size w w8) := Lib.hid ((hb.alloc hb.size _).grown hg8 (by have := hb.size; simp; omega) (fun j hj => (ho.lt j hj).1))
      clear ho8 hg8
      go_wp2
      go_roundw
      case rel => exact ⟨k + 1, by omega, by go_num, HO8.out, HB8.out⟩
      case measure => simp [intOf]; omega
    · obtain rfl : k = l.length := by omega
      rw [List.take_length] at ho
      have HO := Lib.hid ho
      have HB := Lib.hid hb
      clear ho hb
      go_wp2
      go_ret
      exact ⟨_, rfl, HO.out, HB.out⟩

end Go.Proofs.YtjbodokligpcaaaGreat

namespace Go.Proofs.YtjbodokligpcaaaGreat
open Go.RowKit

set_option maxHeartbeats 1000000 in
set_option maxRecDepth 100000 in
theorem ptakeMany_any {w : World} {p : Nat} {rv : Value} {row : List Nat} {place c : Nat} (h : Rd w p rv row place c) :
    Calls Tryz.prog 19 #[.pointer (some ⟨p, 0, none⟩)] w (ManyPost p rv row place c 4 w) := by
  go_enter Tryz.func19, Tryz.ntmps19
  go_wp2_with fail
  refine (number_any h).mono ?_
  rintro e w1 ⟨n, place', c1, rfl, hn, hrd, hg⟩
  clear h
  have HN := Lib.hid hn
  clear hn
  by_cases hb : (4 : Int) < (n : Int)
  · have HB := Lib.hid (many_bad (c := c1) (n := n) (most := 4) (.inr hb))
    have hfl := fail_any hrd 3
    rw [errV_pos (by decide)] at hfl
    have HFL := Lib.hid hfl
    clear hfl hrd
    go_wp2_with fail
    refine HFL.out.mono ?_
    rintro e w2 ⟨rfl, hrd2, hg2⟩
    have HR := Lib.hid hrd2
    clear hrd2
    go_wp2
    go_ret
    exact ⟨n, place', c1, by rw [HB.out.1]; rfl, HN.out, by rw [HB.out.2]; exact HR.out, grownBy_trans hg hg2 (fun j hj _ => hj)⟩
  · have HB := Lib.hid (many_good (c := c1) (n := n) (most := 4) (by omega))
    have hn2 : (n : Int) ≤ 4 := by omega
    go_wp2
    go_ret
    exact ⟨n, place', c1, by rw [HB.out.1]; rfl, HN.out, by rw [HB.out.2]; exact hrd, hg⟩


end Go.Proofs.YtjbodokligpcaaaGreat

namespace Go.Proofs.YtjbodokligpcaaaGreat
open Go.RowKit

theorem pj_num_err {rest r : List Nat} {c n c' : Nat} (h : NumRel rest c n r c') (hc : c' = 0) : c = 0 ∧ U64 n ∧ rest = enc n ++ r := by
  rcases h with ⟨h1, _, _, h2⟩ | ⟨h1, h2, h3, _⟩ | ⟨_, _, _, h2, _⟩
  · omega
  · exact ⟨h1, h2, h3⟩
  · omega
theorem pj_num_of {n : Nat} (hn : U64 n) (r : List Nat) : NumRel (enc n ++ r) 0 n r 0 := .inr (.inl ⟨rfl, hn, rfl, rfl⟩)
theorem pj_num_stop {rest : List Nat} {c : Nat} (hc : c ≠ 0) : NumRel rest c 0 rest c := .inl ⟨hc, rfl, rfl, rfl⟩
theorem pj_num_zero {rest r : List Nat} {c n c' : Nat} (h : NumRel rest c n r c') (hc : c' ≠ 0) : n = 0 := by
  rcases h with ⟨_, h, _, _⟩ | ⟨_, _, _, h⟩ | ⟨_, h, _, _, _⟩
  · exact h
  · exact absurd h hc
  · exact h
theorem pj_run_of {l : List Nat} (h : ∀ x ∈ l, U64 x) (r : List Nat) : RunRel (encs l ++ r) 0 l.length l r 0 := .inr (.inl ⟨rfl, l, rfl, h, rfl, rfl, rfl⟩)
theorem pj_run_stop {rest : List Nat} {c m : Nat} (hc : c ≠ 0) : RunRel rest c m [] rest c := .inl ⟨hc, rfl, rfl, rfl⟩
theorem pj_run_u64 {rest out r : List Nat} {c m c' : Nat} (h : RunRel rest c m out r c') : (∀ x ∈ out, U64 x) ∧ out.length ≤ m := by
  rcases h with ⟨_, rfl, _⟩ | ⟨_, acc, h1, h2, _, rfl, _⟩ | ⟨_, acc, _, _, _, _, rfl, _⟩
  · exact ⟨by simp, by simp⟩
  · exact ⟨h2, by omega⟩
  · exact ⟨by simp, by simp⟩
theorem pj_fo_unique {b t t' : List Nat} {c c' : Nat} (h : FO b t c) (h' : FO b t' c') : t = t' ∧ c = c' := by
  obtain ⟨t1, s1, c1, hft, hif⟩ := h
  obtain ⟨t2, s2, c2, hft2, hif2⟩ := h'
  obtain ⟨rfl, rfl, rfl⟩ := hft.unique hft2
  split at hif
  · rename_i h1
    rw [if_pos h1] at hif2
    exact ⟨hif.1.trans hif2.1.symm, hif.2.trans hif2.2.symm⟩
  · rename_i h1
    rw [if_neg h1] at hif2
    split at hif
    · rename_i h2
      rw [if_pos h2] at hif2
      exact ⟨hif.1.trans hif2.1.symm, hif.2.trans hif2.2.symm⟩
    · rename_i h2
      rw [if_neg h2] at hif2
      exact ⟨hif.1.trans hif2.1.symm, hif.2.trans hif2.2.symm⟩
theorem pj_fo_good {b t : List Nat} {c : Nat} (h8 : ∀ y ∈ b, y < 256) (h : FO b t c) : (∀ y ∈ t, y < 256) ∧ t.length ≤ 65536 := by
  obtain ⟨t1, s1, c1, hft, hif⟩ := h
  split at hif
  · rw [hif.1]; exact ⟨by simp, by simp⟩
  · rename_i h1
    obtain rfl : c1 = 0 := Classical.not_not.1 h1
    split at hif
    · rw [hif.1]; exact ⟨by simp, by simp⟩
    · obtain ⟨_, _, h3, _, h5⟩ := hft.good
      rw [hif.1]
      exact ⟨fun y hy => h8 y (h5 y hy), h3⟩

/-- So many chains that bytes begin with. -/
def TLs : Nat → List Nat → Nat → List (List Nat) → List Nat → Nat → Prop
  | 0, rest, c, ls, fin, c' => ls = [] ∧ fin = rest ∧ c' = c
  | n + 1, rest, c, ls, fin, c' => ∃ (m : Nat) (r1 : List Nat) (c1 : Nat) (out r2 : List Nat) (c2 : Nat) (l1 : List (List Nat)),
      NumRel rest c m r1 c1 ∧ RunRel r1 (manyC m c1 4) (manyR m 4) out r2 c2 ∧ TLs n r2 c2 l1 fin c' ∧ ls = out :: l1
theorem TLs.unique : ∀ {n : Nat} {rest : List Nat} {c : Nat} {l l' : List (List Nat)} {fin fin' : List Nat} {d d' : Nat}, TLs n rest c l fin d → TLs n rest c l' fin' d' → l = l' ∧ fin = fin' ∧ d = d'
  | 0, _, _, _, _, _, _, _, _, h, h' => by
    obtain ⟨rfl, rfl, rfl⟩ := h
    obtain ⟨rfl, rfl, rfl⟩ := h'
    exact ⟨rfl, rfl, rfl⟩
  | n + 1, _, _, _, _, _, _, _, _, h, h' => by
    obtain ⟨m, r1, c1, out, r2, c2, l1, hn, hr, ht, rfl⟩ := h
    obtain ⟨m', r1', c1', out', r2', c2', l1', hn', hr', ht', rfl⟩ := h'
    obtain ⟨rfl, rfl, rfl⟩ := hn.unique hn'
    obtain ⟨rfl, rfl, rfl⟩ := hr.unique hr'
    obtain ⟨rfl, rfl, rfl⟩ := TLs.unique ht ht'
    exact ⟨rfl, rfl, rfl⟩
theorem tls_stop {c : Nat} (hc : c ≠ 0) : ∀ (n : Nat) (rest : List Nat), TLs n rest c (List.replicate n []) rest c
  | 0, _ => ⟨rfl, rfl, rfl⟩
  | n + 1, rest => by
    have hm := many_good (n := 0) (c := c) (most := 4) (by omega)
    exact ⟨0, rest, c, [], rest, c, _, pj_num_stop hc, by rw [hm.1, hm.2]; exact pj_run_stop hc, tls_stop hc n rest, rfl⟩
theorem TLs.u64 : ∀ {n : Nat} {rest : List Nat} {c : Nat} {l : List (List Nat)} {fin : List Nat} {d : Nat}, TLs n rest c l fin d → ∀ o ∈ l, ∀ x ∈ o, U64 x
  | 0, _, _, _, _, _, h => by
    obtain ⟨rfl, _, _⟩ := h
    simp
  | n + 1, _, _, _, _, _, h => by
    obtain ⟨m, r1, c1, out, r2, c2, l1, hn, hr, ht, rfl⟩ := h
    intro o ho
    rcases List.mem_cons.1 ho with rfl | ho
    · exact (pj_run_u64 hr).1
    · exact TLs.u64 ht o ho
theorem TLs.len : ∀ {n : Nat} {rest : List Nat} {c : Nat} {l : List (List Nat)} {fin : List Nat} {d : Nat}, TLs n rest c l fin d → l.length = n
  | 0, _, _, _, _, _, h => by
    obtain ⟨rfl, _, _⟩ := h
    rfl
  | n + 1, _, _, _, _, _, h => by
    obtain ⟨m, r1, c1, out, r2, c2, l1, hn, hr, ht, rfl⟩ := h
    rw [List.length_cons, TLs.len ht]

/-- What is left to be taken, when so many are taken. -/
def PCont (m : Nat) (rest0 : List Nat) (c0 k : Nat) (rest : List Nat) (c : Nat) (done : List (List Nat)) : Prop :=
  ∀ l fin c', TLs (m - k) rest c l fin c' → TLs m rest0 c0 (done ++ l) fin c'
theorem pcont_start {m c0 : Nat} {rest0 : List Nat} : PCont m rest0 c0 0 rest0 c0 [] := fun l fin c' h => by
  rw [List.nil_append]; exact h
theorem PCont.next {m c0 k c n c1 c2 : Nat} {rest0 rest r1 out r2 : List Nat} {done : List (List Nat)} (h : PCont m rest0 c0 k rest c done) (hk : k < m) (hn : NumRel rest c n r1 c1)
    (hr : RunRel r1 (manyC n c1 4) (manyR n 4) out r2 c2) : PCont m rest0 c0 (k + 1) r2 c2 (done ++ [out]) := fun l fin c' ht => by
  rw [List.append_assoc]
  refine h _ fin c' ?_
  rw [show m - k = (m - (k + 1)) + 1 by omega]
  exact ⟨n, r1, c1, out, r2, c2, l, hn, hr, ht, rfl⟩
theorem PCont.done {m c0 c : Nat} {rest0 rest : List Nat} {done : List (List Nat)} (h : PCont m rest0 c0 m rest c done) : TLs m rest0 c0 done rest c := by
  have := h [] rest c (by rw [Nat.sub_self]; exact ⟨rfl, rfl, rfl⟩)
  rwa [List.append_nil] at this
theorem PCont.stop {m c0 k c : Nat} {rest0 rest : List Nat} {done : List (List Nat)} (h : PCont m rest0 c0 k rest c done) (hc : c ≠ 0) : ∃ ls, TLs m rest0 c0 ls rest c :=
  ⟨_, h _ _ _ (tls_stop hc _ _)⟩

/-- What a projection's text begins with. -/
def TProj (t : List Nat) (en : Nat) (ls : List (List Nat)) (fin : List Nat) (c : Nat) : Prop :=
  ∃ n1 r1 c1 n2 r2 c2, NumRel t 0 n1 r1 c1 ∧ en = withinR n1 1099511627776 ∧ NumRel r1 (withinC n1 c1 1099511627776) n2 r2 c2 ∧ TLs (manyR n2 4) r2 (manyC n2 c2 4) ls fin c
theorem TProj.unique {t : List Nat} {en en' : Nat} {l l' : List (List Nat)} {fin fin' : List Nat} {c c' : Nat} (h : TProj t en l fin c) (h' : TProj t en' l' fin' c') : en = en' ∧ l = l' ∧ fin = fin' ∧ c = c' := by
  obtain ⟨n1, r1, c1, n2, r2, c2, p1, rfl, p2, p3⟩ := h
  obtain ⟨m1, s1, b1, m2, s2, b2, q1, rfl, q2, q3⟩ := h'
  obtain ⟨rfl, rfl, rfl⟩ := p1.unique q1
  obtain ⟨rfl, rfl, rfl⟩ := p2.unique q2
  obtain ⟨rfl, rfl, rfl⟩ := p3.unique q3
  exact ⟨rfl, rfl, rfl, rfl⟩
theorem TProj.u64 {t : List Nat} {en : Nat} {l : List (List Nat)} {fin : List Nat} {c : Nat} (h : TProj t en l fin c) : ∀ o ∈ l, ∀ x ∈ o, U64 x := by
  obtain ⟨n1, r1, c1, n2, r2, c2, p1, rfl, p2, p3⟩ := h
  exact p3.u64

/-- Numbers as units. -/
def unitsW (ls : List (List Nat)) : List (List Int) := ls.map fun l => l.map unitW
/-- The same, as the document turns them. -/
def unit8 (n : Nat) : Int := if 8 < n then 8 else (n : Int)
def units8 (ls : List (List Nat)) : List (List Int) := ls.map fun l => l.map unit8

theorem unit8_small (n : Nat) : unitB (unit8 n) = decide (n ≤ 7) := by
  unfold unitB unit8
  split
  · rw [show decide ((8 : Int) ≤ 7) = false by rfl, Bool.and_false, eq_comm, decide_eq_false_iff_not]
    omega
  · rw [show decide ((0 : Int) ≤ (n : Int)) = true by rw [decide_eq_true_iff]; omega, Bool.true_and]
    exact decide_eq_decide.2 (by omega)
theorem unitW_small {n : Nat} (h : U64 n) : unitB (unitW n) = decide (n ≤ 7) := by
  unfold U64 at h
  unfold unitB unitW
  by_cases h1 : n < 9223372036854775808
  · have e : IntKind.i64.wrap (n : Int) = n := by rw [IntKind.wrap_i64]; omega
    rw [e, show decide ((0 : Int) ≤ (n : Int)) = true by rw [decide_eq_true_iff]; omega, Bool.true_and]
    exact decide_eq_decide.2 (by omega)
  · have e : IntKind.i64.wrap (n : Int) = (n : Int) - 18446744073709551616 := by rw [IntKind.wrap_i64]; omega
    rw [e, show decide ((0 : Int) ≤ (n : Int) - 18446744073709551616) = false by rw [decide_eq_false_iff_not]; omega, Bool.false_and, eq_comm, decide_eq_false_iff_not]
    omega
theorem unit_both {n : Nat} (h7 : n ≤ 7) : unit8 n = unitW n := by
  unfold unit8 unitW
  rw [if_neg (by omega)]
  rw [IntKind.wrap_i64]
  omega
theorem unitW_nat {n : Nat} (h7 : n ≤ 7) : unitW n = (n : Int) := by
  unfold unitW
  rw [IntKind.wrap_i64]
  omega

theorem formed_turn (f g : Nat → Int) (ls : List (List Nat)) : formedB (ls.map fun l => l.map f) = formedB (ls.map fun l => l.map g) := by
  have e : ∀ f : Nat → Int, formedB (ls.map fun l => l.map f) = (fewB ls.length && ls.all fun l => fewB l.length) := fun f => by
    unfold formedB
    rw [List.length_map, List.all_map]
    congr 1
    refine congrArg (fun p => ls.all p) (funext fun l => ?_)
    simp
  rw [e, e]
theorem all_turn {f : Nat → Int} {ls : List (List Nat)} (h : ∀ l ∈ ls, ∀ x ∈ l, unitB (f x) = decide (x ≤ 7)) : (ls.map fun l => l.map f).flatten.all unitB = ls.flatten.all fun x => decide (x ≤ 7) := by
  induction ls with
  | nil => rfl
  | cons l r ih =>
    rw [List.map_cons, List.flatten_cons, List.flatten_cons, List.all_append, List.all_append, ih fun m hm => h m (List.mem_cons_of_mem _ hm)]
    congr 1
    rw [List.all_map]
    have hl := h l (List.mem_cons_self ..)
    clear ih h
    induction l with
    | nil => rfl
    | cons a l ih2 =>
      rw [List.all_cons, List.all_cons, ih2 fun x hx => hl x (List.mem_cons_of_mem _ hx), Function.comp, hl a (List.mem_cons_self ..)]
/-- Both ways of turning numbers into units come to one answer. -/
theorem pchk_turn (en : Int) {ls : List (List Nat)} (h : ∀ l ∈ ls, ∀ x ∈ l, U64 x) : pchk en (units8 ls) = pchk en (unitsW ls) ∧ (pchk en (unitsW ls) = 0 → units8 ls = unitsW ls) := by
  have h1 := all_turn (f := unit8) (ls := ls) fun _ _ x _ => unit8_small x
  have h2 := all_turn (f := unitW) (ls := ls) fun l hl x hx => unitW_small (h l hl x hx)
  have h3 := formed_turn unit8 unitW ls
  have h4 : (ls.flatten.all fun x => decide (x ≤ 7)) = true → units8 ls = unitsW ls := fun ha => by
    refine List.map_congr_left fun l hl => List.map_congr_left fun x hx => unit_both ?_
    exact of_decide_eq_true (List.all_eq_true.1 ha x (List.mem_flatten.2 ⟨l, hl, hx⟩))
  constructor
  · by_cases ha : (ls.flatten.all fun x => decide (x ≤ 7)) = true
    · rw [h4 ha]
    · have ha : (ls.flatten.all fun x => decide (x ≤ 7)) = false := by simpa using ha
      unfold pchk units8 unitsW
      rw [h1, h2, h3, ha]
      simp only [if_true]
  · intro hz
    have := (pchk_zero.1 hz).2.2.1
    unfold unitsW at this
    rw [h2] at this
    exact h4 this

/-- What Take answers: an error's number, the projection if that is 0. -/
def RProj (b : List Nat) (ep : Int) (cs : List (List Int)) (c : Nat) : Prop :=
  ∃ t c0, FO b t c0 ∧ if c0 ≠ 0 then c = c0 else ∃ en ls fin c1, TProj t en ls fin c1 ∧
    if endC fin.length c1 ≠ 0 then c = endC fin.length c1 else c = pchk (en : Int) (unitsW ls) ∧ (c = 0 → ep = (en : Int) ∧ cs = unitsW ls)
theorem RProj.unique {b : List Nat} {ep ep' : Int} {cs cs' : List (List Int)} {c c' : Nat} (h : RProj b ep cs c) (h' : RProj b ep' cs' c') : c = c' ∧ (c = 0 → ep = ep' ∧ cs = cs') := by
  obtain ⟨t, c0, hfo, hif⟩ := h
  obtain ⟨t', c0', hfo', hif'⟩ := h'
  obtain ⟨rfl, rfl⟩ := pj_fo_unique hfo hfo'
  split at hif
  · rename_i h1
    rw [if_pos h1] at hif'
    exact ⟨hif.trans hif'.symm, fun h => absurd (hif.symm.trans h) h1⟩
  · rename_i h1
    rw [if_neg h1] at hif'
    obtain ⟨en, ls, fin, c1, ht, hif⟩ := hif
    obtain ⟨en', ls', fin', c1', ht', hif'⟩ := hif'
    obtain ⟨rfl, rfl, rfl, rfl⟩ := ht.unique ht'
    split at hif
    · rename_i h2
      rw [if_pos h2] at hif'
      exact ⟨hif.trans hif'.symm, fun h => absurd (hif.symm.trans h) h2⟩
    · rename_i h2
      rw [if_neg h2] at hif'
      have hc := hif.1.trans hif'.1.symm
      exact ⟨hc, fun h => by
        obtain ⟨rfl, rfl⟩ := hif.2 h
        obtain ⟨rfl, rfl⟩ := hif'.2 (hc ▸ h)
        exact ⟨rfl, rfl⟩⟩

/-- The chains' bytes are taken. -/
theorem tls_text : ∀ {cs : List (List Int)} (rest : List Nat), (∀ c ∈ cs, c.length ≤ 4 ∧ ∀ u ∈ c, unitB u = true) → TLs cs.length ((cs.map ctext).flatten ++ rest) 0 (cs.map fun c => c.map Int.toNat) rest 0
  | [], _, _ => ⟨rfl, rfl, rfl⟩
  | c :: r, rest, h => by
    obtain ⟨h4, hu⟩ := h c (by simp)
    have hm := many_good (n := c.length) (c := 0) (most := 4) (by omega)
    have h64 : ∀ x ∈ c.map Int.toNat, U64 x := fun x hx => by
      obtain ⟨u, h1, rfl⟩ := List.mem_map.1 hx
      have := unitB_iff.1 (hu u h1)
      unfold U64; omega
    have hr := pj_run_of h64 ((r.map ctext).flatten ++ rest)
    rw [List.length_map] at hr
    refine ⟨c.length, encs (c.map Int.toNat) ++ ((r.map ctext).flatten ++ rest), 0, c.map Int.toNat, (r.map ctext).flatten ++ rest, 0, _, ?_, by rw [hm.1, hm.2]; exact hr, tls_text rest fun d hd => h d (by simp [hd]), rfl⟩
    rw [List.map_cons, List.flatten_cons]
    unfold ctext
    simp only [List.append_assoc]
    exact pj_num_of (by unfold U64; omega) _
theorem unitsW_back {cs : List (List Int)} (h : ∀ c ∈ cs, ∀ u ∈ c, unitB u = true) : unitsW (cs.map fun c => c.map Int.toNat) = cs := by
  unfold unitsW
  rw [List.map_map]
  conv => rhs; rw [← List.map_id cs]
  refine List.map_congr_left fun c hc => ?_
  simp only [Function.comp, List.map_map, id]
  conv => rhs; rw [← List.map_id c]
  refine List.map_congr_left fun u hu => ?_
  have := unitB_iff.1 (h c hc u hu)
  simp only [Function.comp, id]
  rw [unitW_nat (by omega)]
  omega
theorem ptext_len {ep : Int} {cs : List (List Int)} (h : pchk ep cs = 0) : (ptext ep cs).length ≤ 300 ∧ ∀ y ∈ ptext ep cs, y < 256 := by
  obtain ⟨⟨en, rfl, he⟩, ⟨_, hl⟩, hc⟩ := pright h
  obtain ⟨a1, a2⟩ := phead_len (en := en) (n := cs.length) he hl
  obtain ⟨b1, b2⟩ := cflat_len (l := cs) fun c hc2 => ⟨(hc c hc2).1.2, (hc c hc2).2⟩
  unfold ptext
  rw [Int.toNat_natCast]
  exact ⟨by rw [List.length_append]; omega, app_byte a2 b2⟩
/-- Take of what was put. -/
theorem rproj_put {ep : Int} {cs : List (List Int)} (h : pchk ep cs = 0) : RProj (fr (ptext ep cs)) ep cs 0 := by
  have hl := (ptext_len h).1
  obtain ⟨⟨en, rfl, he⟩, ⟨h1, h4⟩, hc⟩ := pright h
  have h2 := ft_fr (t := ptext (en : Int) cs) (by omega) []
  rw [List.append_nil] at h2
  have hw : withinR en 1099511627776 = en ∧ withinC en 0 1099511627776 = 0 := within_good (by omega)
  have hm := many_good (n := cs.length) (c := 0) (most := 4) (by omega)
  have ht := tls_text (cs := cs) [] fun c hc2 => ⟨(hc c hc2).1.2, (hc c hc2).2⟩
  rw [List.append_nil] at ht
  have hub := unitsW_back (cs := cs) fun c hc2 => (hc c hc2).2
  refine ⟨ptext (en : Int) cs, 0, ⟨_, _, _, h2, by rw [if_neg (by decide), if_neg (by rw [fr_length]; omega)]; exact ⟨rfl, rfl⟩⟩, ?_⟩
  rw [if_neg (by decide)]
  refine ⟨en, cs.map fun c => c.map Int.toNat, [], 0, ⟨en, enc cs.length ++ (cs.map ctext).flatten, 0, cs.length, (cs.map ctext).flatten, 0, ?_, hw.1.symm, ?_, ?_⟩, ?_⟩
  · unfold ptext
    rw [Int.toNat_natCast]
    simp only [encs, List.flatMap_cons, List.flatMap_nil, List.append_nil, List.append_assoc]
    exact pj_num_of (by unfold U64; omega) _
  · rw [hw.2]; exact pj_num_of (by unfold U64; omega) _
  · rw [hm.1, hm.2]; exact ht
  · rw [if_neg (by decide), hub]
    exact ⟨h.symm, fun _ => ⟨rfl, rfl⟩⟩

end Go.Proofs.YtjbodokligpcaaaGreat
