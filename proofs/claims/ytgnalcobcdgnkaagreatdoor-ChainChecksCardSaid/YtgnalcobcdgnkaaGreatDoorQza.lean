/- The document's own manifests: Put. · Law 16: alive, Long, collides. -/
import Derived.Test.YtgnalcobcdgnkaaGreatDoorQz
namespace Go.Proofs.YtgnalcobcdgnkaaGreatDoor
open Go.RowKit

theorem encs_take {l : List Nat} {k : Nat} (h : k < l.length) : encs (l.take (k + 1)) = encs (l.take k) ++ enc (l.getD k 0) := by
  rw [List.take_succ_eq_append_getElem h, List.getD_eq_getElem?_getD, List.getElem?_eq_getElem h]
  exact encs_snoc _ _
/-- A block of another kind stays where what is owned is appended to. -/
theorem other_blk {w w' : World} {base : Nat} {e : TypeId} {k : IntKind} {v : Value} {l : List Nat} (h : Owns w base e k v l) (hg : w.grownBy w' v.ownBlock) {q : Nat} {cs : Array Value} {T : TypeId} (hq : w.heap[q]? = some (.cells cs T (0, 0))) (hT : T ≠ e) : w'.heap[q]? = some (.cells cs T (0, 0)) := by
  refine (hg.block _ (Array.getElem?_eq_some_iff.1 hq).1 ?_).trans hq
  intro e1
  obtain ⟨c2, h2⟩ := own_blk h e1.symm
  have := h2.symm.trans hq
  injection this with this
  injection this with _ h3 _
  exact hT h3.symm

set_option maxHeartbeats 8000000 in
set_option maxRecDepth 100000 in
theorem rmput_any (m : MF) (v : Value) (w : World) (B : Nat → Prop) (h : PsAt w B v m.ps) (hd : Dg m.prev) (hz : mchk m = 0) :
    Calls Tryz.prog 23 #[.agg (mfRow m v).toArray] w fun e w' => ∃ v', e = .returned v' ∧ Owns w' w.heap.size 5 .u8 v' (fr (mtext m)) ∧ Below w.heap.size w w' := by
  obtain ⟨ao, cap, rfl, l1, m1, _⟩ := h.val
  obtain ⟨n, hn⟩ : ∃ n, n = m.ps.length := ⟨_, rfl⟩
  rw [← hn] at h ⊢
  obtain ⟨W1, hW1⟩ : ∃ W1, W1 = w.alloc (.cells (mfRow m (.slice ao n cap)).toArray 54) := ⟨_, rfl⟩
  have hb1 : Below w.heap.size w W1 := by rw [hW1]; exact (Below.refl _ _).alloc (Nat.le_refl _) _
  have hx1 : MB W1 w.heap.size m (.slice ao n cap) 54 := by rw [hW1]; exact mb_new _ _ _ _
  have HX1 := Lib.hid hx1
  have HB1 := Lib.hid hb1
  have HR := Lib.hid (h.old hb1)
  have HOK : Hid (MOk m) := Lib.hid ⟨hd, h.2⟩
  have HN := Lib.hid hn
  have HZ0 := Lib.hid hz
  obtain ⟨A, hA⟩ : ∃ A, A = (mfRow m (.slice ao n cap)).toArray := ⟨_, rfl⟩
  rw [← hA] at hW1 ⊢
  have hW1' := hW1
  obtain ⟨⟨h1, h2, h3, h4⟩, _, _, hl, hp⟩ := mchk_zero hz
  have HPZ := Lib.hid (parts_zero hp)
  have HL := Lib.hid hl
  obtain ⟨e1, q1⟩ : ∃ k : Nat, m.num = (k : Int) := ⟨m.num.toNat, by omega⟩
  obtain ⟨e2, q2⟩ : ∃ k : Nat, m.fro = (k : Int) := ⟨m.fro.toNat, by omega⟩
  obtain ⟨e3, q3⟩ : ∃ k : Nat, m.upto = (k : Int) := ⟨m.upto.toNat, by omega⟩
  obtain ⟨e4, q4⟩ : ∃ k : Nat, m.trim = (k : Int) := ⟨m.trim.toNat, by omega⟩
  rw [q1] at h1
  rw [q2] at h2
  rw [q3] at h3
  rw [q4] at h4
  have hwn : IntKind.u64.wrap (n : Int) = (n : Int) := by have := HN.out; rw [IntKind.wrap_u64]; omega
  have HWN := Lib.hid hwn
  have HU : Hid (∀ x ∈ [e1, e2, e3, e4], U64 x ∧ x ≤ 9000000) := Lib.hid (by
    intro x hx
    simp only [List.mem_cons, List.not_mem_nil, or_false] at hx
    unfold U64
    rcases hx with rfl | rfl | rfl | rfl <;> omega)
  have HHEAD : Hid (mhead m = encs [e1, e2, e3, e4] ++ m.prev) := Lib.hid (by unfold mhead; rw [q1, q2, q3, q4]; simp only [Int.toNat_natCast])
  have HX : Hid (∀ W, Below W1.heap.size W1 W → (W.cell? ⟨w.heap.size, 0, none⟩ = some (.int .i64 (e1 : Int)) ∧ W.cell? ⟨w.heap.size, 1, none⟩ = some (.int .i64 (e2 : Int))) ∧ (W.cell? ⟨w.heap.size, 2, none⟩ = some (.int .i64 (e3 : Int)) ∧ W.cell? ⟨w.heap.size, 3, none⟩ = some (.int .i64 (e4 : Int))) ∧ W.cell? ⟨w.heap.size, 36, none⟩ = some (.slice ao n cap)) := Lib.hid fun W hb => by
    obtain ⟨a, b, c, d, e⟩ := (HX1.out.old hb).x HOK.out.prev
    rw [q1] at a
    rw [q2] at b
    rw [q3] at c
    rw [q4] at d
    exact ⟨⟨a, b⟩, ⟨c, d⟩, e⟩
  have HPV : Hid (∀ W, Below W1.heap.size W1 W → Reads W .u8 (.slice (some ⟨w.heap.size, 4, none⟩) 32 32) m.prev) := Lib.hid fun W hb => reads_dig HOK.out.prev (HX1.out.old hb).lt (HX1.out.old hb).prev
  obtain ⟨W2, hW2⟩ : ∃ W, W = W1.alloc (.cells #[] 5) := ⟨_, rfl⟩
  have hb2 : Below W1.heap.size W1 W2 := by rw [hW2]; exact (Below.refl _ _).alloc (Nat.le_refl _) _
  have ho2 : Owns W2 W1.heap.size 5 .u8 (.slice (some ⟨W1.heap.size, 0, none⟩) 0 0) [] := by rw [hW2]; exact owns_empty W1 W1.heap.size 5 .u8 (Nat.le_refl _)
  obtain ⟨W3, hW3⟩ : ∃ W, W = W2.alloc (.cells #[.int .i64 (e1 : Int), .int .i64 (e2 : Int), .int .i64 (e3 : Int), .int .i64 (e4 : Int)] 3) := ⟨_, rfl⟩
  have hb3 : Below W2.heap.size W2 W3 := by rw [hW3]; exact (Below.refl _ _).alloc (Nat.le_refl _) _
  have hq3 : W3.heap[W2.heap.size]? = some (.cells (vals .i64 [e1, e2, e3, e4]).toArray 3 (0, 0)) := by rw [hW3]; exact heap_alloc_new _ _
  have hs1 : W1.heap.size = w.heap.size + 1 := by rw [hW1]; simp
  have hs2 : W2.heap.size = w.heap.size + 2 := by rw [hW2]; simp [hs1]
  have HQ3 := Lib.hid hq3
  have HO3 := Lib.hid (ho2.below hb3 (Nat.le_refl _))
  have HB3 : Hid (Below W1.heap.size W1 W3) := Lib.hid (hb2.trans (hb3.mono hb2.size))
  have HS2 := Lib.hid hs2
  have HS1 := Lib.hid hs1
  obtain ⟨⟨x0, x1⟩, ⟨x2, x3⟩, x36⟩ := HX.out W2 hb2
  have hW3' := hW3
  rw [hW2, hW1'] at hW3'
  rw [hW2, hW1'] at x0 x1 x2 x3 x36
  have HW3 := Lib.hid hW3'
  have HTE : Hid (3 ≠ 5) := Lib.hid (by decide)
  clear hA hb1 hx1 h l1 m1 hd hW1 hn hz h1 h2 h3 h4 hl hp q1 q2 q3 q4 hb2 ho2 hb3 hq3 hW3 hW3' hW2 hs1 hs2 hW1'
  go_enter Tryz.func23, Tryz.ntmps23
  go_wp2
  rw [← HW3.out]
  clear x0 x1 x2 x3 x36
  go_loopw [3, 5, 19] (fun tv _ iv wr => ∃ k : Nat, k ≤ 4 ∧ iv = .int .i64 (k : Int) ∧ Owns wr W1.heap.size 5 .u8 tv (encs ([e1, e2, e3, e4].take k)) ∧ Below W1.heap.size W1 wr ∧ wr.heap[w.heap.size + 2]? = some (.cells (vals .i64 [e1, e2, e3, e4]).toArray 3 (0, 0)))
    (fun _ _ iv _ => 4 - (intOf iv).toNat)
  case atStart =>
    refine ⟨0, by omega, rfl, ?_, HB3.out, by rw [← HS2.out]; exact HQ3.out⟩
    have := HO3.out
    rw [HS1.out] at this ⊢
    exact this
  case round =>
    obtain ⟨k, hk, rfl, ho, hb, hq⟩ := hrel
    have HB := Lib.hid hb
    have HQ := Lib.hid hq
    have HO := Lib.hid ho
    by_cases hlt : k < 4
    · obtain ⟨x, hx⟩ : ∃ x, x = [e1, e2, e3, e4].getD k 0 := ⟨_, rfl⟩
      have hxm : x ∈ [e1, e2, e3, e4] := by rw [hx, List.getD_eq_getElem?_getD, List.getElem?_eq_getElem (by simpa using hlt)]; exact List.getElem_mem _
      have HUX := Lib.hid (HU.out x hxm)
      have hc : wr.cell? ⟨w.heap.size + 2, k, none⟩ = some (.int .i64 (x : Int)) := by
        rw [hx]
        exact cell_of_row hq k (by simpa using hlt)
      have HEN : Hid (encs ([e1, e2, e3, e4].take (k + 1)) = encs ([e1, e2, e3, e4].take k) ++ enc x) := Lib.hid (by rw [hx]; exact encs_take (by simpa using hlt))
      have HEL : Hid ((encs ([e1, e2, e3, e4].take k)).length ≤ 40) := Lib.hid (by
        have := encs_len (l := [e1, e2, e3, e4].take k) fun y hy => (HU.out y (List.mem_of_mem_take hy)).1
        rw [List.length_take] at this
        simp only [List.length_cons, List.length_nil] at this
        omega)
      have hwx : IntKind.u64.wrap (x : Int) = (x : Int) := by have := HUX.out.2; rw [IntKind.wrap_u64]; omega
      have HRB := Lib.hid (refBytes_any x wr HUX.out.1)
      have hki : (k : Int) < 4 := by omega
      have HKL : Hid (k + 1 ≤ 4) := Lib.hid hlt
      obtain ⟨aot, capt, rfl, _, _, _⟩ := ho.reads.val
      obtain ⟨tl, htl⟩ : ∃ tl, tl = encs ([e1, e2, e3, e4].take k) := ⟨_, rfl⟩
      rw [← htl] at HO HEN HEL ⊢
      obtain ⟨nt, hnt⟩ : ∃ k, k = tl.length := ⟨_, rfl⟩
      rw [← hnt] at HO ⊢
      clear ho hb hq hx hxm htl hnt
      go_wp2_with fail
      refine HRB.out.mono ?_
      rintro e w4 ⟨v4, rfl, ho4, hb4⟩
      have HO4 := Lib.hid (HO.out.below hb4 (Nat.le_refl _))
      have HR4 := Lib.hid ho4.reads
      have HB4 : Hid (Below W1.heap.size W1 w4) := Lib.hid (HB.out.trans (hb4.mono HB.out.size))
      have HQ4 : Hid (w4.heap[w.heap.size + 2]? = some (.cells (vals .i64 [e1, e2, e3, e4]).toArray 3 (0, 0))) := Lib.hid ((hb4.block _ (Array.getElem?_eq_some_iff.1 HQ.out).1).trans HQ.out)
      have HXL : Hid ((enc x).length ≤ 10) := Lib.hid (enc_len10 HUX.out.1)
      clear ho4 hb4 hc
      go_wp2_with (at_builtin; go_must (refine wpList_app _ rfl _ _ 61 rfl W1.heap.size 5 (.int .u8 0) 1 Tryz.underlying61 Tryz.info_u8M rfl .u8 _ tl rfl HO4.out _ (enc x) rfl HR4.out (by decide) (by have := HXL.out; have := HEL.out; omega) HB4.out.size ?_))
      intro v5 w5 ho5 hg5
      rw [← HEN.out] at ho5
      have HO5 := Lib.hid ho5
      have HB5 : Hid (Below W1.heap.size W1 w5) := Lib.hid (HB4.out.grown hg5 HB4.out.size (fun j hj => (HO4.out.lt j hj).1))
      have HQ5 : Hid (w5.heap[w.heap.size + 2]? = some (.cells (vals .i64 [e1, e2, e3, e4]).toArray 3 (0, 0))) := Lib.hid (other_blk HO4.out hg5 HQ4.out HTE.out)
      clear ho5 hg5
      go_wp2
      go_roundw
      case rel => exact ⟨k + 1, HKL.out, by go_num, HO5.out, HB5.out, HQ5.out⟩
      case measure => have := HKL.out; simp [intOf]; omega
    obtain rfl : k = 4 := by omega
    have ho' : Owns wr W1.heap.size 5 .u8 _ (encs [e1, e2, e3, e4]) := ho
    obtain ⟨aot, capt, rfl, _, _, _⟩ := ho'.reads.val
    have HEL : Hid ((encs [e1, e2, e3, e4]).length ≤ 40) := Lib.hid (by have := encs_len (l := [e1, e2, e3, e4]) fun y hy => (HU.out y hy).1; simpa using this)
    have HOA := Lib.hid ho'
    have HDL : Hid (m.prev.length = 32) := Lib.hid HOK.out.prev.1
    have HPR := Lib.hid (HPV.out wr hb)
    obtain ⟨b4, hb4n⟩ : ∃ b, b = encs [e1, e2, e3, e4] := ⟨_, rfl⟩
    rw [← hb4n] at HOA HEL HHEAD ⊢
    clear hb4n ho' ho hb hq HO HQ
    obtain ⟨nb, hnb⟩ : ∃ k, k = b4.length := ⟨_, rfl⟩
    rw [← hnb] at HOA HEL ⊢
    have HNB := Lib.hid hnb
    clear hnb
    go_wp2_with (at_builtin; go_must (refine wpList_app _ rfl _ _ 61 rfl W1.heap.size 5 (.int .u8 0) 1 Tryz.underlying61 Tryz.info_u8M rfl .u8 _ b4 rfl HOA.out _ m.prev rfl HPR.out (by decide) (by have := HEL.out; have := HNB.out; have := HDL.out; omega) HB.out.size ?_))
    intro v5 w5 ho5 hg5
    rw [← HHEAD.out] at ho5
    have HO5 := Lib.hid ho5
    have HB5 : Hid (Below W1.heap.size W1 w5) := Lib.hid (HB.out.grown hg5 HB.out.size (fun j hj => (HOA.out.lt j hj).1))
    have HHL := Lib.hid (mhead_len HZ0.out HOK.out).1
    obtain ⟨ao5, cap5, rfl, _, _, _⟩ := ho5.reads.val
    have HRB := Lib.hid (refBytes_any n w5 (by have := HL.out; have := HN.out; unfold U64; omega))
    obtain ⟨_, _, x36⟩ := HX.out w5 HB5.out
    have hwn := HWN.out
    obtain ⟨n5, hn5⟩ : ∃ k, k = (mhead m).length := ⟨_, rfl⟩
    rw [← hn5] at HO5 HHL ⊢
    have HN5 := Lib.hid hn5
    clear ho5 hg5 hn5
    go_wp2_with fail
    refine HRB.out.mono ?_
    rintro e w6 ⟨v6, rfl, ho6, hb6⟩
    have HO6 := Lib.hid (HO5.out.below hb6 (Nat.le_refl _))
    have HR6 := Lib.hid ho6.reads
    have HB6 : Hid (Below W1.heap.size W1 w6) := Lib.hid (HB5.out.trans (hb6.mono HB5.out.size))
    have HXL : Hid ((enc n).length ≤ 10) := Lib.hid (enc_len10 (by have := HL.out; have := HN.out; unfold U64; omega))
    clear ho6 hb6 x36
    go_wp2_with (at_builtin; go_must (refine wpList_app _ rfl _ _ 61 rfl W1.heap.size 5 (.int .u8 0) 1 Tryz.underlying61 Tryz.info_u8M rfl .u8 _ (mhead m) rfl HO6.out _ (enc n) rfl HR6.out (by decide) (by have := HXL.out; have := HHL.out; have := HN5.out; omega) HB6.out.size ?_))
    intro v7 w7 ho7 hg7
    have HB7 : Hid (Below W1.heap.size W1 w7) := Lib.hid (HB6.out.grown hg7 HB6.out.size (fun j hj => (HO6.out.lt j hj).1))
    have HO7 : Hid (Owns w7 W1.heap.size 5 .u8 v7 (mhead m ++ encs [m.ps.length] ++ ((m.ps.take 0).map pttext).flatten)) := Lib.hid (by
      rw [HN.out] at ho7
      simpa [encs] using ho7)
    have HR7 := Lib.hid (HR.out.old HB7.out)
    have hn4 : (n : Int) ≤ 1024 := by have := HL.out; have := HN.out; omega
    clear ho7 hg7 hwn
    go_wp2
    go_loopw [3, 6, 7] (fun tv iv _ wr => ∃ k : Nat, k ≤ n ∧ iv = .int .i64 (k : Int) ∧ Owns wr W1.heap.size 5 .u8 tv (mhead m ++ encs [m.ps.length] ++ ((m.ps.take k).map pttext).flatten) ∧ Below W1.heap.size W1 wr)
      (fun _ iv _ _ => n - (intOf iv).toNat)
    case atStart => exact ⟨0, Nat.zero_le _, rfl, HO7.out, HB7.out⟩
    case round =>
      obtain ⟨k, hk, rfl, ho, hb⟩ := hrel
      have HB := Lib.hid hb
      have HO := Lib.hid ho
      obtain ⟨aot, capt, rfl, _, _, _⟩ := ho.reads.val
      have HLT := Lib.hid (mflat_le HZ0.out HOK.out k)
      obtain ⟨tl, htl⟩ : ∃ tl, tl = mhead m ++ encs [m.ps.length] ++ ((m.ps.take k).map pttext).flatten := ⟨_, rfl⟩
      rw [← htl] at ho HO HLT ⊢
      obtain ⟨nt, hnt⟩ : ∃ k, k = tl.length := ⟨_, rfl⟩
      rw [← hnt] at HO HLT ⊢
      have HNT := Lib.hid hnt
      have HTL := Lib.hid htl
      obtain ⟨_, _, x36⟩ := HX.out wr hb
      clear ho hnt htl
      by_cases hlt : k < n
      · have hltp : k < m.ps.length := by rw [← HN.out]; exact hlt
        obtain ⟨b, off, rfl, _, _, hdg, hcell⟩ := (HR.out.old hb).at hltp
        have HTK := Lib.hid (mflat_take hltp)
        have hpz := HPZ.out _ (getD_memP hltp)
        generalize m.ps.getD k (0, 0, 0, []) = p at hdg hcell HTK hpz
        have HLEN : Hid ((Tryz.prog.info? 73).map (·.size) = some (ptRow p).length) := Lib.hid (by rw [ptRow_len hdg]; exact Tryz.sizePTD)
        have HSZ : Hid ((Tryz.prog.info? 73).map (·.size) = some (ptRow p).toArray.size) := Lib.hid (by rw [ptRow_size hdg]; exact Tryz.sizePTD)
        have HCELL := Lib.hid hcell
        have HALL := Lib.hid (all_one (ptRow_one p))
        have HS35 := Lib.hid (ptRow_size hdg)
        have HDG := Lib.hid hdg
        obtain ⟨mn, hmn⟩ : ∃ j : Nat, p.2.1 = (j : Int) := ⟨p.2.1.toNat, by omega⟩
        obtain ⟨sn, hsn⟩ : ∃ j : Nat, p.2.2.1 = (j : Int) := ⟨p.2.2.1.toNat, by omega⟩
        rw [hmn, hsn] at HTK hpz
        have HTK2 : Hid (((m.ps.take (k + 1)).map pttext).flatten = ((m.ps.take k).map pttext).flatten ++ (enc mn ++ enc sn ++ p.2.2.2)) := Lib.hid (by rw [HTK.out]; simp only [Int.toNat_natCast]; simp [encs])
        have HWM : Hid (IntKind.u64.wrap (mn : Int) = (mn : Int)) := Lib.hid (by rw [IntKind.wrap_u64]; omega)
        have HWS : Hid (IntKind.u64.wrap (sn : Int) = (sn : Int)) := Lib.hid (by rw [IntKind.wrap_u64]; omega)
        have HUM : Hid (U64 mn ∧ U64 sn) := Lib.hid (by unfold U64; omega)
        have HE1 : Hid ((enc mn).length ≤ 10) := Lib.hid (enc_len10 HUM.out.1)
        have HE2 : Hid ((enc sn).length ≤ 10) := Lib.hid (enc_len10 HUM.out.2)
        have HMS2 := Lib.hid (And.intro hmn hsn)
        have hlti : (k : Int) < (n : Int) := by omega
        have HKL : Hid (k + 1 ≤ n) := Lib.hid hlt
        have HTE2 : Hid (73 ≠ 5) := Lib.hid (by decide)
        clear hb hdg hcell hltp hpz HTK hmn hsn
        go_wp2_with (first
          | ((with_reducible show wpList _ _ _ (Oper.mk (some 51) _ _ _ _ _ :: _) _ _); go_must (refine wpList_load_at rfl 73 (.tmp 50) rfl b (off + k * 35) rfl (ptRow p) _ HCELL.out Tryz.underlying73 rfl HLEN.out ?_))
          | ((with_reducible show wpList _ _ _ (Oper.mk none _ _ _ _ _ :: _) _ _); go_must (refine wpList_store_new rfl 73 (.tmp 7) (.tmp 51) rfl wr _ (ptRow p).toArray rfl rfl _ HSZ.out (by rw [HS35.out]; rfl) HALL.out ?_)))
        intro W2 hp2 hb2 hs2
        have hp2 : PB W2 wr.heap.size p 73 := hp2
        have HP2 := Lib.hid hp2
        have HB2 : Hid (Below W1.heap.size W1 W2) := Lib.hid (HB.out.trans (hb2.mono HB.out.size))
        have HO2 := Lib.hid (HO.out.below hb2 (Nat.le_refl _))
        have HRB1 := Lib.hid (refBytes_any mn W2 HUM.out.1)
        obtain ⟨_, y1, _⟩ := hp2.x
        rw [HMS2.out.1] at y1
        have hwm := HWM.out
        clear hp2 hb2 hs2 x36
        go_wp2_with fail
        refine HRB1.out.mono ?_
        rintro e w4 ⟨v4, rfl, ho4, hb4⟩
        have HO4 := Lib.hid (HO2.out.below hb4 (Nat.le_refl _))
        have HR4 := Lib.hid ho4.reads
        have HP4 := Lib.hid (HP2.out.old hb4)
        have HB4 : Hid (Below W1.heap.size W1 w4) := Lib.hid (HB2.out.trans (hb4.mono HB2.out.size))
        clear ho4 hb4 y1 hwm
        go_wp2_with (at_builtin; go_must (refine wpList_app _ rfl _ _ 61 rfl W1.heap.size 5 (.int .u8 0) 1 Tryz.underlying61 Tryz.info_u8M rfl .u8 _ tl rfl HO4.out _ (enc mn) rfl HR4.out (by decide) (by have := HE1.out; have := HLT.out.1; have := HNT.out; omega) HB4.out.size ?_))
        intro v5 w5 ho5 hg5
        have HB5 : Hid (Below W1.heap.size W1 w5) := Lib.hid (HB4.out.grown hg5 HB4.out.size (fun j hj => (HO4.out.lt j hj).1))
        have HP5 : Hid (PB w5 wr.heap.size p 73) := Lib.hid (other_blk HO4.out hg5 HP4.out HTE2.out)
        have HO5 := Lib.hid ho5
        have HRB2 := Lib.hid (refBytes_any sn w5 HUM.out.2)
        obtain ⟨ao5, cp5, rfl, _, _, _⟩ := ho5.reads.val
        obtain ⟨_, _, y2⟩ := HP5.out.x
        rw [HMS2.out.2] at y2
        have hws := HWS.out
        obtain ⟨n5, hn5⟩ : ∃ k, k = (tl ++ enc mn).length := ⟨_, rfl⟩
        rw [← hn5] at HO5 ⊢
        have HN5 : Hid (n5 ≤ 60010) := Lib.hid (by rw [hn5, List.length_append]; have := HE1.out; have := HLT.out.1; have := HNT.out; omega)
        have HN5E := Lib.hid hn5
        clear ho5 hg5 hn5
        go_wp2_with fail
        refine HRB2.out.mono ?_
        rintro e w6 ⟨v6, rfl, ho6, hb6⟩
        have HO6 := Lib.hid (HO5.out.below hb6 (Nat.le_refl _))
        have HR6 := Lib.hid ho6.reads
        have HP6 := Lib.hid (HP5.out.old hb6)
        have HB6 : Hid (Below W1.heap.size W1 w6) := Lib.hid (HB5.out.trans (hb6.mono HB5.out.size))
        clear ho6 hb6 y2 hws
        go_wp2_with (at_builtin; go_must (refine wpList_app _ rfl _ _ 61 rfl W1.heap.size 5 (.int .u8 0) 1 Tryz.underlying61 Tryz.info_u8M rfl .u8 _ (tl ++ enc mn) rfl HO6.out _ (enc sn) rfl HR6.out (by decide) (by have := HE2.out; have := HN5.out; have := HN5E.out; omega) HB6.out.size ?_))
        intro v7 w7 ho7 hg7
        have HB7 : Hid (Below W1.heap.size W1 w7) := Lib.hid (HB6.out.grown hg7 HB6.out.size (fun j hj => (HO6.out.lt j hj).1))
        have HP7 : Hid (PB w7 wr.heap.size p 73) := Lib.hid (other_blk HO6.out hg7 HP6.out HTE2.out)
        have HO7 := Lib.hid ho7
        have HQ7 : Hid (Reads w7 .u8 (.slice (some ⟨wr.heap.size, 3, none⟩) 32 32) p.2.2.2) := Lib.hid (reads_dig HDG.out HP7.out.lt HP7.out.sum)
        obtain ⟨ao7, cp7, rfl, _, _, _⟩ := ho7.reads.val
        obtain ⟨n7, hn7⟩ : ∃ k, k = (tl ++ (enc mn ++ enc sn)).length := ⟨_, rfl⟩
        rw [← hn7] at HO7 ⊢
        have HN7 : Hid (n7 ≤ 60020) := Lib.hid (by rw [hn7, List.length_append, List.length_append]; have := HE2.out; have := HE1.out; have := HLT.out.1; have := HNT.out; omega)
        have HN7E := Lib.hid hn7
        clear ho7 hg7 hn7
        go_wp2_with (at_builtin; go_must (refine wpList_app _ rfl _ _ 61 rfl W1.heap.size 5 (.int .u8 0) 1 Tryz.underlying61 Tryz.info_u8M rfl .u8 _ (tl ++ (enc mn ++ enc sn)) rfl HO7.out _ p.2.2.2 rfl HQ7.out (by decide) (by have := HN7.out; have := HN7E.out; have := HDG.out.1; omega) HB7.out.size ?_))
        intro v8 w8 ho8 hg8
        have HB8 : Hid (Below W1.heap.size W1 w8) := Lib.hid (HB7.out.grown hg8 HB7.out.size (fun j hj => (HO7.out.lt j hj).1))
        have HO8 : Hid (Owns w8 W1.heap.size 5 .u8 v8 (mhead m ++ encs [m.ps.length] ++ ((m.ps.take (k + 1)).map pttext).flatten)) := Lib.hid (by
          rw [HTK2.out, ← List.append_assoc, ← HTL.out]
          simpa using ho8)
        clear ho8 hg8
        go_wp2
        go_roundw
        case rel => exact ⟨k + 1, HKL.out, by go_num, HO8.out, HB8.out⟩
        case measure => have := HKL.out; simp [intOf]; omega
      · obtain rfl : k = n := by omega
        have HPT : Hid (mtext m = tl) := Lib.hid (by rw [HTL.out, HN.out, List.take_length]; rfl)
        have hpg := refFrame_any _ tl wr HO.out.reads HLT.out.2 (by have := HLT.out.1; have := HNT.out; omega)
        have HPG := Lib.hid hpg
        clear hb hpg
        go_wp2_with fail
        refine HPG.out.mono ?_
        rintro e w9 ⟨v9, rfl, ho9, hb9⟩
        have HO9 : Hid (Owns w9 w.heap.size 5 .u8 v9 (fr (mtext m))) := Lib.hid (by rw [HPT.out]; exact ho9.mono (Nat.le_trans HB1.out.size HB.out.size))
        have HB9 : Hid (Below w.heap.size w w9) := Lib.hid ((HB1.out.trans (HB.out.mono HB1.out.size)).trans (hb9.mono (Nat.le_trans HB1.out.size HB.out.size)))
        clear ho9 hb9 x36
        go_wp2
        go_ret
        exact ⟨_, rfl, HO9.out, HB9.out⟩

end Go.Proofs.YtgnalcobcdgnkaaGreatDoor

namespace Go.Proofs.YtgnalcobcdgnkaaGreatDoor
open Go.RowKit

theorem fold_put37 {row : List Value} (h : row.length = 37) : List.foldl (fun (cs : Array Value) (x : Value × Nat) => cs.setIfInBounds x.2 x.1) #[.int .i64 0, .int .i64 0, .int .i64 0, .int .i64 0, .int .u8 0, .int .u8 0, .int .u8 0, .int .u8 0, .int .u8 0, .int .u8 0, .int .u8 0, .int .u8 0, .int .u8 0, .int .u8 0, .int .u8 0, .int .u8 0, .int .u8 0, .int .u8 0, .int .u8 0, .int .u8 0, .int .u8 0, .int .u8 0, .int .u8 0, .int .u8 0, .int .u8 0, .int .u8 0, .int .u8 0, .int .u8 0, .int .u8 0, .int .u8 0, .int .u8 0, .int .u8 0, .int .u8 0, .int .u8 0, .int .u8 0, .int .u8 0, .slice none 0 0] row.zipIdx = row.toArray := fold_put (by rw [h]; rfl)
/-- One manifest in a block of its own, as a slice. -/
theorem ms_one {w : World} {m : MF} {v : Value} {B : Nat → Prop} (T : TypeId) (hp : PsAt w B v m.ps) (hd : Dg m.prev) : MsAt (w.alloc (.cells (mfRow m v).toArray T)) (fun _ => True) (.slice (some ⟨w.heap.size, 0, none⟩) 1 1) [(m, v)] := by
  refine ⟨⟨_, 1, rfl, Nat.le_refl _, by simp [maxLen], by simp, .inr ⟨w.heap.size, 0, rfl, by simp, trivial, fun i r hr j u hu => ?_⟩⟩, fun r hr => ?_⟩
  · cases i with
    | zero =>
      obtain rfl : mvRow (m, v) = r := by simpa using hr
      have := rec_cell w (mvRow (m, v)) T j u hu
      rw [Addr.add_lit] at this
      rw [show 0 + 0 * 37 + j = 0 + j by omega]
      exact this
    | succ i => simp at hr
  · obtain rfl := List.mem_singleton.1 hr
    exact ⟨(hp.old ((Below.refl _ _).alloc (Nat.le_refl _) _)).mono fun _ _ _ => trivial, hd⟩
theorem alive_ch : nextC [] 0 5 1 [] = 0 ∧ nextM [] 5 1 [] = ⟨0, 5, 5, 1, zero32, []⟩ := ⟨by decide +kernel, rfl⟩
theorem alive_c0 {n c : Nat} (h : CChk [] n c) : c = 0 := (h.unique (cchk_of (l := []) (by simp))).2
theorem alive_c1 {n c : Nat} (h : CChk [⟨0, 5, 5, 1, zero32, []⟩] n c) : n = 1 ∧ c = 0 := by
  have h0 := nextC_zero alive_ch.1
  rw [alive_ch.2] at h0
  exact h.unique (cchk_grow (l := []) (cchk_of (l := []) (by simp)) h0.2.1 h0.2.2)

set_option maxHeartbeats 4000000 in
set_option maxRecDepth 100000 in
theorem alive16_any (w : World) (hld : Laid w) : Calls Tryz.prog 4 #[] w fun e w' => e = .returned (.bool true) ∧ Below w.heap.size w w' := by
  have HNX := Lib.hid (cnext_any (.slice none 0 0) [] 5 1 (.slice none 0 0) [] w (fun _ => True) (fun _ => True) (ms_nil _ _) (ps_nil _ _) hld)
  have HLD := Lib.hid hld
  clear hld
  go_enter Tryz.func4, Tryz.ntmps4
  go_wp2_with fail
  refine HNX.out.mono ?_
  rintro e w2 ⟨hb2, n, c0, hcc, h2⟩
  have hc0 := alive_c0 hcc
  subst hc0
  rcases h2 with ⟨_, v', rfl, hps⟩ | ⟨hne, _⟩
  rotate_left
  · exact absurd alive_ch.1 hne
  rw [show nextM (msOf []) 5 1 [] = ⟨0, 5, 5, 1, zero32, []⟩ from alive_ch.2]
  obtain ⟨m, hm⟩ : ∃ m : MF, m = ⟨0, 5, 5, 1, zero32, []⟩ := ⟨_, rfl⟩
  have hmd : Dg m.prev := by rw [hm]; exact dg_zero
  have hmp : m.ps = [] := by rw [hm]
  rw [← hm]
  obtain ⟨o', c', rfl, _, _, _⟩ := hps.val
  have HM := Lib.hid hm
  have HMD := Lib.hid hmd
  have HB2 := Lib.hid hb2
  have HPS := Lib.hid hps
  obtain ⟨R, hR⟩ : ∃ R, R = mfRow m (.slice o' ([] : List PT).length c') := ⟨_, rfl⟩
  rw [← hR]
  have hr37 : R.length = 37 := by rw [hR, mfRow_len _ hmd]
  have HMS : Hid ((Tryz.prog.info? 43).map (·.size) = some R.toArray.size) := Lib.hid (by rw [List.size_toArray, hr37]; exact Tryz.sizeMF)
  have HSS : Hid (R.toArray.size = 37) := Lib.hid (by rw [List.size_toArray, hr37])
  have HON : Hid (R.toArray.all (·.oneCell') = true) := Lib.hid (by rw [hR]; exact all_one (mfRow_one _ rfl))
  have HRE := Lib.hid hR
  have HFP := Lib.hid (fold_put37 hr37)
  have HMP := Lib.hid hmp
  clear hcc hb2 hps hm hmd hR hmp
  go_wp2_with ((with_reducible show wpList _ _ _ (Oper.mk none _ _ _ _ _ :: _) _ _); go_must (refine wpList_store_new rfl 43 (.tmp 1) (.tmp 7) rfl w2 _ R.toArray rfl rfl _ HMS.out (by rw [HSS.out]; rfl) HON.out ?_))
  intro W3 hq3 hb3 hs3
  have HQ3 := Lib.hid hq3
  have HB3 := Lib.hid (HB2.out.trans (hb3.mono HB2.out.size))
  have HS3 := Lib.hid hs3
  obtain ⟨W4, hW4⟩ : ∃ W, W = W3.alloc (.cells R.toArray 43) := ⟨_, rfl⟩
  have hb4 : Below W3.heap.size W3 W4 := by rw [hW4]; exact (Below.refl _ _).alloc (Nat.le_refl _) _
  have hms : MsAt W4 (fun _ => True) (.slice (some ⟨W3.heap.size, 0, none⟩) 1 1) [(m, .slice o' ([] : List PT).length c')] := by
    rw [hW4, HRE.out]
    exact ms_one _ (by rw [HMP.out]; exact HPS.out.old hb3) HMD.out
  have HCK := Lib.hid (ccheck_any _ _ W4 _ hms ((HLD.out.next HB3.out).next hb4))
  have HB4 := Lib.hid (HB3.out.trans (hb4.mono HB3.out.size))
  have HQ4 := Lib.hid ((hb4.block _ (by omega)).trans hq3)
  have HS4 : Hid (w2.heap.size < W4.heap.size) := Lib.hid (by have := hb4.size; omega)
  have HW4 := Lib.hid hW4
  clear hq3 hb3 hs3 hb4 hms hW4
  go_wp2_with (first
    | ((with_reducible show wpList _ _ _ (Oper.mk (some 10) _ _ _ _ _ :: _) _ _); go_must (refine wpList_load_row rfl 43 (.tmp 1) rfl w2.heap.size rfl _ R.toArray _ _ HQ3.out Tryz.underlying43 rfl HMS.out ?_))
    | (go_at_call 7; rw [HFP.out, ← HW4.out]; go_must (refine HCK.out.mono ?_)))
  rintro e w5 ⟨n1, c1, hcc, rfl, hb5⟩
  have hms1 : msOf [(m, Value.slice o' ([] : List PT).length c')] = [⟨0, 5, 5, 1, zero32, []⟩] := by rw [← HM.out]; rfl
  rw [hms1] at hcc
  obtain ⟨rfl, rfl⟩ := alive_c1 hcc
  rw [errV_zero]
  have HB5 := Lib.hid (HB4.out.trans (hb5.mono HB4.out.size))
  have hq5 : MB w5 w2.heap.size m (.slice o' ([] : List PT).length c') 43 := by
    have := (hb5.block _ HS4.out).trans HQ4.out
    rw [HRE.out] at this
    exact this
  obtain ⟨_, x1, x2, x3, _⟩ := hq5.x HMD.out
  rw [HM.out] at x1 x2 x3
  simp only at x1 x2 x3
  clear hcc hb5 hq5 hms1 hr37
  go_wp2
  go_ret
  exact ⟨rfl, HB5.out⟩

/-- What Long answers. -/
def LongP (l : List MF) (z : Bool) : Prop := z = false → l.length ≤ 12 ∧ ∀ m ∈ l, m.ps.length ≤ 12
def LongPost (l : List MF) (w : World) (e : Ending) (w' : World) : Prop := ∃ z, LongP l z ∧ e = .returned (.bool z) ∧ Below w.heap.size w w'
set_option maxHeartbeats 4000000 in
set_option maxRecDepth 100000 in
theorem long16_any (v : Value) (rs : List MV) (w : World) (B : Nat → Prop) (h : MsAt w B v rs) :
    Calls Tryz.prog 5 #[v] w (LongPost (msOf rs) w) := by
  obtain ⟨ao, cap, rfl, l1, m1, _⟩ := h.val
  obtain ⟨n, hn⟩ : ∃ n, n = rs.length := ⟨_, rfl⟩
  rw [← hn] at h ⊢
  have HR := Lib.hid h
  have HN := Lib.hid hn
  have hnm : (n : Int) ≤ 9223372036854775807 := by unfold maxLen at m1; omega
  clear h hn l1 m1
  go_enter Tryz.func5, Tryz.ntmps5
  go_wp2
  go_loopw [4, 7] (fun _ iv wr => ∃ k : Nat, k ≤ n ∧ iv = .int .i64 (k : Int) ∧ (∀ j, j < k → (mvd rs j).1.ps.length ≤ 12) ∧ Below w.heap.size w wr)
    (fun _ iv _ => n - (intOf iv).toNat)
  case atStart => exact ⟨0, Nat.zero_le _, rfl, fun j hj => absurd hj (Nat.not_lt_zero j), Below.refl _ _⟩
  case round =>
    obtain ⟨k, hk, rfl, hno, hb⟩ := hrel
    have HB := Lib.hid hb
    have HNO := Lib.hid hno
    by_cases hlt : k < n
    rotate_left
    · obtain rfl : k = n := by omega
      clear hb hno
      by_cases hg : (k : Int) > 12
      · go_wp2
        go_ret
        exact ⟨true, fun h => (by cases h), by simp, HB.out⟩
      · have HK : Hid (k ≤ 12) := Lib.hid (by omega)
        go_wp2
        go_ret
        refine ⟨false, fun _ => ⟨by rw [msOf_length, ← HN.out]; exact HK.out, fun m hm => ?_⟩, by simp, HB.out⟩
        obtain ⟨r, hr, rfl⟩ := List.mem_map.1 hm
        obtain ⟨i, hi, rfl⟩ := List.getElem_of_mem hr
        have := HNO.out i (by rw [HN.out]; exact hi)
        rwa [show mvd rs i = rs[i] by unfold mvd; simp [List.getD, hi]] at this
    have hltr : k < rs.length := by rw [← HN.out]; exact hlt
    have hrr := HR.out.old hb
    obtain ⟨b, off, rfl, _, _, hcell⟩ := hrr.at hltr
    have HCELL := Lib.hid hcell
    have hdg : Dg (mvd rs k).1.prev := hrr.dg k
    have HDG := Lib.hid hdg
    obtain ⟨op, cp, hpv, _, hpm, _⟩ := (hrr.ps k).val
    obtain ⟨np, hnp⟩ : ∃ j, j = (mvd rs k).1.ps.length := ⟨_, rfl⟩
    rw [← hnp] at hpv
    have HNP := Lib.hid hnp
    have HPV := Lib.hid hpv
    have HON := Lib.hid (hrr.one k)
    have HMS : Hid ((Tryz.prog.info? 43).map (·.size) = some (mvRow (mvd rs k)).toArray.size) := Lib.hid (by rw [mvRow_size hdg]; exact Tryz.sizeMF)
    have HML : Hid ((Tryz.prog.info? 43).map (·.size) = some (mvRow (mvd rs k)).length) := Lib.hid (by rw [mvRow_len hdg]; exact Tryz.sizeMF)
    have HSS : Hid ((mvRow (mvd rs k)).toArray.size = 37) := Lib.hid (mvRow_size hdg)
    have hlti : (k : Int) < (n : Int) := by omega
    have HKL : Hid (k + 1 ≤ n) := Lib.hid hlt
    clear hb hno hltr hrr hcell hdg hpv hnp hpm
    go_wp2_with (first
      | ((with_reducible show wpList _ _ _ (Oper.mk (some 10) _ _ _ _ _ :: _) _ _); go_must (refine wpList_load_at rfl 43 (.tmp 9) rfl b (off + k * 37) rfl (mvRow (mvd rs k)) _ HCELL.out Tryz.underlying43 rfl HML.out ?_))
      | ((with_reducible show wpList _ _ _ (Oper.mk none _ _ _ _ _ :: _) _ _); go_must (refine wpList_store_new rfl 43 (.tmp 4) (.tmp 10) rfl wr _ (mvRow (mvd rs k)).toArray rfl rfl _ HMS.out (by rw [HSS.out]; rfl) HON.out ?_)))
    intro W2 hq2 hb2 hs2
    have hq2 : MB W2 wr.heap.size (mvd rs k).1 (mvd rs k).2 43 := hq2
    obtain ⟨_, _, _, _, x36⟩ := hq2.x HDG.out
    rw [HPV.out] at x36
    have HB2 := Lib.hid (HB.out.trans (hb2.mono HB.out.size))
    clear hq2 hb2 hs2
    by_cases hg : (np : Int) > 12
    · go_wp2
      go_ret
      exact ⟨true, fun h => (by cases h), rfl, HB2.out⟩
    · have HNX : Hid (∀ j, j < k + 1 → (mvd rs j).1.ps.length ≤ 12) := Lib.hid fun j hj => by
        by_cases hjk : j < k
        · exact HNO.out j hjk
        · obtain rfl : j = k := by omega
          rw [← HNP.out]; omega
      go_wp2
      go_roundw
      case rel => exact ⟨k + 1, HKL.out, by go_num, HNX.out, HB2.out⟩
      case measure => have := HKL.out; simp [intOf]; omega

end Go.Proofs.YtgnalcobcdgnkaaGreatDoor
