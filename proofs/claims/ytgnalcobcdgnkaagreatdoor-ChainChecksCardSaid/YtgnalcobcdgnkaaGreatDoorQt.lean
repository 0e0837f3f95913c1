/- Package manifest: Put. -/
import Derived.Test.YtgnalcobcdgnkaaGreatDoorQe
import Derived.Test.YtgnalcobcdgnkaaGreatDoorQa
import Derived.Test.YtgnalcobcdgnkaaGreatDoorFbP
namespace Go.Proofs.YtgnalcobcdgnkaaGreatDoor
open Go.RowKit

/-- What Put answers. -/
def MPutPost (m : MF) (w : World) (e : Ending) (w' : World) : Prop :=
  Below w.heap.size w w' ∧ ((mchk m = 0 ∧ ∃ v', e = .returned (.tuple #[v', .nilIface]) ∧ Owns w' w.heap.size 5 .u8 v' (fr (mtext m))) ∨
    (mchk m ≠ 0 ∧ e = .returned (.tuple #[.slice none 0 0, errV (mchk m)])))
theorem reads_litM (w : World) (e : TypeId) (k : IntKind) (l : List Nat) (cs : Array Value) (fr : Nat × Nat) (hc : cs.toList = vals k l) (hm : l.length ≤ maxLen) :
    Reads (w.alloc (.cells cs e fr)) k (.slice (some ⟨w.heap.size, 0, none⟩) l.length l.length) l :=
  ⟨_, _, rfl, Nat.le_refl _, hm, by simp, .inr ⟨w.heap.size, 0, rfl, by simp, fun i hi => by
    rw [Nat.zero_add, World.cell?_alloc_mark, ← Array.getElem?_toList, hc, vals_get k l i hi]⟩⟩
/-- A digest within a box, as a slice. -/
theorem reads_dig {w : World} {q o : Nat} {l : List Nat} (hd : Dg l) (hq : q < w.heap.size) (h : ∀ j u, (vals .u8 l)[j]? = some u → w.cell? ⟨q, o + j, none⟩ = some u) : Reads w .u8 (.slice (some ⟨q, o, none⟩) 32 32) l :=
  ⟨_, 32, by rw [hd.1], by rw [hd.1]; exact Nat.le_refl _, by simp [maxLen], by simp, .inr ⟨q, o, rfl, hq, fun i hi => h i _ (vals_get .u8 l i hi)⟩⟩
theorem own_blk {w : World} {base : Nat} {e : TypeId} {k : IntKind} {v : Value} {l : List Nat} (h : Owns w base e k v l) {j : Nat} (hj : v.ownBlock = some j) : ∃ cs, w.heap[j]? = some (.cells cs e (0, 0)) := by
  rcases h.2 with ⟨rfl, _⟩ | ⟨g, cap, cur, rfl, hb, hg, _⟩
  · cases hj
  · cases hj; exact ⟨_, hg⟩
theorem Tryz.info_u8M : (Tryz.prog.info? 5).map (fun i => (i.zero, i.size, i.bytes)) = some (some (.int .u8 0), 1, 1) := by kernel_rfl
theorem mflat_le {m : MF} (h : mchk m = 0) (hm : MOk m) (k : Nat) : (mhead m ++ encs [m.ps.length] ++ ((m.ps.take k).map pttext).flatten).length ≤ 60000 ∧ ∀ y ∈ mhead m ++ encs [m.ps.length] ++ ((m.ps.take k).map pttext).flatten, y < 256 := by
  obtain ⟨_, _, _, hl, hp⟩ := mchk_zero h
  obtain ⟨a1, a2⟩ := mhead_len h hm
  obtain ⟨b1, b2⟩ := mlen_len hl
  obtain ⟨c1, c2⟩ := ptflat_len (ps := m.ps.take k) fun p hq => ⟨parts_zero hp p (List.mem_of_mem_take hq), hm.ps p (List.mem_of_mem_take hq)⟩
  rw [List.length_take] at c1
  exact ⟨by rw [List.length_append, List.length_append]; omega, app_byte (app_byte a2 b2) c2⟩
theorem mflat_take {ps : List PT} {k : Nat} (h : k < ps.length) : ((ps.take (k + 1)).map pttext).flatten = ((ps.take k).map pttext).flatten ++ (encs [(ps.getD k (0, 0, 0, [])).2.1.toNat, (ps.getD k (0, 0, 0, [])).2.2.1.toNat] ++ (ps.getD k (0, 0, 0, [])).2.2.2) := by
  rw [take_snocP h]
  simp [pttext]

set_option maxHeartbeats 8000000 in
set_option maxRecDepth 100000 in
theorem mput_any (m : MF) (v : Value) (w : World) (B : Nat → Prop) (h : PsAt w B v m.ps) (hd : Dg m.prev) :
    Calls Tryz.prog 30 #[.agg (mfRow m v).toArray] w (MPutPost m w) := by
  obtain ⟨ao, cap, rfl, l1, m1, _⟩ := h.val
  obtain ⟨n, hn⟩ : ∃ n, n = m.ps.length := ⟨_, rfl⟩
  rw [← hn] at h ⊢
  obtain ⟨W1, hW1⟩ : ∃ W1, W1 = w.alloc (.cells (mfRow m (.slice ao n cap)).toArray 43) := ⟨_, rfl⟩
  have hb1 : Below w.heap.size w W1 := by rw [hW1]; exact (Below.refl _ _).alloc (Nat.le_refl _) _
  have hx1 : MB W1 w.heap.size m (.slice ao n cap) 43 := by rw [hW1]; exact mb_new _ _ _ _
  have HX1 := Lib.hid hx1
  have HB1 := Lib.hid hb1
  have HR := Lib.hid (h.old hb1)
  have HOK : Hid (MOk m) := Lib.hid ⟨hd, h.2⟩
  have HN := Lib.hid hn
  have HC := Lib.hid (mcheck_any m _ W1 B (h.old hb1) hd)
  have HMS : Hid ((Tryz.prog.info? 43).map (·.size) = some (mfRow m (.slice ao n cap)).toArray.size) := Lib.hid (by rw [mfRow_size hd]; exact Tryz.sizeMF)
  obtain ⟨A, hA⟩ : ∃ A, A = (mfRow m (.slice ao n cap)).toArray := ⟨_, rfl⟩
  rw [← hA] at hW1 HC HMS ⊢
  have HXA : Hid (W1.heap[w.heap.size]? = some (.cells A 43 (0, 0))) := Lib.hid (by rw [hA]; exact hx1)
  have HW1 := Lib.hid hW1
  obtain ⟨z, hz⟩ : ∃ z, z = mchk m := ⟨_, rfl⟩
  rw [← hz] at HC
  have HZ := Lib.hid hz
  clear hA hb1 hx1 h l1 m1 hd hW1 hn hz
  by_cases g1 : z = 0
  rotate_left
  · have HG := Lib.hid g1
    have HE : Hid (errV z = .iface 58 (.int .i64 (z : Int))) := Lib.hid (errV_pos g1)
    rw [HE.out] at HC
    clear g1
    go_enter Tryz.func30, Tryz.ntmps30
    go_wp2_with ((with_reducible show wpList _ _ _ (Oper.mk (some 8) _ _ _ _ _ :: _) _ _); rw [← HW1.out]; go_must (refine wpList_load_row rfl 43 (.tmp 1) rfl w.heap.size rfl _ A _ _ HXA.out Tryz.underlying43 rfl HMS.out ?_))
    refine HC.out.mono ?_
    rintro e w2 ⟨rfl, hb2⟩
    have HB2 : Hid (Below w.heap.size w w2) := Lib.hid (HB1.out.trans (hb2.mono HB1.out.size))
    clear hb2
    go_wp2
    go_ret2
    exact ⟨HB2.out, .inr ⟨by rw [← HZ.out]; exact HG.out, by rw [← HZ.out, HE.out]; rfl⟩⟩
  have HZ0 : Hid (mchk m = 0) := Lib.hid (by rw [← HZ.out, g1])
  rw [g1, errV_zero] at HC
  clear g1 HZ
  obtain ⟨⟨h1, h2, h3, h4⟩, _, _, hl, hp⟩ := mchk_zero HZ0.out
  have HPZ := Lib.hid (parts_zero hp)
  have HL := Lib.hid hl
  obtain ⟨e1, q1⟩ : ∃ k : Nat, m.num = (k : Int) := ⟨m.num.toNat, by omega⟩
  obtain ⟨e2, q2⟩ : ∃ k : Nat, m.fro = (k : Int) := ⟨m.fro.toNat, by omega⟩
  obtain ⟨e3, q3⟩ : ∃ k : Nat, m.upto = (k : Int) := ⟨m.upto.toNat, by omega⟩
  obtain ⟨e4, q4⟩ : ∃ k : Nat, m.trim = (k : Int) := ⟨m.trim.toNat, by omega⟩
  rw [q1] at h1
  rw [q2] at h2
  rw [q3] at h3
  rw [q4] at h4
  have w1 : IntKind.u64.wrap (e1 : Int) = (e1 : Int) := by rw [IntKind.wrap_u64]; omega
  have w2 : IntKind.u64.wrap (e2 : Int) = (e2 : Int) := by rw [IntKind.wrap_u64]; omega
  have w3 : IntKind.u64.wrap (e3 : Int) = (e3 : Int) := by rw [IntKind.wrap_u64]; omega
  have w4 : IntKind.u64.wrap (e4 : Int) = (e4 : Int) := by rw [IntKind.wrap_u64]; omega
  have w5 : IntKind.u64.wrap (n : Int) = (n : Int) := by have := HN.out; rw [IntKind.wrap_u64]; omega
  have HU : Hid (∀ x ∈ [e1, e2, e3, e4], U64 x) := Lib.hid (by
    intro x hx
    simp only [List.mem_cons, List.not_mem_nil, or_false] at hx
    unfold U64
    rcases hx with rfl | rfl | rfl | rfl <;> omega)
  have HHEAD : Hid (mhead m = encs [e1, e2, e3, e4] ++ m.prev) := Lib.hid (by unfold mhead; rw [q1, q2, q3, q4]; simp only [Int.toNat_natCast])
  have HX : Hid (∀ W, Below W1.heap.size W1 W → (W.cell? ⟨w.heap.size, 0, none⟩ = some (.int .i64 (e1 : Int)) ∧ W.cell? ⟨w.heap.size, 1, none⟩ = some (.int .i64 (e2 : Int))) ∧ (W.cell? ⟨w.heap.size, 2, none⟩ = some (.int .i64 (e3 : Int)) ∧ W.cell? ⟨w.heap.size, 3, none⟩ = some (.int .i64 (e4 : Int))) ∧ W.cell? ⟨w.heap.size, 36, none⟩ = some (.slice ao n cap)) := Lib.hid fun W hb => by
    obtain ⟨a, b, c, d, e⟩ := (HX1.out.old hb).x HOK.out.prev
    rw [q1] at a
    rw [q2] at b
    rw [q3] at c
    rw [q4] at d
    exact ⟨⟨a, b⟩, ⟨c, d⟩, e⟩
  have HPV : Hid (∀ W, Below W1.heap.size W1 W → Reads W .u8 (.slice (some ⟨w.heap.size, 4, none⟩) 32 32) m.prev) := Lib.hid fun W hb => reads_dig HOK.out.prev (HX1.out.old hb).lt (HX1.out.old hb).prev
  clear h1 h2 h3 h4 hl hp q1 q2 q3 q4
  go_enter Tryz.func30, Tryz.ntmps30
  go_wp2_with ((with_reducible show wpList _ _ _ (Oper.mk (some 8) _ _ _ _ _ :: _) _ _); rw [← HW1.out]; go_must (refine wpList_load_row rfl 43 (.tmp 1) rfl w.heap.size rfl _ A _ _ HXA.out Tryz.underlying43 rfl HMS.out ?_))
  refine HC.out.mono ?_
  rintro e w2 ⟨rfl, hb2⟩
  obtain ⟨⟨x0, x1⟩, ⟨x2, x3⟩, x36⟩ := HX.out w2 hb2
  obtain ⟨W3, hW3⟩ : ∃ W, W = w2.alloc (.cells #[.int .u64 (e1 : Int), .int .u64 (e2 : Int), .int .u64 (e3 : Int), .int .u64 (e4 : Int)] 84) := ⟨_, rfl⟩
  have hb3 : Below w2.heap.size w2 W3 := by rw [hW3]; exact (Below.refl _ _).alloc (Nat.le_refl _) _
  have hr3 : Reads W3 .u64 (.slice (some ⟨w2.heap.size, 0, none⟩) 4 4) [e1, e2, e3, e4] := by rw [hW3]; exact reads_litM w2 84 .u64 [e1, e2, e3, e4] _ (0, 0) rfl (by simp [maxLen])
  have HPU := Lib.hid (put_any (.slice none 0 0) _ [] [e1, e2, e3, e4] W3 (owns_nil W3 0 5 .u8).reads hr3 HU.out (by simp))
  have HB3 : Hid (Below W1.heap.size W1 W3) := Lib.hid (hb2.trans (hb3.mono hb2.size))
  have HW3 := Lib.hid hW3
  clear hb2 hW3 hb3 hr3
  go_wp2_with fail
  rw [← HW3.out]
  clear x0 x1 x2 x3 x36
  refine HPU.out.mono ?_
  rintro e w4 ⟨v4, rfl, ho4, hb4⟩
  have hb4' : Below W1.heap.size W1 w4 := HB3.out.trans (hb4.mono HB3.out.size)
  have HO4 : Hid (Owns w4 W1.heap.size 5 .u8 v4 (encs [e1, e2, e3, e4])) := Lib.hid (ho4.mono HB3.out.size)
  have HPR4 := Lib.hid (HPV.out w4 hb4')
  have HB4 := Lib.hid hb4'
  have HE4 : Hid ((encs [e1, e2, e3, e4]).length ≤ 40) := Lib.hid (by have := encs_len HU.out; simpa using this)
  have HDL : Hid (m.prev.length = 32) := Lib.hid HOK.out.prev.1
  clear ho4 hb4 hb4'
  obtain ⟨b4, hb4n⟩ : ∃ b, b = encs [e1, e2, e3, e4] := ⟨_, rfl⟩
  rw [← hb4n] at HO4 HE4 HHEAD
  clear hb4n
  go_wp2_with (at_builtin; go_must (refine wpList_app _ rfl _ _ 61 rfl W1.heap.size 5 (.int .u8 0) 1 Tryz.underlying61 Tryz.info_u8M rfl .u8 _ b4 rfl HO4.out _ m.prev rfl HPR4.out (by decide) (by have := HE4.out; have := HDL.out; omega) HB4.out.size ?_))
  intro v5 w5' ho5 hg5
  have hb5 : Below W1.heap.size W1 w5' := HB4.out.grown hg5 HB4.out.size (fun j hj => (HO4.out.lt j hj).1)
  rw [← HHEAD.out] at ho5
  obtain ⟨⟨x0, x1⟩, ⟨x2, x3⟩, x36⟩ := HX.out w5' hb5
  obtain ⟨W6, hW6⟩ : ∃ W, W = w5'.alloc (.cells #[.int .u64 (n : Int)] 84) := ⟨_, rfl⟩
  have hb6 : Below w5'.heap.size w5' W6 := by rw [hW6]; exact (Below.refl _ _).alloc (Nat.le_refl _) _
  have hr6 : Reads W6 .u64 (.slice (some ⟨w5'.heap.size, 0, none⟩) 1 1) [n] := by rw [hW6]; exact reads_litM w5' 84 .u64 [n] _ (0, 0) rfl (by simp [maxLen])
  have HHL := Lib.hid (mhead_len HZ0.out HOK.out).1
  have HPU6 := Lib.hid (put_any v5 _ (mhead m) [n] W6 (ho5.below hb6 (Nat.le_refl _)).reads hr6 (by
    intro x hx
    rw [List.mem_singleton.1 hx]
    have := HL.out; have := HN.out
    unfold U64; omega) (by have := HHL.out; simp only [List.length_cons, List.length_nil]; omega))
  have HB6 : Hid (Below W1.heap.size W1 W6) := Lib.hid (hb5.trans (hb6.mono hb5.size))
  have HW6 := Lib.hid hW6
  obtain ⟨ao5, cap5, rfl, _, _, _⟩ := ho5.reads.val
  obtain ⟨n5, hn5⟩ : ∃ k, k = (mhead m).length := ⟨_, rfl⟩
  rw [← hn5] at HPU6 ⊢
  clear ho5 hg5 hb5 hW6 hb6 hr6 hn5
  go_wp2_with fail
  rw [← HW6.out]
  clear x0 x1 x2 x3 x36
  refine HPU6.out.mono ?_
  rintro e w7 ⟨v7, rfl, ho7, hb7⟩
  have hb7' : Below W1.heap.size W1 w7 := HB6.out.trans (hb7.mono HB6.out.size)
  have HO7 : Hid (Owns w7 W1.heap.size 5 .u8 v7 (mhead m ++ encs [m.ps.length] ++ ((m.ps.take 0).map pttext).flatten)) := Lib.hid (by
    rw [HN.out] at ho7
    simpa using ho7.mono HB6.out.size)
  have HB7 := Lib.hid hb7'
  have HR7 := Lib.hid (HR.out.old hb7')
  obtain ⟨⟨x0, x1⟩, ⟨x2, x3⟩, x36⟩ := HX.out w7 hb7'
  clear ho7 hb7 hb7'
  have hn4 : (n : Int) ≤ 1024 := by have := HL.out; have := HN.out; omega
  go_wp2
  clear x0 x1 x2 x3 x36
  go_loopw [5, 7, 41] (fun tv _ iv wr => ∃ k : Nat, k ≤ n ∧ iv = .int .i64 (k : Int) ∧ Owns wr W1.heap.size 5 .u8 tv (mhead m ++ encs [m.ps.length] ++ ((m.ps.take k).map pttext).flatten) ∧ Below W1.heap.size W1 wr)
    (fun _ _ iv _ => n - (intOf iv).toNat)
  case atStart => exact ⟨0, Nat.zero_le _, rfl, HO7.out, HB7.out⟩
  case round =>
    obtain ⟨k, hk, rfl, ho, hb⟩ := hrel
    have HB := Lib.hid hb
    have HO := Lib.hid ho
    obtain ⟨aot, capt, rfl, _, _, _⟩ := ho.reads.val
    have HLT := Lib.hid (mflat_le HZ0.out HOK.out k)
    obtain ⟨tl, htl⟩ : ∃ tl, tl = mhead m ++ encs [m.ps.length] ++ ((m.ps.take k).map pttext).flatten := ⟨_, rfl⟩
    rw [← htl] at ho HO HLT ⊢
    obtain ⟨nt, hnt⟩ : ∃ k, k = tl.length := ⟨_, rfl⟩
    rw [← hnt] at HO HLT ⊢
    have HNT := Lib.hid hnt
    have HTL := Lib.hid htl
    clear ho hnt htl
    by_cases hlt : k < n
    · have hltp : k < m.ps.length := by rw [← HN.out]; exact hlt
      obtain ⟨b, off, rfl, _, _, hdg, hcell⟩ := (HR.out.old hb).at hltp
      have HTK := Lib.hid (mflat_take hltp)
      have hpz := HPZ.out _ (getD_memP hltp)
      generalize m.ps.getD k (0, 0, 0, []) = p at hdg hcell HTK hpz
      have HLEN : Hid ((Tryz.prog.info? 67).map (·.size) = some (ptRow p).length) := Lib.hid (by rw [ptRow_len hdg]; exact Tryz.sizePT)
      have HSZ : Hid ((Tryz.prog.info? 67).map (·.size) = some (ptRow p).toArray.size) := Lib.hid (by rw [ptRow_size hdg]; exact Tryz.sizePT)
      have HCELL := Lib.hid hcell
      have HALL := Lib.hid (all_one (ptRow_one p))
      have HS35 := Lib.hid (ptRow_size hdg)
      have HDG := Lib.hid hdg
      obtain ⟨mn, hmn⟩ : ∃ j : Nat, p.2.1 = (j : Int) := ⟨p.2.1.toNat, by omega⟩
      obtain ⟨sn, hsn⟩ : ∃ j : Nat, p.2.2.1 = (j : Int) := ⟨p.2.2.1.toNat, by omega⟩
      rw [hmn, hsn] at HTK hpz
      have HTK2 : Hid (((m.ps.take (k + 1)).map pttext).flatten = ((m.ps.take k).map pttext).flatten ++ (encs [mn, sn] ++ p.2.2.2)) := Lib.hid (by rw [HTK.out]; simp only [Int.toNat_natCast])
      have wm : IntKind.u64.wrap (mn : Int) = (mn : Int) := by rw [IntKind.wrap_u64]; omega
      have ws : IntKind.u64.wrap (sn : Int) = (sn : Int) := by rw [IntKind.wrap_u64]; omega
      have HU2 : Hid (∀ x ∈ [mn, sn], U64 x) := Lib.hid (by
        intro x hx
        simp only [List.mem_cons, List.not_mem_nil, or_false] at hx
        unfold U64
        rcases hx with rfl | rfl <;> omega)
      have HMS2 := Lib.hid (And.intro hmn hsn)
      have hlti : (k : Int) < (n : Int) := by omega
      have HKL : Hid (k + 1 ≤ n) := Lib.hid hlt
      clear hb hdg hcell hltp hpz HTK hmn hsn
      go_wp2_with (first
        | ((with_reducible show wpList _ _ _ (Oper.mk (some 44) _ _ _ _ _ :: _) _ _); go_must (refine wpList_load_at rfl 67 (.tmp 43) rfl b (off + k * 35) rfl (ptRow p) _ HCELL.out Tryz.underlying67 rfl HLEN.out ?_))
        | ((with_reducible show wpList _ _ _ (Oper.mk none _ _ _ _ _ :: _) _ _); go_must (refine wpList_store_new rfl 67 (.tmp 7) (.tmp 44) rfl wr _ (ptRow p).toArray rfl rfl _ HSZ.out (by rw [HS35.out]; rfl) HALL.out ?_)))
      intro W2 hp2 hb2 hs2
      have hp2 : PB W2 wr.heap.size p 67 := hp2
      have HP2 := Lib.hid hp2
      have HB2 : Hid (Below W1.heap.size W1 W2) := Lib.hid (HB.out.trans (hb2.mono HB.out.size))
      have HO2 := Lib.hid (HO.out.below hb2 (Nat.le_refl _))
      obtain ⟨_, y1, y2⟩ := hp2.x
      rw [HMS2.out.1] at y1
      rw [HMS2.out.2] at y2
      obtain ⟨W3, hW3⟩ : ∃ W, W = W2.alloc (.cells #[.int .u64 (mn : Int), .int .u64 (sn : Int)] 84) := ⟨_, rfl⟩
      have hb3 : Below W2.heap.size W2 W3 := by rw [hW3]; exact (Below.refl _ _).alloc (Nat.le_refl _) _
      have hr3 : Reads W3 .u64 (.slice (some ⟨W2.heap.size, 0, none⟩) 2 2) [mn, sn] := by rw [hW3]; exact reads_litM W2 84 .u64 [mn, sn] _ (0, 0) rfl (by simp [maxLen])
      have HPU3 := Lib.hid (put_any (.slice none 0 0) _ [] [mn, sn] W3 (owns_nil W3 0 5 .u8).reads hr3 HU2.out (by simp))
      have HB3 : Hid (Below W1.heap.size W1 W3) := Lib.hid (HB2.out.trans (hb3.mono HB2.out.size))
      have HP3 := Lib.hid (hp2.old hb3)
      have HO3 := Lib.hid (HO2.out.below hb3 (Nat.le_refl _))
      have HW3 := Lib.hid hW3
      clear hp2 hb2 hs2 hW3 hb3 hr3
      go_wp2_with fail
      rw [← HW3.out]
      clear y1 y2
      refine HPU3.out.mono ?_
      rintro e w4 ⟨v4, rfl, ho4, hb4⟩
      have HO4 := Lib.hid (HO3.out.below hb4 (Nat.le_refl _))
      have HQ4 : Hid (Reads w4 .u8 v4 (encs [mn, sn])) := Lib.hid (by simpa using ho4.reads)
      have HP4 := Lib.hid (HP3.out.old hb4)
      have HB4 : Hid (Below W1.heap.size W1 w4) := Lib.hid (HB3.out.trans (hb4.mono HB3.out.size))
      have HE2 : Hid ((encs [mn, sn]).length ≤ 20) := Lib.hid (by have := encs_len HU2.out; simpa using this)
      clear ho4 hb4
      go_wp2_with (at_builtin; go_must (refine wpList_app _ rfl _ _ 61 rfl W1.heap.size 5 (.int .u8 0) 1 Tryz.underlying61 Tryz.info_u8M rfl .u8 _ tl rfl HO4.out _ (encs [mn, sn]) rfl HQ4.out (by decide) (by have := HE2.out; have := HLT.out.1; have := HNT.out; omega) HB4.out.size ?_))
      intro v5 w5' ho5 hg5
      have hb5 : Below W1.heap.size W1 w5' := HB4.out.grown hg5 HB4.out.size (fun j hj => (HO4.out.lt j hj).1)
      have HP5 : Hid (PB w5' wr.heap.size p 67) := Lib.hid (by
        refine (hg5.block _ HP4.out.lt ?_).trans HP4.out
        intro e
        obtain ⟨c2, h2⟩ := own_blk HO4.out e.symm
        have := h2.symm.trans HP4.out
        cases this)
      have HQ5 : Hid (Reads w5' .u8 (.slice (some ⟨wr.heap.size, 3, none⟩) 32 32) p.2.2.2) := Lib.hid (reads_dig HDG.out HP5.out.lt HP5.out.sum)
      have HB5 := Lib.hid hb5
      have HO5 := Lib.hid ho5
      clear ho5 hg5 hb5
      go_wp2_with (at_builtin; go_must (refine wpList_app _ rfl _ _ 61 rfl W1.heap.size 5 (.int .u8 0) 1 Tryz.underlying61 Tryz.info_u8M rfl .u8 _ (tl ++ encs [mn, sn]) rfl HO5.out _ p.2.2.2 rfl HQ5.out (by decide) (by have := HE2.out; have := HLT.out.1; have := HNT.out; have := HDG.out.1; rw [List.length_append]; omega) HB5.out.size ?_))
      intro v6 w6' ho6 hg6
      have HB6 : Hid (Below W1.heap.size W1 w6') := Lib.hid (HB5.out.grown hg6 HB5.out.size (fun j hj => (HO5.out.lt j hj).1))
      have HO6 : Hid (Owns w6' W1.heap.size 5 .u8 v6 (mhead m ++ encs [m.ps.length] ++ ((m.ps.take (k + 1)).map pttext).flatten)) := Lib.hid (by
        rw [HTK2.out, ← List.append_assoc, ← HTL.out, ← List.append_assoc]
        simpa using ho6)
      clear ho6 hg6
      go_wp2
      go_roundw
      case rel => exact ⟨k + 1, HKL.out, by go_num, HO6.out, HB6.out⟩
      case measure => have := HKL.out; simp [intOf]; omega
    · obtain rfl : k = n := by omega
      have HPT : Hid (mtext m = tl) := Lib.hid (by rw [HTL.out, HN.out, List.take_length]; rfl)
      have hpg := put_good (.slice none 0 0) _ [] tl wr (owns_nil wr 0 5 .u8).reads HO.out.reads HLT.out.2 (by have := HLT.out.1; have := HNT.out; omega) (by simp)
      have HPG := Lib.hid hpg
      clear hb hpg
      go_wp2_with fail
      refine HPG.out.mono ?_
      rintro e w7 ⟨v7, rfl, ho7, hb7⟩
      have HO7 : Hid (Owns w7 w.heap.size 5 .u8 v7 (fr (mtext m))) := Lib.hid (by rw [HPT.out]; exact ho7.mono (Nat.le_trans HB1.out.size HB.out.size))
      have HB7 : Hid (Below w.heap.size w w7) := Lib.hid ((HB1.out.trans (HB.out.mono HB1.out.size)).trans (hb7.mono (Nat.le_trans HB1.out.size HB.out.size)))
      clear ho7 hb7
      go_wp2
      go_ret2
      exact ⟨HB7.out, .inl ⟨HZ0.out, _, rfl, HO7.out⟩⟩

end Go.Proofs.YtgnalcobcdgnkaaGreatDoor
