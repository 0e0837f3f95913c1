/- A projection's bytes: the document's Put. -/
import Derived.Test.YtgjdablifncbaaaGreatPkA
import Derived.Test.YtgjdablifncbaaaGreatFrR
import Derived.Test.YtgjdablifncbaaaGreatHeldA
import Derived.Deep.RegionHeldLaw
namespace Go.Proofs.YtgjdablifncbaaaGreat
open Go.RowKit

theorem encs_small : ∀ {l : List Nat}, (∀ n ∈ l, n < 128) → encs l = l
  | [], _ => rfl
  | a :: r, h => by
    show enc a ++ encs r = a :: r
    rw [enc_small (h a (by simp)), encs_small fun n hn => h n (by simp [hn])]
    rfl
theorem ctext_small {c : List Int} (h4 : c.length ≤ 4) (hu : ∀ u ∈ c, unitB u = true) : ctext c = [c.length] ++ c.map Int.toNat := by
  unfold ctext
  rw [enc_small (by omega), encs_small]
  intro n hn
  obtain ⟨u, h1, rfl⟩ := List.mem_map.1 hn
  have := unitB_iff.1 (hu u h1)
  omega

set_option maxHeartbeats 2000000 in
set_option maxRecDepth 100000 in
theorem rpput_any (ep : Int) (v : Value) (cs : List (List Int)) (w : World) (B : Nat → Prop) (h : Chs w B v cs) (hg : pchk ep cs = 0) :
    Calls Tryz.prog 20 #[.agg #[.int .i64 ep, v]] w fun e w' => ∃ v', e = .returned v' ∧ Owns w' w.heap.size 5 .u8 v' (fr (ptext ep cs)) ∧ Below w.heap.size w w' := by
  obtain ⟨ao, cap, rfl, l1, m1, _⟩ := h.val
  obtain ⟨⟨en, rfl, hen⟩, ⟨n1, n4⟩, hcs⟩ := pright hg
  obtain ⟨W1, hW1⟩ : ∃ W1, W1 = w.alloc (.cells #[.int .i64 (en : Int), .slice ao cs.length cap] 27) := ⟨_, rfl⟩
  have hb1 : Below w.heap.size w W1 := by rw [hW1]; exact (Below.refl _ _).alloc (Nat.le_refl _) _
  have hx1 : Box2 W1 w.heap.size (.int .i64 (en : Int)) (.slice ao cs.length cap) := by rw [hW1]; exact box2_new _ _ _ _
  have HX : Hid (∀ W, Below W1.heap.size W1 W → W.cell? ⟨w.heap.size, 0, none⟩ = some (.int .i64 (en : Int)) ∧ W.cell? ⟨w.heap.size, 1, none⟩ = some (.slice ao cs.length cap)) := Lib.hid fun W hb => ⟨(hx1.old hb).c0, (hx1.old hb).c1⟩
  have HB1 := Lib.hid hb1
  have HR := Lib.hid h
  have HN4 := Lib.hid n4
  have HCS := Lib.hid hcs
  have HEN := Lib.hid hen
  have HUE : Hid (U64 en) := Lib.hid (by unfold U64; omega)
  have HUC : Hid (U64 cs.length) := Lib.hid (by unfold U64; omega)
  have hwe : IntKind.u64.wrap (en : Int) = (en : Int) := by rw [IntKind.wrap_u64]; omega
  have hwn : IntKind.u64.wrap (cs.length : Int) = (cs.length : Int) := by rw [IntKind.wrap_u64]; omega
  obtain ⟨x0, x1⟩ := HX.out W1 (Below.refl _ _)
  have hd1 : Below W1.heap.size W1 W1.drew := ⟨rfl, rfl, rfl, Nat.le_refl _, fun _ _ => rfl⟩
  have HD1 := Lib.hid hd1
  have HRK := Lib.hid (refBytes_any en W1.drew HUE.out)
  have HRE := Lib.hid (fun W => refBytes_any cs.length W HUC.out)
  have HW1 := Lib.hid hW1
  clear h hb1 l1 m1 hx1 hg hen n1 n4 hcs hW1 hd1
  go_enter Tryz.func20, Tryz.ntmps20
  go_wp2_with fail
  rw [← HW1.out]
  go_region_held_law (fun w' => w'.cell? ⟨w.heap.size, 0, none⟩ = some (.int .i64 (en : Int)) ∧ w'.cell? ⟨w.heap.size, 1, none⟩ = some (.slice ao cs.length cap)) (go_keep) (first
    | (refine step_app_reads (by rfl) _ _ _ (by rfl) W1.heap.size 5 (.int .u8 0) 1 Tryz.underlying34 Tryz.info5 rfl .u8 _ (enc en) (by rfl) HO3.out _ (enc cs.length) (by rfl) HR4.out (by decide) (by have h1 := enc_len10 HUE.out; have h2 := enc_len10 HUC.out; omega) HB14.out.size ?_
       intro v5 w5 ho5 hg5
       have HB15 : Hid (Below W1.heap.size W1 w5) := Lib.hid (HB14.out.grown hg5 HB14.out.size fun j hj => (HO3.out.lt j hj).1)
       obtain ⟨x0, x1⟩ := HX.out w5 HB15.out
       have HO5 := Lib.hid ho5
       clear ho5 hg5)
    | (go_at_call 41
       with_reducible refine HRK.out.mono ?_
       rintro r w3 ⟨v3, rfl, ho3, hb3⟩
       have HB13 : Hid (Below W1.heap.size W1 w3) := Lib.hid (HD1.out.trans (hb3.mono HD1.out.size))
       obtain ⟨x0, x1⟩ := HX.out w3 HB13.out
       have HOA := Lib.hid ho3
       clear ho3 hb3)
    | (go_at_call 41
       refine (HRE.out w3).mono ?_
       rintro r w4 ⟨v4, rfl, ho4, hb4⟩
       have HB14 : Hid (Below W1.heap.size W1 w4) := Lib.hid (HB13.out.trans (hb4.mono HB13.out.size))
       obtain ⟨x0, x1⟩ := HX.out w4 HB14.out
       have HO3 : Hid (Owns w4 W1.heap.size 5 .u8 v3 (enc en)) := Lib.hid (HOA.out.below hb4 (Nat.le_refl _))
       have HR4 := Lib.hid ho4.reads
       clear ho4 hb4))
  have HB5 : Hid (Below w.heap.size w w5) := Lib.hid (HB1.out.trans (HB15.out.mono HB1.out.size))
  have HO5B : Hid (Owns w5 w.heap.size 5 .u8 v5 (encs [en, cs.length] ++ ((cs.take 0).map ctext).flatten)) := Lib.hid (by
    have : encs [en, cs.length] ++ ((cs.take 0).map ctext).flatten = enc en ++ enc cs.length := by unfold encs; simp
    rw [this]
    exact HO5.out.mono HB1.out.size)
  clear hwe hwn
  go_wp2
  go_loopw [3, 5, 7, 21, 33] (fun tv _ _ i _ wr => ∃ k : Nat, k ≤ cs.length ∧ i = .int .i64 (k : Int) ∧ Owns wr w.heap.size 5 .u8 tv (encs [en, cs.length] ++ ((cs.take k).map ctext).flatten) ∧ Below w.heap.size w wr)
    (fun _ _ _ i _ _ => cs.length - (intOf i).toNat)
  case atStart => exact ⟨0, Nat.zero_le _, rfl, HO5B.out, HB5.out⟩
  case round =>
    obtain ⟨k, hk, rfl, ho, hb⟩ := hrel
    obtain ⟨wo, rfl⟩ : ∃ x, x = wr := ⟨_, rfl⟩
    have HLT : Hid ((encs [en, cs.length] ++ ((cs.take k).map ctext).flatten).length ≤ 300 ∧ ∀ y ∈ encs [en, cs.length] ++ ((cs.take k).map ctext).flatten, y < 256) := Lib.hid (by
      obtain ⟨a1, a2⟩ := phead_len HEN.out HN4.out
      obtain ⟨b1, b2⟩ := cflat_len (l := cs.take k) fun c hc => ⟨(HCS.out c (List.mem_of_mem_take hc)).1.2, (HCS.out c (List.mem_of_mem_take hc)).2⟩
      refine ⟨?_, app_byte a2 b2⟩
      have := HN4.out
      rw [List.length_append]
      have : (cs.take k).length ≤ 4 := by rw [List.length_take]; omega
      omega)
    have HO := Lib.hid ho
    have HB := Lib.hid hb
    obtain ⟨aot, capt, rfl, _, _, _⟩ := ho.reads.val
    obtain ⟨nt, hnt⟩ : ∃ n, n = (encs [en, cs.length] ++ ((cs.take k).map ctext).flatten).length := ⟨_, rfl⟩
    rw [← hnt] at HO ⊢
    clear hnt
    clear hb
    by_cases hlt : k < cs.length
    · obtain ⟨b, off, x, rfl, hbl, _, hc0, hat⟩ := HR.out.at hlt
      have hc := (HB.out.cell (p := ⟨b, off + k, none⟩) (World.block_lt_of_cell? w _ hc0)).trans hc0
      clear hc0
      obtain ⟨aox, capx, rfl, _⟩ := hat.val
      have hm := HCS.out _ (getD_memC k hlt)
      have HTS : Hid (((cs.take (k + 1)).map ctext).flatten = ((cs.take k).map ctext).flatten ++ ctext (cs.getD k [])) := Lib.hid (by rw [chains_take k hlt]; simp)
      generalize cs.getD k [] = c at hc hat hm HTS
      have hlti : (k : Int) < cs.length := by omega
      have HCX := Lib.hid (ctext_small hm.1.2 hm.2)
      obtain ⟨nx, hnx⟩ : ∃ n, n = c.length := ⟨_, rfl⟩
      rw [← hnx] at hc hat
      have hnx4 : nx ≤ 4 := by rw [hnx]; exact hm.1.2
      have HNX := Lib.hid hnx
      have HNX4 := Lib.hid hnx4
      have HM := Lib.hid hm
      have HAT := Lib.hid hat
      have hw8 : IntKind.u8.wrap (nx : Int) = (nx : Int) := by rw [IntKind.wrap_u8]; omega
      obtain ⟨PRE, hpre⟩ : ∃ P, P = encs [en, cs.length] ++ ((cs.take k).map ctext).flatten := ⟨_, rfl⟩
      rw [← hpre] at HO HLT
      have HPRE := Lib.hid hpre
      clear hat hm ho hnx hpre
      go_wp2_with (at_builtin; go_must (refine wpList_app _ rfl _ _ 34 rfl w.heap.size 5 (.int .u8 0) 1 Tryz.underlying34 Tryz.info5 rfl .u8 _ PRE rfl (HO.out.alloc _) _ [nx] rfl (reads_new _ _ _ _) (by decide) (by have := HLT.out.1; simp; omega) (by have := HB.out.size; simp; omega) ?_))
      intro v6 w6 ho6 hg6
      have hb6 : Below wo.heap.size wo (wo.alloc (.cells #[.int .u8 (nx : Int)] 5)) := (Below.refl _ _).alloc (Nat.le_refl _) _
      have HB6 : Hid (Below w.heap.size w w6) := Lib.hid ((HB.out.alloc HB.out.size _).grown hg6 (by have := HB.out.size; simp; omega) fun j hj => (HO.out.lt j hj).1)
      have HO6 : Hid (Owns w6 w.heap.size 5 .u8 v6 (PRE ++ [nx] ++ (c.take 0).map Int.toNat)) := Lib.hid (by
        rw [List.take_zero]
        show Owns _ _ _ _ _ (PRE ++ [nx] ++ [])
        rw [List.append_nil]; exact ho6)
      obtain ⟨ao6, cap6, rfl, _, _, _⟩ := ho6.reads.val
      obtain ⟨n6, hn6⟩ : ∃ n, n = (PRE ++ [nx]).length := ⟨_, rfl⟩
      rw [← hn6] at HO6 ⊢
      clear ho6 hg6 hb6 hn6 hw8
      go_wp2
      go_loopw [3, 7, 33] (fun tv _ i wr => ∃ j : Nat, j ≤ nx ∧ i = .int .i64 (j : Int) ∧ Owns wr w.heap.size 5 .u8 tv (PRE ++ [nx] ++ (c.take j).map Int.toNat) ∧ Below w.heap.size w wr)
        (fun _ _ i _ => nx - (intOf i).toNat)
      case atStart => exact ⟨0, Nat.zero_le _, rfl, HO6.out, HB6.out⟩
      case round =>
        obtain ⟨j, hj, rfl, ho, hb⟩ := hrel
        obtain ⟨aot2, capt2, rfl, _, _, _⟩ := ho.reads.val
        obtain ⟨nt2, hnt2⟩ : ∃ n, n = (PRE ++ [nx] ++ (c.take j).map Int.toNat).length := ⟨_, rfl⟩
        rw [← hnt2] at ho ⊢
        have HO := Lib.hid ho
        have HB := Lib.hid hb
        have HLJ : Hid ((PRE ++ [nx] ++ (c.take j).map Int.toNat).length ≤ 1000) := Lib.hid (by
          have := HLT.out.1
          have := HNX4.out
          have := HNX.out
          rw [List.length_append, List.length_append, List.length_map, List.length_take, List.length_singleton]
          omega)
        clear hnt2
        by_cases hjl : j < nx
        · have hjc : j < c.length := by rw [← HNX.out]; exact hjl
          obtain ⟨b2, off2, rfl, _, _, hc2⟩ := (HAT.out.old hb).at hjc
          have hcc := hc2 j hjc
          have HTJ := Lib.hid (ints_take j hjc)
          have hu := unitB_iff.1 (HM.out.2 _ (getD_memI j hjc))
          generalize c.getD j 0 = u at hcc HTJ hu
          obtain ⟨m, rfl⟩ : ∃ m : Nat, u = (m : Int) := ⟨u.toNat, by omega⟩
          have hm7 : m ≤ 7 := by omega
          have HTM : Hid (PRE ++ [nx] ++ (c.take (j + 1)).map Int.toNat = PRE ++ [nx] ++ (c.take j).map Int.toNat ++ [m]) := Lib.hid (by rw [HTJ.out, List.map_append, List.append_assoc (PRE ++ [nx])]; simp)
          have hw8 : IntKind.u8.wrap (m : Int) = (m : Int) := by rw [IntKind.wrap_u8]; omega
          have hji : (j : Int) < nx := by omega
          clear hc2 hu hjc ho hb
          go_wp2_with (at_builtin; go_must (refine wpList_app _ rfl _ _ 34 rfl w.heap.size 5 (.int .u8 0) 1 Tryz.underlying34 Tryz.info5 rfl .u8 _ (PRE ++ [nx] ++ (c.take j).map Int.toNat) rfl (HO.out.alloc _) _ [m] rfl (reads_new _ _ _ _) (by decide) (by have := HLJ.out; simp only [List.length_cons, List.length_nil]; omega) (by have := HB.out.size; simp; omega) ?_))
          intro v8 w8 ho8 hg8
          have HO8 : Hid (Owns w8 w.heap.size 5 .u8 v8 (PRE ++ [nx] ++ (c.take (j + 1)).map Int.toNat)) := Lib.hid (by rw [HTM.out]; simpa using ho8)
          have HB8 : Hid (Below w.heap.size w w8) := Lib.hid ((HB.out.alloc HB.out.size _).grown hg8 (by have := HB.out.size; simp; omega) fun j hj => (HO.out.lt j hj).1)
          clear ho8 hg8
          go_wp2
          go_roundw
          case rel => exact ⟨j + 1, by omega, by go_num, HO8.out, HB8.out⟩
          case measure => simp [intOf]; omega
        · obtain rfl : j = nx := by omega
          have HO9 : Hid (Owns wr w.heap.size 5 .u8 (.slice aot2 nt2 capt2) (encs [en, cs.length] ++ ((cs.take (k + 1)).map ctext).flatten)) := Lib.hid (by
            rw [HTS.out, ← List.append_assoc, ← HPRE.out, HCX.out, ← HNX.out, ← List.append_assoc]
            have h := HO.out
            rw [HNX.out, List.take_length, ← HNX.out] at h
            exact h)
          have hcl4 := HN4.out
          clear ho hb
          go_wp2
          go_roundw
          case rel => exact ⟨k + 1, by omega, by go_num, HO9.out, HB.out⟩
          case measure => simp [intOf]; omega
    · obtain rfl : k = cs.length := by omega
      have HPT : Hid (ptext (en : Int) cs = encs [en, cs.length] ++ ((cs.take cs.length).map ctext).flatten) := Lib.hid (by rw [List.take_length]; rfl)
      have HPG := Lib.hid (refFrame_any _ _ wo HO.out.reads HLT.out.2 (by have := HLT.out.1; omega))
      clear ho
      go_wp2_with fail
      refine HPG.out.mono ?_
      rintro e w7 ⟨v7, rfl, ho7, hb7⟩
      have HO7 : Hid (Owns w7 w.heap.size 5 .u8 v7 (fr (ptext (en : Int) cs))) := Lib.hid (by rw [HPT.out]; exact ho7.mono HB.out.size)
      have HB7 : Hid (Below w.heap.size w w7) := Lib.hid (HB.out.trans (hb7.mono HB.out.size))
      clear ho7 hb7
      go_wp2
      go_ret
      exact ⟨_, rfl, HO7.out, HB7.out⟩

end Go.Proofs.YtgjdablifncbaaaGreat
