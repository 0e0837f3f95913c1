/- StoreSweeps, walked. -/
import Derived.Test.YtjgdbhmogdaggaaStM
import Derived.Maps.RangeWalk
namespace Go.Proofs.Ytjgdbhmogdaggaa
open Go.RowKit

theorem tilde_ch {n : Nm} (h : tildeN n = true) : chN n 0 = 126 ∧ 0 < n.length := by
  cases n with
  | nil => cases h
  | cons a r =>
    unfold tildeN at h
    obtain rfl : a = til := by simpa using h
    exact ⟨rfl, by simp⟩
theorem not_tilde_ch {n : Nm} (h : tildeN n = false) (hn : 0 < n.length) : ¬ ((chN n 0 : Nat) : Int) = 126 := by
  cases n with
  | nil => cases hn
  | cons a r =>
    intro e
    have h1 : a.toNat = 126 := by
      have : chN (a :: r) 0 = 126 := by omega
      exact this
    have h2 : a = til := UInt8.toNat_inj.1 (by rw [h1]; rfl)
    rw [h2] at h
    cases h
theorem named_pos {n : Nm} (h : named n = true) : 0 < n.length := by
  unfold named at h
  simp only [Bool.and_eq_true, decide_eq_true_eq] at h
  omega

/-- What is left of L where the first k names are taken out. -/
def LeftF (ns : List Nm) (k : Nat) (L l : Fm (List Nat)) : Prop := ∀ x, fget l x = if x ∈ ns.take k then none else fget L x
theorem left_zero (ns : List Nm) (L : Fm (List Nat)) : LeftF ns 0 L L := fun x => by simp
theorem LeftF.next {ns : List Nm} {k : Nat} {L l : Fm (List Nat)} (h : LeftF ns k L l) {x : Nm} (hx : ns[k]? = some x) : LeftF ns (k + 1) L (fdel l x) := fun y => by
  have e : ns.take (k + 1) = ns.take k ++ [x] := by rw [List.take_add_one, hx]; rfl
  by_cases hy : x = y
  · subst hy
    rw [fget_del_same, if_pos (by rw [e]; simp)]
  · rw [fget_del_other hy, h y]
    by_cases hm : y ∈ ns.take k
    · rw [if_pos hm, if_pos (by rw [e]; simp [hm])]
    · rw [if_neg hm, if_neg (by rw [e]; simp [hm]; exact fun e => hy e.symm)]
theorem LeftF.at {ns : List Nm} {k : Nat} {L l : Fm (List Nat)} (h : LeftF ns k L l) (hn : ns.Nodup) {x : Nm} (hx : ns[k]? = some x) : fget l x = fget L x := by
  rw [h x, if_neg]
  intro hm
  obtain ⟨i, hi⟩ := List.getElem?_of_mem hm
  rw [List.getElem?_take] at hi
  split at hi
  · rename_i hik
    have := (List.getElem?_inj (List.getElem?_eq_some_iff.1 hi).1 hn).1 (hi.trans hx.symm)
    omega
  · cases hi
/-- What Open and List make of a calm disk that shows L. -/
structure Swept (L : Fm (List Nat)) (D : DS) (ns : List Nm) : Prop where
  nod : ns.Nodup
  each : ∀ x ∈ ns, ∃ t, fget L x = some t ∧ dread D x = (t, 0) ∧ tildeN x = false ∧ 0 < x.length ∧ x.length ≤ 24
  rest : ∀ x t, x ∉ ns → fget L x = some t → tildeN x = true ∧ x.length ≤ 24
theorem swept_of {L : Fm (List Nat)} {D : DS} (h1 : D.down = false) (h2 : D.shown = L.filter (fun f => !tildeN f.1)) (ha : Apart L) (hn : ∀ f ∈ L, named f.1 = true) : Swept L D (srt (D.shown.map (·.1))) := by
  have hmem : ∀ x, x ∈ srt (D.shown.map (·.1)) ↔ x ∈ D.shown.map (·.1) := fun x => List.mem_mergeSort
  have hap : Apart D.shown := by rw [h2]; exact ha.filter _
  have hg : ∀ x, fget D.shown x = if (!tildeN x) = true then fget L x else none := fun x => by rw [h2]; exact fget_filter (q := fun m => !tildeN m)
  refine ⟨?_, fun x hx => ?_, fun x t hx ht => ?_⟩
  · unfold srt
    exact (List.mergeSort_perm _ _).nodup_iff.2 (List.pairwise_map.2 hap)
  · have h3 := fhas_iff.2 ((hmem x).1 hx)
    rw [fhas_get] at h3
    obtain ⟨t, ht⟩ := Option.isSome_iff_exists.1 h3
    have h4 := hg x
    rw [ht] at h4
    by_cases hT : (!tildeN x) = true
    · rw [if_pos hT] at h4
      have h5 := hn _ (fget_some h4.symm)
      refine ⟨t, h4.symm, ?_, by simpa using hT, named_pos h5, named_short h5⟩
      unfold dread
      rw [if_neg (by rw [h1]; decide), ht]
    · rw [if_neg hT] at h4; cases h4
  · have h5 := hn _ (fget_some ht)
    refine ⟨?_, named_short h5⟩
    by_cases hT : tildeN x = true
    · exact hT
    · exfalso
      have h4 := hg x
      rw [if_pos (by simpa using hT), ht] at h4
      exact hx ((hmem x).2 (fhas_iff.1 (by rw [fhas_get, h4]; rfl)))

set_option maxHeartbeats 8000000 in
set_option maxRecDepth 100000 in
theorem storeSweeps_walk (fv : Value) (fs : List (Nm × List Nat)) (w : World) (hf : FilesAt w fv fs) :
    Calls Try.prog 5 #[fv] w fun e w' => e = .returned (.bool true) ∧ Below w.heap.size w w' := by
  obtain ⟨aof, capf, rfl, _, _, _⟩ := hf.val
  have HFS := Lib.hid hf
  clear hf
  go_enter Try.func5, Try.ntmps5
  have hmm := @run_makeMap Try.prog
  go_wp2_with fail
  refine (alive7_any w).mono ?_
  rintro e w2 ⟨rfl, hb1⟩
  have HB2 := Lib.hid hb1
  clear hb1
  by_cases hf10 : (20 : Int) < (fs.length : Int)
  · go_wp2
    go_ret
    exact ⟨rfl, HB2.out⟩
  have HFL : Hid (fs.length ≤ 20) := Lib.hid (by omega)
  go_wp2_with fail
  refine (newD_any 16777216 w2).mono ?_
  rintro e w3 (⟨_, _, rfl, hd3, hb3, hs3⟩ | ⟨h, _⟩)
  case inr => exact absurd ⟨by decide, by decide⟩ h
  have hd : Drv w w3 w2.heap.size (dnew 16777216) := drv_new HB2.out hd3 hb3
  clear hd3 hb3 hs3 hf10
  generalize w2.heap.size = p at hd
  obtain ⟨bW, hbW⟩ : ∃ b, b = w3.heap.size := ⟨_, rfl⟩
  obtain ⟨W4, hW4⟩ : ∃ W, W = w3.alloc (.map #[] 0) := ⟨_, rfl⟩
  have hb4 : Below w3.heap.size w3 W4 := by rw [hW4]; exact (Below.refl _ _).alloc (Nat.le_refl _) _
  have HD4 : Hid (DrvB w (fun j => j = bW) W4 p (dnew 16777216)) := Lib.hid (by
    obtain ⟨S, h1, h2, h3, h4⟩ := hd.b.add hb4 (by rw [hW4]; simp)
    exact ⟨S, h1, h2, h3, fun j hj => h4 j (.inr (by rw [hj, hbW]))⟩)
  have HWS4 : Hid (WasV W4 bW []) := Lib.hid (by rw [hW4, hbW]; exact was_made w3)
  have HBW : Hid (w.heap.size ≤ bW) := Lib.hid (by rw [hbW]; exact hd.below.size)
  have HW4 := Lib.hid hW4
  have HBWE := Lib.hid hbW
  clear hd hb4 hW4 hbW
  go_wp2_with fail
  rw [← HW4.out, ← HBWE.out]
  clear HW4 HBWE
  go_loopw [30] (fun i wr => ∃ (k : Nat) (d : DS), k ≤ fs.length ∧ i = .int .i64 (k : Int) ∧ DrvB w (fun j => j = bW) wr p d ∧ Calm d k ∧ WasV wr bW d.shown ∧ (∀ f ∈ d.shown, named f.1 = true))
    (fun i _ => fs.length - (intOf i).toNat)
  case atStart => exact ⟨0, _, Nat.zero_le _, rfl, HD4.out, ⟨rfl, rfl, by simp [dnew, DS.sz]⟩, HWS4.out, by simp [dnew, DS.shown, shownOf]⟩
  case round =>
    obtain ⟨k, d, hk, rfl, hdrv, hcalm, hwas, hnm⟩ := hrel
    have HC := Lib.hid hcalm
    have HWS := Lib.hid hwas
    have HNM := Lib.hid hnm
    by_cases hlt : k < fs.length
    · obtain ⟨f, hfk⟩ : ∃ f, fs[k]? = some f := ⟨_, List.getElem?_eq_getElem hlt⟩
      obtain ⟨g, off, bv, rfl, hgl, e0, e1, hat, h8, hnl⟩ := HFS.out.at hfk
      have hbw := hdrv.below
      have e0 := (hbw.cell (p := ⟨g, off + k * 2, none⟩) hgl).trans e0
      have e1 := (hbw.cell (p := ⟨g, off + k * 2 + 1, none⟩) hgl).trans e1
      obtain ⟨n, bytes⟩ := f
      simp only [] at e0 hat h8 hnl
      obtain ⟨aob, capb, rfl, _, _, _⟩ := hat.reads.val
      obtain ⟨s1, hs1⟩ : ∃ s1 : ByteArray, nmV n = .string s1 := ⟨_, rfl⟩
      rw [hs1] at e0
      have hlti : (k : Int) < fs.length := by omega
      have HK := Lib.hid hlt
      have HS1 := Lib.hid hs1
      have HAT := Lib.hid hat
      have HNL := Lib.hid hnl
      obtain ⟨W5, hW5⟩ : ∃ W5, W5 = wr.alloc (.cells #[.string s1, .slice aob bytes.length capb] 68) := ⟨_, rfl⟩
      have hb5 : Below wr.heap.size wr W5 := by rw [hW5]; exact (Below.refl _ _).alloc (Nat.le_refl _) _
      have hx5 : W5.heap[wr.heap.size]? = some (.cells #[.string s1, .slice aob bytes.length capb] 68 (0, 0)) := by rw [hW5]; exact heap_alloc_new _ _
      have hd5 := hdrv.add hb5 (by rw [hW5]; simp)
      have hcall := hd5.write (by have := hcalm.2.2; have := HFL.out; omega) hnl hat h8
      rw [hs1] at hcall
      have HCALL := Lib.hid hcall
      have HW5 := Lib.hid hW5
      have HB5 := Lib.hid hb5
      have HD5 := Lib.hid hd5
      have HX5 := Lib.hid hx5
      have HBL := Lib.hid hbw
      have HDR := Lib.hid hdrv
      clear hdrv hcalm hwas hnm hfk hgl hat h8 hnl hbw hs1 hW5 hb5 hx5 hd5 hcall
      by_cases h300 : (300 : Int) < (bytes.length : Int)
      · go_wp2
        go_ret
        exact ⟨rfl, HBL.out.trans ((by rw [← HW5.out]; exact HB5.out : Below wr.heap.size wr _).mono HBL.out.size)⟩
      go_wp2_with fail
      rw [← HW5.out]
      refine HCALL.out.mono ?_
      rintro e w6 ⟨rfl, hd6, hk6⟩
      have hblt : wr.heap.size < W5.heap.size := (Array.getElem?_eq_some_iff.1 HX5.out).1
      have hx6 := (hk6 wr.heap.size (.inr rfl)).trans HX5.out
      have x0 : w6.cell? ⟨wr.heap.size, 0, none⟩ = some (.string s1) := by rw [cell_of_row _ _ 0 _ _ _ hx6]; rfl
      have x1 : w6.cell? ⟨wr.heap.size, 1, none⟩ = some (.slice aob bytes.length capb) := by rw [cell_of_row _ _ 1 _ _ _ hx6]; rfl
      have hws6 := (HWS.out.keep (HB5.out.block bW HWS.out.lt)).keep (hk6 bW (.inl rfl))
      have hd6' := hd6.sub (C := fun j => j = bW) fun j hj => .inl hj
      have hr6 := (HAT.out.keep (kept_below hd6.below)).reads
      have q1 : (convert 37 9 (.slice aob bytes.length capb)).run Try.prog w6 = .ok (.string (txt bytes)) w6 := conv_reads _ _ _ hr6
      have HWS6 := Lib.hid hws6
      have HD6 := Lib.hid hd6'
      have HCN := Lib.hid (HC.out.next (opOk_write d n bytes))
      have HSL : Hid (d.shown.length ≤ 1000000) := Lib.hid (by have := lenShown d; have := HC.out.2.2; have := HFL.out; have := HK.out; omega)
      have HMX : Hid (n.length ≤ maxLen) := Lib.hid HNL.out
      clear hd6 hk6 hblt hx6 hws6 hd6' hr6 HDR HD5 HX5 HB5 HW5 HCALL HWS
      rcases dwrite_shown (d := d) (n := n) (b := bytes) with ⟨z1, z2⟩ | ⟨z1, z2⟩
      · have HNMN : Hid (∀ f ∈ (dwrite d n bytes).1.shown, named f.1 = true) := Lib.hid (by
          rw [z2]
          intro f hf
          rcases mem_fput hf with rfl | hf
          · exact dwrite_named z1
          · exact HNM.out f hf)
        have HZ2 := Lib.hid z2
        rw [z1, errV_zero]
        clear z1 z2
        go_wp2_with (at_mapUpdate; go_must (refine wpList_wasPut _ rfl _ _ _ rfl (b := bW) (l := d.shown) rfl HWS6.out HSL.out (n := n) (t := bytes) (by rw [HS1.out]; rfl) rfl HMX.out ?_))
        intro w7 hws7 hg7
        rw [← HZ2.out] at hws7
        have HWS7 := Lib.hid hws7
        have HD7 := Lib.hid (HD6.out.turn rfl HBW.out hg7)
        clear hws7 hg7 HD6 HWS6
        go_wp2
        go_roundw
        case rel => exact ⟨k + 1, _, Nat.succ_le_of_lt HK.out, (by first | exact inc_eq HK.out (by have := HFL.out; omega) | rfl), HD7.out, HCN.out, HWS7.out, HNMN.out⟩
        case measure => first | exact inc_meas HK.out (by have := HFL.out; omega) | (have := HK.out; simp [intOf]; omega)
      · rw [errV_pos z1]
        have HZ2 := Lib.hid z2
        clear z1 z2
        go_wp2
        go_roundw
        case rel => exact ⟨k + 1, _, Nat.succ_le_of_lt HK.out, (by first | exact inc_eq HK.out (by have := HFL.out; omega) | rfl), HD6.out, HCN.out, by rw [HZ2.out]; exact HWS6.out, by rw [HZ2.out]; exact HNM.out⟩
        case measure => first | exact inc_meas HK.out (by have := HFL.out; omega) | (have := HK.out; simp [intOf]; omega)
    · obtain rfl : k = fs.length := by omega
      obtain ⟨hdn, hfu, hsz⟩ := hcalm
      have hsz2 : d.sz ≤ 20 := Nat.le_trans hsz HFL.out
      obtain ⟨D, hD, hDd, hDs, hDz⟩ := sopen_calm hdn hfu hnm hwas.apart
      have hsw := swept_of hDd hDs hwas.apart hnm
      obtain ⟨L, hL⟩ : ∃ L, L = d.shown := ⟨_, rfl⟩
      rw [← hL] at hwas hsw
      obtain ⟨ns, hns⟩ : ∃ ns, ns = srt (D.shown.map (·.1)) := ⟨_, rfl⟩
      have hnl : ns.length ≤ 1000000 := by rw [hns, srt_length, List.length_map]; have := lenShown D; omega
      have hdl : dlist D = (ns, 0) := by rw [dlist_up hDd, hns]
      rw [← hns] at hsw
      have HSW := Lib.hid hsw
      have HNL := Lib.hid hnl
      have HDL := Lib.hid hdl
      have HDZ : Hid (D.sz ≤ 1000000) := Lib.hid (by omega)
      have HCALL := Lib.hid (hdrv.open (by omega) hD)
      have HWS := Lib.hid hwas
      clear hdrv hwas hnm hdn hfu hsz hsz2 hL hD hDd hDs hDz hsw hns hnl hdl HC HD4 HWS4 HNM
      go_wp2_with fail
      refine HCALL.out.mono ?_
      rintro e w5 ⟨⟨q5, rfl⟩, hd5, hk5⟩
      have HWS5 := Lib.hid (HWS.out.keep (hk5 bW rfl))
      have hcall := hd5.list HDZ.out
      rw [HDL.out] at hcall
      have HCALL := Lib.hid hcall
      have HD5 := Lib.hid hd5
      clear hd5 hk5 hcall HWS
      go_wp2_with fail
      refine HCALL.out.mono ?_
      rintro e w6 ⟨v6, rfl, ho6, hb6⟩
      have HD6 := Lib.hid (HD5.out.more hb6)
      have HWS6 := Lib.hid (HWS5.out.keep (hb6.block _ HWS5.out.lt))
      have HBS : Hid (bW < w5.heap.size) := Lib.hid HWS5.out.lt
      obtain ⟨bs, hbs⟩ : ∃ bs, bs = w5.heap.size := ⟨_, rfl⟩
      rw [← hbs] at ho6 HBS
      have HO6 := Lib.hid ho6
      obtain ⟨ao6, cap6, rfl⟩ := ho6.val
      rw [show errV (((ns, 0) : List Nm × Nat).2) = .nilIface from rfl]
      clear ho6 hb6 hbs HCALL HD5 HWS5
      go_wp2
      go_loopw [12, 13, 14, 68] (fun _ _ _ i wr => ∃ (k : Nat) (l : Fm (List Nat)), k ≤ ns.length ∧ i = .int .i64 (k : Int) ∧ DrvB w (fun j => j = bW) wr p D ∧ WasV wr bW l ∧ LeftF ns k L l ∧ NmsO wr bs (.slice ao6 ns.length cap6) ns)
        (fun _ _ _ i _ => ns.length - (intOf i).toNat)
      case atStart => exact ⟨0, L, Nat.zero_le _, rfl, HD6.out, HWS6.out, left_zero _ _, HO6.out⟩
      case round =>
        obtain ⟨k, l, hk, rfl, hdrv, hwas, hleft, hnms⟩ := hrel
        have HWS := Lib.hid hwas
        have HLF := Lib.hid hleft
        by_cases hlt : k < ns.length
        · obtain ⟨x, hx⟩ : ∃ x, ns[k]? = some x := ⟨_, List.getElem?_eq_getElem hlt⟩
          obtain ⟨t, hLt, hrd, hti, hx0, hx24⟩ := HSW.out.each x (List.mem_of_getElem? hx)
          obtain ⟨g, rfl, hgb, hgl, e0⟩ := hnms.at hx
          have hlx : fget l x = some t := (hleft.at HSW.out.nod hx).trans hLt
          have hix := fun W => run_chN x 0 hx0 W
          have hne := not_tilde_ch hti hx0
          have hcall := hdrv.read (n := x) (by omega)
          rw [hrd] at hcall
          have hnx := hleft.next hx
          obtain ⟨s, hs⟩ : ∃ s : ByteArray, nmV x = .string s := ⟨_, rfl⟩
          rw [hs] at e0 hcall
          have hs' : (Value.string ⟨x.toArray⟩) = .string s := hs
          simp only [hs'] at hix
          obtain ⟨c, hc⟩ : ∃ c : Int, ((chN x 0 : Nat) : Int) = c := ⟨_, rfl⟩
          rw [hc] at hne
          simp only [hc] at hix
          have hlti : (k : Int) < ns.length := by omega
          have HK := Lib.hid hlt
          have HS := Lib.hid hs
          have HNX := Lib.hid hnx
          have HLX := Lib.hid hlx
          have HXL : Hid (x.length ≤ maxLen) := Lib.hid (by simp only [maxLen]; omega)
          have HCALL := Lib.hid hcall
          have HD := Lib.hid hdrv
          have HNMS := Lib.hid hnms
          have HIX := Lib.hid hix
          clear hx hLt hrd hti hx0 hx24 hgb hgl hlx hcall hnx hs hs' hc hdrv hnms hwas hleft hix
          go_wp2_with fail
          refine HCALL.out.mono ?_
          rintro e w7 ⟨v7, rfl, ho7, hb7⟩
          rw [show errV (((t, 0) : List Nat × Nat).2) = .nilIface from rfl]
          have hws7 := HWS.out.keep (hb7.block _ HWS.out.lt)
          have hlk := hws7.look HXL.out HLX.out
          rw [HS.out] at hlk
          have hix := HIX.out w7
          simp only [Int.cast_ofNat_Int] at hix
          obtain ⟨ao7, cap7, rfl, _, _, _⟩ := ho7.reads.val
          have q1 : (convert 37 9 (.slice ao7 t.length cap7)).run Try.prog w7 = .ok (.string (txt t)) w7 := conv_reads _ _ _ ho7.reads
          have HWS7 := Lib.hid hws7
          have HD7 := Lib.hid (HD.out.more hb7)
          have HNMS7 := Lib.hid (HNMS.out.below hb7)
          clear hws7 ho7 hb7 HCALL HD HNMS
          go_wp2_with (at_delete; go_must (refine wpList_wasDel _ rfl _ _ rfl (b := bW) (l := l) rfl HWS7.out (n := x) HS.out.symm HXL.out ?_))
          intro w8 hws8 hg8
          have HWS8 := Lib.hid hws8
          have HD8 := Lib.hid (HD7.out.turn rfl HBW.out hg8)
          have HN8 : Hid (NmsO w8 bs (.slice (some ⟨g, 0, none⟩) ns.length cap6) ns) := Lib.hid (HNMS7.out.keep (K := fun j => j ≠ bW) ⟨hg8.size, fun j hj hne => hg8.block j hj (fun e => hne (by cases e; rfl))⟩ fun g' hg' => by
            have := (HNMS7.out.lt hg').1
            have := HBS.out
            omega)
          clear hws8 hg8 HD7 HWS7 HNMS7 q1 hlk hix
          go_wp2
          go_roundw
          case rel => exact ⟨k + 1, _, Nat.succ_le_of_lt HK.out, congrArg (Value.int .i64) (wrap_succM k (Nat.le_trans (Nat.le_of_lt HK.out) (Nat.le_trans HNL.out (by decide)))), HD8.out, HWS8.out, HNX.out, HN8.out⟩
          case measure => exact meas_succM HK.out (Nat.le_trans (Nat.le_of_lt HK.out) (Nat.le_trans HNL.out (by decide)))
        · obtain rfl : k = ns.length := by omega
          have HRS : Hid (∀ x t, fget l x = some t → tildeN x = true ∧ x.length ≤ 24) := Lib.hid fun x t ht => by
            have h1 := hleft x
            rw [List.take_length] at h1
            by_cases hm : x ∈ ns
            · rw [if_pos hm, ht] at h1; cases h1
            · rw [if_neg hm, ht] at h1
              exact HSW.out.rest x t hm h1.symm
          obtain ⟨es, hes1, hes2⟩ := hwas
          have HES1 : Hid (wr.ownsMap Try.prog 9 hv bW es.length (.map (es.map ent))) := Lib.hid hes1
          have HES2 := Lib.hid hes2
          have HD := Lib.hid hdrv
          clear hes1 hes2 hdrv hleft hnms
          go_wp2_with (at_range; go_must (refine wpList_range_own _ rfl _ 51 rfl 9 9 keyed_str Try.underlying51 hv bW es.length _ rfl HES1.out ?_))
          intro w7 hrg7 hg7 hs7
          try go_frame
          have hb7 : Below wr.heap.size wr w7 := ⟨hg7.os, hg7.tape, hg7.output, hg7.size, fun j hj => hg7.block j hj (by simp)⟩
          obtain ⟨r, hr⟩ : ∃ r, r = wr.heap.size := ⟨_, rfl⟩
          rw [← hr] at hrg7
          have HR7 := Lib.hid hrg7
          have HB7 : Hid (Below w.heap.size w w7) := Lib.hid (HD.out.below.trans (hb7.mono HD.out.below.size))
          have HRB : Hid (w.heap.size ≤ r) := Lib.hid (by rw [hr]; exact HD.out.below.size)
          have HRE := Lib.hid hr
          clear hrg7 hg7 hs7 hb7 hr HES1 HD
          rw [← HRE.out]
          go_wp2
          go_loopw [15] (fun _ wz => ∃ (left : Lit → Bool) (cnt : Nat), wz.ranges Try.prog 9 hv bW r es.length (.map (es.map ent)) left cnt ∧ Below w.heap.size w wz)
            (fun _ wz => wz.rangeLeft bW r)
          case atStart => exact ⟨_, _, HR7.out, HB7.out⟩
          case round =>
            obtain ⟨left, cnt, hrg, hbz⟩ := hrel
            have HBZ := Lib.hid hbz
            have HRG := Lib.hid hrg
            clear hbz
            go_wp2_with (at_next; go_must (refine wpList_next_ranges _ rfl _ rfl 9 keyed_str hv nmV (id : Value → Value) (fun key kl hkey => by obtain ⟨x, rfl, _⟩ := Maps.keyOf_str Try.underlying9 hkey; exact ⟨x, rfl⟩) (fun v y _ => ⟨v, rfl⟩) bW r es.length _ left cnt rfl hrg ?_ ?_))
            · intro _ hl0
              clear hl0
              go_wp2
              go_ret
              exact ⟨rfl, HBZ.out⟩
            · intro x c kl y1 y2 w1 cnt1 hkey hlx hR1 hR2 hat hrg1 hlt hg1 hs1 hen
              first | subst hR1 | skip
              have HCNT := Lib.hid hlt
              obtain ⟨x', ex, rfl, hxl⟩ := Maps.keyOf_str Try.underlying9 hkey
              obtain rfl : x = x' := by
                have : nmV x = nmV x' := ex
                unfold nmV at this
                have h2 : (ByteArray.mk x.toArray) = ByteArray.mk x'.toArray := by injection this
                have h3 : x.toArray = x'.toArray := by injection h2
                simpa using congrArg Array.toList h3
              have hat' : ∀ z : Value, DataW.held ((fget es x).getD z) = DataW.held c := fun z => by rw [← atKey_ent]; exact hat _
              have hget : fget es x = some c := by
                cases hg : fget es x with
                | none =>
                  have a1 := hat' (.bool true)
                  have a2 := hat' (.bool false)
                  rw [hg] at a1 a2
                  have a3 := a1.trans a2.symm
                  cases a3
                | some u =>
                  have a1 := hat' (.bool true)
                  rw [hg] at a1
                  have : u = c := by injection a1
                  rw [this]
              have htl : tildeN x = true := by
                rcases HES2.out.get x with ⟨h1, _⟩ | ⟨a, t, h1, h2, h3⟩
                · rw [hget] at h1; cases h1
                · exact (HRS.out x t h2).1
              obtain ⟨hch, hx0⟩ := tilde_ch htl
              have hix := fun W => run_chN x 0 hx0 W
              rw [hch] at hix
              obtain ⟨s, hs⟩ : ∃ s : ByteArray, nmV x = .string s := ⟨_, rfl⟩
              have hs' : (Value.string ⟨x.toArray⟩) = .string s := hs
              simp only [hs'] at hix
              rw [hs] at hen
              have hen2 : (Instr.entry (.pointer (some ⟨r, 0, none⟩))).run Try.prog w1 = .ok (.tuple #[.string s, c]) w1 := hen
              have hix1 := hix w1
              simp only [Int.cast_ofNat_Int] at hix1
              have HB1 := Lib.hid (HBZ.out.grown hg1 HBZ.out.size (fun j hj => by cases hj; exact HRB.out))
              have HRG1 := Lib.hid hrg1
              rw [hs]
              clear hkey hlx hR2 hat hrg1 hlt hg1 hs1 hen hat' hget htl hch hx0 hix hs hs' ex hxl
              go_wp2
              go_roundw
              case rel => exact ⟨_, cnt1, HRG1.out, HB1.out⟩
              case measure => rw [HRG1.out.left_eq, HRG.out.left_eq]; exact HCNT.out

end Go.Proofs.Ytjgdbhmogdaggaa
