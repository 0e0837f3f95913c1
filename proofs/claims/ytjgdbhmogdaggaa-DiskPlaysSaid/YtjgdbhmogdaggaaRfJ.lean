/- The document's disk: Cut. -/
import Derived.Test.YtjgdbhmogdaggaaRfI
namespace Go.Proofs.Ytjgdbhmogdaggaa
open Go.RowKit

theorem picked_take : ∀ (cs : List Ch) (l : Fm (List Nat)) (ks : List Bool), picked l (cs.take ks.length) ks = picked l cs ks
  | [], l, ks => by simp
  | c :: cs, l, [] => by simp [picked]
  | c :: cs, l, k :: ks => by
    have := picked_take cs (if k = true then capply l c else l) ks
    simpa [picked] using this
theorem Bx.one {w W : World} {d : DS} {sv cv : Value} (h : Bx w W d sv cv) (l : Fm (List Nat)) (sv' : Value) : Bx w (W.setCell ⟨w.heap.size, 1, none⟩ sv') { d with sure := l } sv' cv := by
  have hf := fr_set W w.heap.size 1 sv'
  have hl := h.lt
  obtain ⟨x0, x1, x2, x3, x4, hr⟩ := h.res
  exact ⟨h.below.trans (hf.below h.below.size fun j hj e => by omega), heap_setCell_same W w.heap.size 1 _ _ sv' h.box, x0, x1, x2, x3, x4, (hf.block _ hl (by omega)).trans hr⟩
theorem Bx.cut {w W : World} {d : DS} {sv cv : Value} (h : Bx w W d sv cv) : Bx w ((W.setCell ⟨w.heap.size, 2, none⟩ (.slice none 0 0)).setCell ⟨w.heap.size, 4, none⟩ (.bool true)) { d with chs := [], down := true } sv (.slice none 0 0) := by
  have hf : Fr (fun j => j = w.heap.size) W ((W.setCell ⟨w.heap.size, 2, none⟩ (.slice none 0 0)).setCell ⟨w.heap.size, 4, none⟩ (.bool true)) := (fr_set W w.heap.size 2 _).trans (fr_set _ w.heap.size 4 _) (fun _ _ h => h) (fun _ _ h => h)
  have hl := h.lt
  obtain ⟨x0, x1, x2, x3, x4, hr⟩ := h.res
  exact ⟨h.below.trans (hf.below h.below.size fun j hj e => by omega), heap_setCell_same _ w.heap.size 4 _ _ _ (heap_setCell_same W w.heap.size 2 _ _ _ h.box), x0, x1, x2, x3, x4, (hf.block _ hl (by omega)).trans hr⟩

theorem doc_fin {w W : World} {B : Nat → Prop} {d d2 : DS} {sv cv sv2 cv2 : Value} (h : Bx w W d sv cv) (hd : DocN w W B d2 sv2 cv2) (a b c x e : Value) :
    Doc (five W (w.heap.size + 1) a b c x e) (fun j => B j ∨ w.heap.size ≤ j) d2 sv2 cv2 ∧ Below w.heap.size w (five W (w.heap.size + 1) a b c x e) :=
  ⟨Doc.mono (hd.five (.inr rfl) a b c x e) fun j _ hj => by
    rcases hj with hj | hj
    · exact .inl hj.1
    · exact .inr (by omega), h.below.trans ((fr_five W (w.heap.size + 1) a b c x e).below h.below.size fun j hj e => by omega)⟩

set_option maxHeartbeats 4000000 in
set_option maxRecDepth 100000 in
theorem rcut_any {w : World} {B : Nat → Prop} {d : DS} {sv cv : Value} (h : Doc w B d sv cv) (hsz : d.sz ≤ 600000) {kv : Value} {ks : List Bool} (hkv : RowV w (fun j => j < w.heap.size) kv (ks.map Value.bool)) :
    Calls Try.prog 34 #[docV d sv cv, kv] w fun e w' => ∃ sv' cv', e = .returned (docV (dcut d ks) sv' cv') ∧ Doc w' (fun j => B j ∨ w.heap.size ≤ j) (dcut d ks) sv' cv' ∧ Below w.heap.size w w' := by
  obtain ⟨⟨aos, caps, rfl⟩, aoc, capc, rfl⟩ := h.val
  obtain ⟨aok, capk, rfl, hkl, hkm, _⟩ := id hkv
  have hkl2 : (ks.map Value.bool).length = ks.length := List.length_map _
  have HKV : Hid (RowV w (fun j => j < w.heap.size) (.slice aok ks.length capk) (ks.map Value.bool)) := Lib.hid (by rw [← hkl2]; exact hkv)
  rw [hkl2] at hkl ⊢
  have HKL : Hid (ks.length ≤ 9223372036854775807) := Lib.hid (by simp only [maxLen] at hkm; omega)
  have HBX := Lib.hid (bx_new w d (.slice aos d.sure.length caps) (.slice aoc d.chs.length capc))
  have HDN : Hid (∀ W, Below w.heap.size w W → DocN w W B d (.slice aos d.sure.length caps) (.slice aoc d.chs.length capc)) := Lib.hid fun W hb => DocN.start h hb
  have HSZ := Lib.hid hsz
  have HCL : Hid (d.chs.length ≤ 600000) := Lib.hid (Nat.le_trans (Nat.le_add_left _ _) hsz)
  obtain ⟨zr, hzr⟩ : ∃ zr : Int, zr = (d.room : Int) := ⟨_, rfl⟩
  unfold docV
  rw [← hzr] at HBX ⊢
  obtain ⟨W2, hW2⟩ : ∃ W2, W2 = (w.alloc (.cells #[.int .i64 zr, .slice aos d.sure.length caps, .slice aoc d.chs.length capc, .int .i64 d.fuse, .bool d.down] 33)).alloc (.cells #[.int .i64 0, .slice none 0 0, .slice none 0 0, .int .i64 0, .bool false] 33) := ⟨_, rfl⟩
  rw [← hW2] at HBX
  have HW2 := Lib.hid hW2
  have HZR := Lib.hid hzr
  clear h hsz hkv hkl hkm hkl2 hzr hW2
  go_enter Try.func34, Try.ntmps34
  go_wp2_with fail
  rw [← HW2.out]
  go_loopw [5] (fun i wr => ∃ (k : Nat) (lv : Value), k ≤ d.chs.length ∧ k ≤ ks.length ∧ i = .int .i64 (k : Int) ∧ Bx w wr { d with sure := picked d.sure (d.chs.take k) ks } lv (.slice aoc d.chs.length capc) ∧ DocN w wr B { d with sure := picked d.sure (d.chs.take k) ks } lv (.slice aoc d.chs.length capc))
    (fun i _ => d.chs.length - (intOf i).toNat)
  case atStart => exact ⟨0, _, Nat.zero_le _, Nat.zero_le _, rfl, by
    have e : ({ d with sure := picked d.sure (d.chs.take 0) ks } : DS) = d := by cases ks <;> rfl
    rw [e]; exact HBX.out, by
    have e : ({ d with sure := picked d.sure (d.chs.take 0) ks } : DS) = d := by cases ks <;> rfl
    rw [e]; exact HDN.out _ HBX.out.below⟩
  case round =>
    obtain ⟨k, lv, hk, hk2, rfl, hbx, hdn⟩ := hrel
    obtain ⟨⟨lo, lc, rfl⟩, _⟩ := hdn.val
    have HDNR := Lib.hid hdn
    have HBXR := Lib.hid hbx
    obtain ⟨q0, q1, q2, q3, q4⟩ := hbx.c
    have qf := hbx.f
    have qg := hbx.g
    simp only [] at q0 q1 q2 q3 q4 lo lc
    by_cases hlt : k < d.chs.length
    · have hlti : (k : Int) < d.chs.length := by omega
      have HK := Lib.hid hlt
      by_cases hlt2 : k < ks.length
      · have hlti2 : (k : Int) < ks.length := by omega
        have HK2 := Lib.hid hlt2
        obtain ⟨c, hc⟩ : ∃ c, d.chs[k]? = some c := ⟨_, List.getElem?_eq_getElem hlt⟩
        obtain ⟨kb, hkb⟩ : ∃ kb, ks[k]? = some kb := ⟨_, List.getElem?_eq_getElem hlt2⟩
        have HPS := Lib.hid (picked_snoc (d.chs.take k) c d.sure ks)
        have hml : (d.chs.take k).length = k := by rw [List.length_take]; omega
        rw [hml, hkb, ← take_snoc hc] at HPS
        have hrow := (HKV.out.keep (kept_below hbx.below)).at (i := k) (by rw [List.length_map]; exact hlt2)
        obtain ⟨bk, offk, rfl, _, _, hcell⟩ := hrow
        have ek := hcell k (by rw [List.length_map]; exact hlt2)
        rw [List.getElem?_map, hkb] at ek
        change _ = some (Value.bool kb) at ek
        have hkn : c.kind ≤ 2 := hdn.kind c (List.mem_of_getElem? hc)
        have hpl : (picked d.sure (d.chs.take k) ks).length ≤ 900000 := Nat.le_trans (picked_length _ _ _) (by have := HSZ.out; unfold DS.sz at this; rw [hml]; omega)
        cases kb
        · have HSAME : Hid (picked d.sure (d.chs.take (k + 1)) ks = picked d.sure (d.chs.take k) ks) := Lib.hid (by rw [HPS.out]; rfl)
          clear hbx hdn hc hkb hml hcell hkn hpl
          go_wp2
          go_roundw
          case rel => exact ⟨k + 1, _, HK.out, HK2.out, (by first | exact inc_eq HK.out (Nat.le_trans HCL.out (by decide)) | rfl), by rw [HSAME.out]; exact HBXR.out, by rw [HSAME.out]; exact HDNR.out⟩
          case measure => first | exact inc_meas HK.out (Nat.le_trans HCL.out (by decide)) | (have := HK.out; simp [intOf]; omega)
        · have HNEXT : Hid (picked d.sure (d.chs.take (k + 1)) ks = capply (picked d.sure (d.chs.take k) ks) c) := Lib.hid (by rw [HPS.out]; rfl)
          obtain ⟨g, offc, rfl, hgl, e0, e1, e2, e3⟩ := hdn.at hc
          have hcall := rapply_any (w := wr.drew) (hdn.sure.keep ⟨Nat.le_refl _, fun _ _ _ => rfl⟩) hkn hpl
          obtain ⟨kind, name, to, text⟩ := c
          unfold chgV at hcall
          simp only [] at e0 e1 e2 e3 hcall
          obtain ⟨bn, hbn⟩ : ∃ s, Value.string s = nmV name := ⟨_, rfl⟩
          obtain ⟨bt, hbt⟩ : ∃ s, Value.string s = nmV to := ⟨_, rfl⟩
          obtain ⟨bx, hbx2⟩ : ∃ s, s = txt text := ⟨_, rfl⟩
          rw [← hbn] at e1 hcall
          rw [← hbt] at e2 hcall
          rw [← hbx2] at e3 hcall
          have HCALL := Lib.hid hcall
          have Q2 := Lib.hid q2
          have HGL := Lib.hid hgl
          have E0 := Lib.hid e0
          have E1 := Lib.hid e1
          have E2 := Lib.hid e2
          have E3 := Lib.hid e3
          clear hbx hdn hc hkb hml hcell hkn hpl hcall hbn hbt hbx2 hgl
          go_wp2_with fail
          go_region_with ((first
            | (go_at_call 58; refine HCALL.out.mono ?_
               rintro e w2 ⟨v2, rfl, ho, hb2⟩
               obtain ⟨o2, c2, rfl, _⟩ := ho.val
               have hbx2 := HBXR.out.old (W' := w2) ⟨hb2.os, hb2.tape, hb2.output, hb2.size, hb2.block⟩
               obtain ⟨_, z1, z2, _, _⟩ := hbx2.c
               have zf := hbx2.f
               have HBX2 := Lib.hid hbx2
               have HO2 := Lib.hid ho
               have HB2 := Lib.hid hb2
               clear ho hb2 hbx2)))
          all_goals
            obtain ⟨W4, hW4⟩ : ∃ W4, W4 = w2.setCell ⟨w.heap.size, 1, none⟩ (.slice o2 (capply (picked d.sure (d.chs.take k) ks) ⟨kind, name, to, text⟩).length c2) := ⟨_, rfl⟩
            have HBX4 : Hid (Bx w W4 { d with sure := picked d.sure (d.chs.take (k + 1)) ks } (.slice o2 (capply (picked d.sure (d.chs.take k) ks) ⟨kind, name, to, text⟩).length c2) (.slice (some ⟨g, offc, none⟩) d.chs.length capc)) := Lib.hid (by
              rw [hW4, HNEXT.out]
              exact HBX2.out.one _ _)
            have HDN4 : Hid (DocN w W4 B { d with sure := picked d.sure (d.chs.take (k + 1)) ks } (.slice o2 (capply (picked d.sure (d.chs.take k) ks) ⟨kind, name, to, text⟩).length c2) (.slice (some ⟨g, offc, none⟩) d.chs.length capc)) := Lib.hid (by
              have hk2 : Kept (fun j => (B j ∧ j < w.heap.size) ∨ w.heap.size + 1 < j) w2 W4 := by rw [hW4]; exact (fr_set w2 w.heap.size 1 _).kept _ fun j _ hj e => by omega
              have hl := HBXR.out.lt
              refine ⟨?_, (HDNR.out.chs.keep (w' := w2) (kept_new (show Below wr.heap.size wr w2 from ⟨HB2.out.os, HB2.out.tape, HB2.out.output, HB2.out.size, HB2.out.block⟩) _)).keep hk2, HDNR.out.kind⟩
              have h1 : FsAt w2 (fun j => (B j ∧ j < w.heap.size) ∨ w.heap.size + 1 < j) _ _ := HO2.out.mono fun j _ hj => by
                rcases hj with hj | hj
                · exact hj
                · exact .inr (Nat.lt_of_lt_of_le hl hj)
              show FsAt W4 _ _ (picked d.sure (d.chs.take (k + 1)) ks)
              rw [HNEXT.out]
              exact h1.keep hk2)
            rw [← hW4]
            clear hW4
            go_wp2
            go_roundw
            case rel => exact ⟨k + 1, _, HK.out, HK2.out, (by first | exact inc_eq HK.out (Nat.le_trans HCL.out (by decide)) | rfl), HBX4.out, HDN4.out⟩
            case measure => first | exact inc_meas HK.out (Nat.le_trans HCL.out (by decide)) | (have := HK.out; simp [intOf]; omega)
      · have HKE : Hid (k = ks.length) := Lib.hid (by omega)
        have hlt2' : ¬ (k : Int) < ks.length := by omega
        have HFIN : Hid (({ d with sure := picked d.sure (d.chs.take k) ks, chs := [], down := true } : DS) = dcut d ks) := Lib.hid (by unfold dcut; rw [HKE.out, picked_take])
        clear hbx hdn hlt2
        obtain ⟨x0, x1, x2, x3, x4, y0, y1, y2, y3, y4⟩ := HBXR.out.r
        go_wp2
        refine bodyPost_ret (v := docV (dcut d ks) (.slice lo (picked d.sure (d.chs.take k) ks).length lc) (.slice none 0 0)) (by rw [← HFIN.out]; simp [docV, results, Try.results34, go_sem, q0, q1, q2, q3, q4, y0, y1, y2, y3, y4]) rfl ?_
        have hB2 := HBXR.out.cut
        have hD2 : DocN w ((wr.setCell ⟨w.heap.size, 2, none⟩ (.slice none 0 0)).setCell ⟨w.heap.size, 4, none⟩ (.bool true)) B { d with sure := picked d.sure (d.chs.take k) ks, chs := [], down := true } (.slice lo (picked d.sure (d.chs.take k) ks).length lc) (.slice none 0 0) :=
          ⟨HDNR.out.sure.keep (((fr_set wr w.heap.size 2 _).trans (fr_set _ w.heap.size 4 _) (fun _ _ h => h) (fun _ _ h => h)).kept _ fun j _ hj e => by omega), recAt_nil _ _ _, fun c hc => (by cases hc)⟩
        obtain ⟨hdoc3, hbel3⟩ := doc_fin hB2 hD2 (.int .i64 (d.room : Int)) (.slice lo (picked d.sure (d.chs.take k) ks).length lc) (.slice none 0 0) (.int .i64 d.fuse) (.bool true)
        refine ⟨_, _, rfl, ?_, ?_⟩
        · rw [← HFIN.out]
          have hz := HZR.out
          subst hz
          exact ⟨hdoc3.sure, recAt_nil _ _ _, fun c hc => (by cases hc)⟩
        · have hz := HZR.out
          subst hz
          exact hbel3
    · have HKE : Hid (k = d.chs.length) := Lib.hid (by omega)
      have hlt' : ¬ (k : Int) < d.chs.length := by omega
      have HFIN : Hid (({ d with sure := picked d.sure (d.chs.take k) ks, chs := [], down := true } : DS) = dcut d ks) := Lib.hid (by unfold dcut; rw [HKE.out, List.take_length])
      clear hbx hdn hlt
      obtain ⟨x0, x1, x2, x3, x4, y0, y1, y2, y3, y4⟩ := HBXR.out.r
      go_wp2
      refine bodyPost_ret (v := docV (dcut d ks) (.slice lo (picked d.sure (d.chs.take k) ks).length lc) (.slice none 0 0)) (by rw [← HFIN.out]; simp [docV, results, Try.results34, go_sem, q0, q1, q2, q3, q4, y0, y1, y2, y3, y4]) rfl ?_
      have hB2 := HBXR.out.cut
      have hD2 : DocN w ((wr.setCell ⟨w.heap.size, 2, none⟩ (.slice none 0 0)).setCell ⟨w.heap.size, 4, none⟩ (.bool true)) B { d with sure := picked d.sure (d.chs.take k) ks, chs := [], down := true } (.slice lo (picked d.sure (d.chs.take k) ks).length lc) (.slice none 0 0) :=
        ⟨HDNR.out.sure.keep (((fr_set wr w.heap.size 2 _).trans (fr_set _ w.heap.size 4 _) (fun _ _ h => h) (fun _ _ h => h)).kept _ fun j _ hj e => by omega), recAt_nil _ _ _, fun c hc => (by cases hc)⟩
      obtain ⟨hdoc3, hbel3⟩ := doc_fin hB2 hD2 (.int .i64 (d.room : Int)) (.slice lo (picked d.sure (d.chs.take k) ks).length lc) (.slice none 0 0) (.int .i64 d.fuse) (.bool true)
      refine ⟨_, _, rfl, ?_, ?_⟩
      · rw [← HFIN.out]
        have hz := HZR.out
        subst hz
        exact ⟨hdoc3.sure, recAt_nil _ _ _, fun c hc => (by cases hc)⟩
      · have hz := HZR.out
        subst hz
        exact hbel3

end Go.Proofs.Ytjgdbhmogdaggaa
