/- The store's sweep and Open. -/
import Derived.Test.YtmjpckodcafjiaaGreatStB
import Derived.Test.YtmjpckodcafjiaaGreatDskX
namespace Go.Proofs.YtmjpckodcafjiaaGreat
open Go.RowKit

theorem Dk.names {w : World} {S : Nat → Prop} {p : Nat} {d : DS} (h : Dk w S p d) : ∀ x ∈ (dlist d).1, x.length ≤ maxLen := by
  obtain ⟨m1, m2, cv, h⟩ := h
  obtain ⟨es, hm, hz, _⟩ := h.shown
  unfold dlist
  split
  · simp
  · intro x hx
    have h1 : x ∈ d.shown.map (·.1) := List.mem_mergeSort.1 hx
    rw [← hz.names] at h1
    obtain ⟨f, hf, rfl⟩ := List.mem_map.1 h1
    exact hm.named f hf
theorem dlist_length (d : DS) : (dlist d).1.length ≤ d.sz := by
  unfold dlist
  split
  · simp
  · rw [srt_length, List.length_map]; exact lenShown d
theorem drop_atS {r : List Nm} {k : Nat} {x : Nm} (hx : r[k]? = some x) : r.drop k = x :: r.drop (k + 1) := by
  have hk := List.getElem?_eq_some_iff.1 hx
  rw [← hk.2, List.getElem_cons_drop]
theorem pre_til (x : Nm) : (decide (([til] : Nm).length ≤ x.length) && x.take ([til] : Nm).length == [til]) = (x.take 1 == [til]) := by
  cases x with
  | nil => rfl
  | cons a r => simp

/-- What sweep's loop keeps. -/
structure Swp (S : Nat → Prop) (p : Nat) (d : DS) (ns : List Nm) (v : Value) (b : Nat) (w wr : World) (k : Nat) (sm : Bool) (D : DS) : Prop where
  post : DPost S p w wr D
  eq : swp ns d false = swp (ns.drop k) D sm
  sz : D.sz ≤ d.sz + k
  nms : NmsO wr b v ns
  blk : ∀ g, v.ownBlock = some g → g < w.heap.size ∧ ¬ S g

set_option maxHeartbeats 4000000 in
set_option maxRecDepth 100000 in
theorem sweep_any {w : World} {S : Nat → Prop} {p : Nat} {d : DS} (h : Dk w S p d) (hsz : d.sz ≤ 500000) :
    Calls Tryz.prog 27 #[.pointer (some ⟨p, 0, none⟩)] w (SPost S p w (sopen d)) := by
  have HL := Lib.hid (listD_any h (by omega))
  have HNM := Lib.hid h.names
  have HNL : Hid ((dlist d).1.length ≤ 500000) := Lib.hid (Nat.le_trans (dlist_length d) hsz)
  obtain ⟨ns, hns⟩ : ∃ ns, ns = (dlist d).1 := ⟨_, rfl⟩
  obtain ⟨c, hc⟩ : ∃ c, c = (dlist d).2 := ⟨_, rfl⟩
  have hdl : dlist d = (ns, c) := by rw [hns, hc]
  rw [← hns] at HNM HNL
  rw [hdl] at HL
  have HSO : Hid (sopen d = if c ≠ 0 then (d, c) else swp ns d false) := Lib.hid (by unfold sopen; rw [hdl])
  have H := Lib.hid h
  have HSZ := Lib.hid hsz
  clear h hsz hns hc hdl
  go_enter Tryz.func27, Tryz.ntmps27
  go_wp2_with fail
  refine HL.out.mono ?_
  rintro e w1 ⟨v, rfl, ho, hb⟩
  obtain ⟨ao, cap, rfl⟩ := ho.val
  have HO := Lib.hid ho
  have HB := Lib.hid hb
  clear ho hb
  by_cases hz : c ≠ 0
  · have HE : Hid (sopen d = (d, c)) := Lib.hid (by rw [HSO.out, if_pos hz])
    simp only []
    rw [errV_pos hz]
    have HZ := Lib.hid hz
    clear hz
    go_wp2
    go_ret
    rw [HE.out]
    exact ⟨by rw [errV_pos HZ.out]; rfl, DPost.same (H.out.keep (kept_new HB.out S)) (fr_below HB.out S)⟩
  · have hz0 : c = 0 := by omega
    have HE : Hid (sopen d = swp ns d false) := Lib.hid (by rw [HSO.out, if_neg hz])
    simp only []
    rw [hz0, errV_zero]
    have HST : Hid (Swp S p d ns (.slice ao ns.length cap) w.heap.size w1 w1 0 false d) := Lib.hid ⟨DPost.same (H.out.keep (kept_new HB.out S)) (Fr.refl _ _), rfl, by omega, HO.out, fun g hg => ⟨(HO.out.lt hg).2, fun hS => absurd (H.out.lt hS) (Nat.not_lt.2 (HO.out.lt hg).1)⟩⟩
    clear hz hz0
    go_wp2
    go_loopw [5, 7, 8, 19] (fun sv _ _ i wr => ∃ (k : Nat) (sm : Bool) (D : DS), k ≤ ns.length ∧ i = .int .i64 (k : Int) ∧ sv = .bool sm ∧ Swp S p d ns (.slice ao ns.length cap) w.heap.size w1 wr k sm D)
      (fun _ _ _ i _ => ns.length - (intOf i).toNat)
    case atStart => exact ⟨0, false, d, Nat.zero_le _, rfl, rfl, HST.out⟩
    case round =>
      obtain ⟨k, sm, D, hk, rfl, rfl, hst⟩ := hrel
      have HS := Lib.hid hst
      by_cases hlt : k < ns.length
      · obtain ⟨x, hx⟩ : ∃ x, ns[k]? = some x := ⟨_, List.getElem?_eq_getElem hlt⟩
        obtain ⟨g, rfl, hgb, hgl, e0⟩ := hst.nms.at hx
        have hpf := fun W => hasPrefix_any x [til] W
        simp only [pre_til] at hpf
        have hdr : ns.drop k = x :: ns.drop (k + 1) := drop_atS hx
        have hxl := HNM.out x (List.mem_of_getElem? hx)
        obtain ⟨s, hs⟩ : ∃ s, Value.string s = nmV x := ⟨_, rfl⟩
        rw [← hs] at e0
        simp only [← hs] at hpf
        rw [show nmV [til] = Value.string ⟨#[126]⟩ from rfl] at hpf
        have HPF := Lib.hid hpf
        have HS1 := Lib.hid hs
        have HDR := Lib.hid hdr
        have HXL := Lib.hid hxl
        have hlti : (k : Int) < ns.length := by omega
        have HK := Lib.hid hlt
        clear hst hx hgb hgl hpf hs hdr hxl
        go_wp2_with fail
        refine (HPF.out _).mono ?_
        rintro e wr ⟨rfl, rfl⟩
        cases hp : (x.take 1 == [til])
        · have HN : Hid (Swp S p d ns (.slice (some ⟨g, 0, none⟩) ns.length cap) w.heap.size w1 wr (k + 1) sm D) := Lib.hid ⟨HS.out.post, by rw [HS.out.eq, HDR.out, swp, if_neg (by rw [hp]; decide)], by have := HS.out.sz; omega, HS.out.nms, HS.out.blk⟩
          clear hp
          go_wp2
          go_roundw
          case rel => exact ⟨k + 1, sm, D, HK.out, (by first | exact inc_eq HK.out (Nat.le_trans HNL.out (by decide)) | rfl), rfl, HN.out⟩
          case measure => first | exact inc_meas HK.out (Nat.le_trans HNL.out (by decide)) | (have := HK.out; simp [intOf]; omega)
        · have HSW : Hid (swp ns d false = if (dremove D x).2 = 0 then swp (ns.drop (k + 1)) (dremove D x).1 true else dremove D x) := Lib.hid (by rw [HS.out.eq, HDR.out, swp, if_pos hp])
          obtain ⟨S1, hd1, hf1, hs1, ht1⟩ := HS.out.post
          have hrm := removeD_any hd1 (by have := HS.out.sz; have := HSZ.out; have := HNL.out; omega) (n := x) (Nat.le_trans HXL.out (by simp [maxLen]))
          rw [← HS1.out] at hrm
          have HRM := Lib.hid hrm
          have HTR := Lib.hid (fun (w2 : World) (d2 : DS) (k : DPost S1 p wr w2 d2) => DPost.trans hf1 hs1 ht1 k)
          have HNS : Hid (¬ S1 g) := Lib.hid fun hS => by
            have h2 := HS.out.blk g rfl
            rcases ht1 g hS with h3 | h3
            · exact h2.2 h3
            · omega
          have HSZ2 : Hid ((dremove D x).1.sz ≤ d.sz + (k + 1)) := Lib.hid (by have := (opOk_remove D x).sz; have := HS.out.sz; omega)
          clear hp hd1 hf1 hs1 ht1 hrm
          go_wp2_with fail
          refine HRM.out.mono ?_
          rintro e w2 ⟨rfl, hp2⟩
          have HP2 := Lib.hid (HTR.out _ _ hp2)
          have HNM2 : Hid (NmsO w2 w.heap.size (.slice (some ⟨g, 0, none⟩) ns.length cap) ns) := Lib.hid (by
            obtain ⟨S2, _, hf2, _, _⟩ := hp2
            exact HS.out.nms.keep (K := fun j => ¬ S1 j) (hf2.kept _ fun j _ hj hS => hj hS) fun g' hg' => by cases hg'; exact HNS.out)
          clear hp2
          by_cases hz : (dremove D x).2 = 0
          · have HN : Hid (Swp S p d ns (.slice (some ⟨g, 0, none⟩) ns.length cap) w.heap.size w1 w2 (k + 1) true (dremove D x).1) := Lib.hid ⟨HP2.out, by rw [HSW.out, if_pos hz], HSZ2.out, HNM2.out, HS.out.blk⟩
            rw [hz, errV_zero]
            clear hz
            go_wp2
            go_roundw
            case rel => exact ⟨k + 1, true, _, HK.out, (by first | exact inc_eq HK.out (Nat.le_trans HNL.out (by decide)) | rfl), rfl, HN.out⟩
            case measure => first | exact inc_meas HK.out (Nat.le_trans HNL.out (by decide)) | (have := HK.out; simp [intOf]; omega)
          · have HE2 : Hid (sopen d = dremove D x) := Lib.hid (by rw [HE.out, HSW.out, if_neg hz])
            obtain ⟨c2, hc2⟩ : ∃ c2, c2 = (dremove D x).2 := ⟨_, rfl⟩
            rw [← hc2] at hz
            rw [← hc2, errV_pos hz]
            have HC2 := Lib.hid hc2
            have HZ2 := Lib.hid hz
            clear hc2 hz
            go_wp2
            go_ret
            rw [HE2.out]
            exact ⟨by rw [← HC2.out, errV_pos HZ2.out]; rfl, DPost.trans (fr_below HB.out S) (fun _ h => h) (fun _ h => .inl h) HP2.out⟩
      · have hlt' : ¬ (k : Int) < ns.length := by omega
        have HEQ : Hid (swp ns d false = if sm then dsync D else (D, 0)) := Lib.hid (by rw [hst.eq, List.drop_of_length_le (by omega), swp])
        clear hst
        cases sm
        · have HE2 : Hid (sopen d = (D, 0)) := Lib.hid (by rw [HE.out, HEQ.out]; rfl)
          go_wp2
          go_ret
          rw [HE2.out]
          exact ⟨rfl, DPost.trans (fr_below HB.out S) (fun _ h => h) (fun _ h => .inl h) HS.out.post⟩
        · have HE2 : Hid (sopen d = dsync D) := Lib.hid (by rw [HE.out, HEQ.out]; rfl)
          obtain ⟨S1, hd1, hf1, hs1, ht1⟩ := HS.out.post
          have HSY := Lib.hid (syncD_any hd1 (by have := HS.out.sz; have := HSZ.out; have := HNL.out; omega))
          have HTR := Lib.hid (fun (w2 : World) (d2 : DS) (k : DPost S1 p wr w2 d2) => DPost.trans hf1 hs1 ht1 k)
          clear hd1 hf1 hs1 ht1
          go_wp2_with fail
          refine HSY.out.mono ?_
          rintro e w2 ⟨rfl, hp2⟩
          have HP2 := Lib.hid (HTR.out _ _ hp2)
          clear hp2
          obtain ⟨er, her⟩ : ∃ er, er = errV (dsync D).2 := ⟨_, rfl⟩
          rw [← her]
          have HER := Lib.hid her
          clear her
          go_wp2
          go_ret
          rw [HE2.out]
          exact ⟨by rw [HER.out]; rfl, DPost.trans (fr_below HB.out S) (fun _ h => h) (fun _ h => .inl h) HP2.out⟩

/-- What Open answers. -/
def OpenPost (S : Nat → Prop) (p : Nat) (w : World) (r : DS × Nat) (e : Ending) (w' : World) : Prop :=
  (r.2 ≠ 0 ∧ e = .returned (.tuple #[.pointer none, errV r.2]) ∧ DPost S p w w' r.1) ∨
  (r.2 = 0 ∧ ∃ q w1, e = .returned (.tuple #[.pointer (some ⟨q, 0, none⟩), .nilIface]) ∧ DPost S p w w1 r.1 ∧ q = w1.heap.size ∧ Below w1.heap.size w1 w' ∧ AtS w' q p)

set_option maxHeartbeats 2000000 in
set_option maxRecDepth 100000 in
theorem open_store {w : World} {S : Nat → Prop} {p : Nat} {d : DS} (h : Dk w S p d) (hsz : d.sz ≤ 500000) :
    Calls Tryz.prog 10 #[.pointer (some ⟨p, 0, none⟩)] w (OpenPost S p w (sopen d)) := by
  have HSW := Lib.hid (sweep_any h hsz)
  obtain ⟨r, hr⟩ : ∃ r, r = sopen d := ⟨_, rfl⟩
  rw [← hr] at HSW ⊢
  clear h hsz hr
  go_enter Tryz.func10, Tryz.ntmps10
  go_wp2_with fail
  refine HSW.out.mono ?_
  rintro e w1 ⟨rfl, hp⟩
  have HP := Lib.hid hp
  clear hp
  by_cases hz : r.2 ≠ 0
  · rw [errV_pos hz]
    have HZ := Lib.hid hz
    clear hz
    go_wp2
    go_ret2
    exact .inl ⟨HZ.out, by rw [errV_pos HZ.out]; rfl, HP.out⟩
  · have hz0 : r.2 = 0 := by omega
    rw [hz0, errV_zero]
    have HZ := Lib.hid hz0
    clear hz hz0
    go_wp2
    go_ret2
    have hb : Below w1.heap.size w1 (w1.alloc (.cells #[.pointer (some ⟨p, 0, none⟩)] 77)) := (Below.refl _ _).alloc (Nat.le_refl _) _
    have hx : (w1.alloc (.cells #[.pointer (some ⟨p, 0, none⟩)] 77)).heap[w1.heap.size]? = some (.cells #[.pointer (some ⟨p, 0, none⟩)] 77 (0, 0)) := heap_alloc_new _ _
    exact .inr ⟨HZ.out, w1.heap.size, w1, rfl, HP.out, rfl, hb, by rw [cell_of_row _ _ 0 _ _ _ hx]; rfl, (Array.getElem?_eq_some_iff.1 hx).1⟩

end Go.Proofs.YtmjpckodcafjiaaGreat
