/- A unit's Copy; two maps of cells compared; Same. · Two units of the program compared. -/
import Derived.Test.YteknibaappcgmaaGreatDoorUjP
import Derived.Test.YteknibaappcgmaaGreatDoorUnP
import Derived.Test.YteknibaappcgmaaGreatDoorCgP
import Derived.Test.YteknibaappcgmaaGreatDoorCelL
import Derived.Shelf.SlMaps.Clone
import Derived.Deep.RegionHeld3
import Derived.Test.YteknibaappcgmaaGreatDoorUrP
namespace Go.Proofs.YteknibaappcgmaaGreatDoor
open Go.RowKit

theorem rise_sub {α : Type} : ∀ {l2 l1 : Im α}, IRise l1 → IRise l2 → (∀ f ∈ l1, f ∈ l2) → l1.Sublist l2
  | [], [], _, _, _ => .slnil
  | [], x :: _, _, _, h => by have := h x (by simp); cases this
  | _ :: _, [], _, _, _ => List.nil_sublist _
  | y :: r2, x :: r1, h1, h2, h => by
    have p1 := List.pairwise_cons.1 h1
    have p2 := List.pairwise_cons.1 h2
    rcases List.mem_cons.1 (h x (by simp)) with rfl | hx
    · refine .cons_cons _ (rise_sub p1.2 p2.2 fun f hf => ?_)
      rcases List.mem_cons.1 (h f (by simp [hf])) with rfl | h3
      · have := p1.1 f hf; omega
      · exact h3
    · have hyx := p2.1 x hx
      refine .cons _ (rise_sub h1 p2.2 fun f hf => ?_)
      rcases List.mem_cons.1 (h f hf) with rfl | h3
      · rcases List.mem_cons.1 hf with rfl | hf
        · omega
        · have := p1.1 f hf; omega
      · exact h3
theorem rise_eq {α : Type} {l1 l2 : Im α} (h1 : IRise l1) (h2 : IRise l2) (hl : l1.length = l2.length) (h : ∀ f ∈ l1, f ∈ l2) : l1 = l2 := (rise_sub h1 h2 h).eq_of_length hl

theorem MapU.lookOk {w : World} {b : Nat} {es : Im Value} (h : MapU w b es) {n : Int} (hn : I64 n) :
    (Instr.lookup 125 (.map (some b)) (.int .i64 n) true).run Tryz.prog w = .ok (.tuple #[(iget es n).getD (.agg #[.int .i64 0, .slice none 0 0]), .bool (iget es n).isSome]) w := by
  obtain ⟨v, ps, hr, hd⟩ := World.ownsMap.look_ok h keyed_int Tryz.underlying125 (MapU.zero w) (zd := .held (.agg #[.int .i64 0, .slice none 0 0])) (zp := []) rfl (key_i hn)
  rw [atKey_entI] at hd
  rw [hasU, ihas_get] at hr
  have e : v = (iget es n).getD (.agg #[.int .i64 0, .slice none 0 0]) := by cases hd; rfl
  rw [hr, e]

set_option maxHeartbeats 1000000 in
set_option maxRecDepth 100000 in
theorem cloneU_any {w : World} {b : Nat} {es : _} {clock : _} (hb : w.heap[b]? = some (.map es clock)) :
    Calls Tryz.prog 51 #[.map (some b)] w fun e w' => e = .returned (.map (some w.heap.size)) ∧ w' = w.alloc (.map es clock) := by
  have hq := fun w => run_eql_map_nil_sl (P := Tryz.prog) w 125 _ _ (some b) Tryz.underlying125
  go_enter Tryz.func51, Tryz.ntmps51
  go_wp2
  rw [run_callFunc_extern Tryz.func119 (by kernel_rfl) (by kernel_rfl) (by kernel_rfl) (e := Extern.MapsClone.clone) (by kernel_rfl), run_maps_clone_sl w 125 hb]
  simp only [Result.andThen]
  rw [Oper.upon_value]
  go_wp2
  rw [run_typeAssert_map_sl _ 125 20 _ _ _ Tryz.underlying125]
  simp only [Result.andThen]
  rw [Oper.upon_value]
  go_wp2
  go_ret
  exact ⟨rfl, rfl⟩

theorem MapU.block {w : World} {b : Nat} {es : Im Value} (h : MapU w b es) : ∃ e c, w.heap[b]? = some (.map e c) := by
  obtain ⟨e, c, hb, _⟩ := h
  exact ⟨e, c, hb⟩
theorem MapU.moved {w w' : World} {b b' : Nat} {es : Im Value} (h : MapU w b es) (hk : w'.heap[b']? = w.heap[b]?) : MapU w' b' es := by
  obtain ⟨e, c, hb, r⟩ := h
  exact ⟨e, c, hk.trans hb, r⟩

section
variable {w : World} {B : Nat → Prop} {u m : Nat} {U : US}
set_option maxHeartbeats 2000000 in
set_option maxRecDepth 100000 in
/-- A unit apart: its data is shared. -/
theorem ucopy_any (h : Un w B u m U) (hB : ∀ j, B j → j < w.heap.size) :
    Calls Tryz.prog 17 #[.pointer (some ⟨u, 0, none⟩)] w fun r w' => ∃ u' m', r = .returned (.pointer (some ⟨u', 0, none⟩)) ∧ Un w' B u' m' U ∧ w.heap.size ≤ u' ∧ w.heap.size ≤ m' ∧ Below w.heap.size w w' := by
  obtain ⟨c0, c1, c2, _⟩ := h.c
  obtain ⟨es, hm, hz⟩ := h.map
  obtain ⟨e, ck, hb⟩ := hm.block
  have HC : Hid (∀ W, W.heap = w.heap → Below w.heap.size w W → Calls Tryz.prog 51 #[.map (some m)] W fun e' w' => e' = .returned (.map (some w.heap.size)) ∧ w'.heap[w.heap.size]? = some (.map e ck) ∧ w'.heap.size = w.heap.size + 1 ∧ Below w.heap.size w w') := Lib.hid (fun W hW hb2 => by
    have h1 := cloneU_any (w := W) (b := m) (es := e) (clock := ck) (by rw [hW]; exact hb)
    refine h1.mono ?_
    rintro e' w' ⟨rfl, rfl⟩
    exact ⟨by rw [hW], by rw [← hW]; exact heap_alloc_new _ _, by rw [← hW]; simp, hb2.alloc (by rw [hW]; exact Nat.le_refl _) _⟩)
  obtain ⟨ep, hep⟩ : ∃ z, z = U.epoch := ⟨_, rfl⟩
  obtain ⟨lw, hlw⟩ : ∃ z, z = U.low := ⟨_, rfl⟩
  rw [← hep] at c0
  rw [← hlw] at c1
  have HU : Hid (∀ W, Below w.heap.size w W → W.cell? ⟨u, 0, none⟩ = some (.int .i64 ep) ∧ W.cell? ⟨u, 1, none⟩ = some (.int .i64 lw) ∧ W.cell? ⟨u, 2, none⟩ = some (.map (some m))) := Lib.hid fun W hW => ⟨(hW.cell (p := ⟨u, 0, none⟩) h.ult).trans c0, (hW.cell (p := ⟨u, 1, none⟩) h.ult).trans c1, (hW.cell (p := ⟨u, 2, none⟩) h.ult).trans c2⟩
  have HF : Hid (∀ W W2, W.heap[w.heap.size]? = some (.map e ck) → W.heap.size = w.heap.size + 1 → Below w.heap.size w W → W2 = W.alloc (.cells #[.int .i64 ep, .int .i64 lw, .map (some w.heap.size)] 127) → Un W2 B (w.heap.size + 1) w.heap.size U ∧ Below w.heap.size w W2) := Lib.hid fun W W2 hx hs hb1 hW => by
    have hbl : Below w.heap.size w W2 := by rw [hW]; exact hb1.alloc hb1.size _
    have hbm : W2.heap[w.heap.size]? = some (.map e ck) := by
      rw [hW, Below.heap_alloc _ _ _ (by omega)]
      exact hx
    refine ⟨⟨?_, ⟨es, hm.moved (hbm.trans hb.symm), hz.mono fun _ _ hr => hr.keep (kept_new hbl B)⟩, h.ok, by omega, fun hc => ?_, fun hc => ?_⟩, hbl⟩
    · rw [hW, hep, hlw, ← hs]
      exact heap_alloc_new _ _
    · have := hB _ hc; omega
    · have := hB _ hc; omega
  clear h hm hz hb hep hlw hB
  have HCD := Lib.hid (HC.out w.drew rfl ⟨rfl, rfl, rfl, Nat.le_refl _, fun _ _ => rfl⟩)
  go_enter Tryz.func17, Tryz.ntmps17
  go_wp2_with fail
  go_region_held3 (fun w' => w'.cell? ⟨u, 0, none⟩ = some (.int .i64 ep) ∧ w'.cell? ⟨u, 1, none⟩ = some (.int .i64 lw) ∧ w'.cell? ⟨u, 2, none⟩ = some (.map (some m))) (go_keep) (first
    | (go_at_call 51
       refine HCD.out.mono ?_
       rintro e' w' ⟨rfl, hx', hs', hb'⟩
       obtain ⟨c0, c1, c2⟩ := HU.out w' hb'
       have HX := Lib.hid hx'
       have HS := Lib.hid hs'
       have HB := Lib.hid hb'
       clear hx' hs' hb'))
  all_goals
    go_wp2
    go_ret
    obtain ⟨h1, h2⟩ := HF.out w' _ HX.out HS.out HB.out rfl
    refine ⟨w.heap.size + 1, w.heap.size, ?_, h1, Nat.le_succ _, Nat.le_refl _, h2⟩
    rw [HS.out]
    rfl

theorem same_list {l1 l2 : Im IC} (h1 : IRise l1) (h2 : IRise l2) (hl : l1.length = l2.length) (h : ∀ f ∈ l1, f ∈ l2) : decide (l1 = l2) = true := decide_eq_true (rise_eq h1 h2 hl h)
set_option maxHeartbeats 4000000 in
set_option maxRecDepth 100000 in
/-- Two maps of cells compared. -/
theorem equalU_any {w : World} {B B2 : Nat → Prop} {m m2 : Nat} {es es2 : Im Value} {l l2 : Im IC} (hm : MapU w m es) (hz : IZip (CellR w B) es l) (hr : IRise l) (h8 : ∀ f ∈ l, I64 f.1 ∧ ∀ y ∈ f.2.2, y < 256)
    (hm2 : MapU w m2 es2) (hz2 : IZip (CellR w B2) es2 l2) (hr2 : IRise l2) (h28 : ∀ f ∈ l2, ∀ y ∈ f.2.2, y < 256) :
    Calls Tryz.prog 66 #[.map (some m), .map (some m2), .func (.func 67) #[] #[]] w fun r w' => r = .returned (.bool (decide (l = l2))) ∧ Below w.heap.size w w' := by
  have hlen := fun ty => hm.len ty
  have hlen2 := fun ty => hm2.len ty
  have hl1 := hz.length
  have hl2 := hz2.length
  obtain ⟨n1, hn1⟩ : ∃ n, n = es.length := ⟨_, rfl⟩
  obtain ⟨n2, hn2⟩ : ∃ n, n = es2.length := ⟨_, rfl⟩
  rw [← hn1] at hl1
  rw [← hn2] at hl2
  simp only [← hn1] at hlen
  simp only [← hn2] at hlen2
  have HES : Hid (w.ownsMap Tryz.prog 3 hvU m n1 (.map (es.map entI))) := Lib.hid (by rw [hn1]; exact hm)
  have HM2 := Lib.hid hm2
  have HZ := Lib.hid hz
  have HZ2 := Lib.hid hz2
  have HR := Lib.hid hr
  have HR2 := Lib.hid hr2
  have H8 := Lib.hid h8
  have H28 := Lib.hid h28
  have HN1 := Lib.hid hn1
  have HL1 := Lib.hid hl1
  have HL2 := Lib.hid hl2
  clear hm hz hr h8 hm2 hz2 hr2 h28 hl1 hl2 hn1 hn2
  by_cases hne : n1 = n2
  rotate_left
  · have hni : ¬ (n1 : Int) = (n2 : Int) := by omega
    have HD : Hid (decide (l = l2) = false) := Lib.hid (decide_eq_false fun e => hne (by rw [HL1.out, HL2.out, e]))
    clear hne
    go_enter Tryz.func66, Tryz.ntmps66
    go_wp2
    go_ret
    exact ⟨by rw [HD.out]; rfl, Below.refl _ _⟩
  have HLL : Hid (l.length = l2.length) := Lib.hid (by rw [← HL1.out, ← HL2.out, hne])
  subst hne
  go_enter Tryz.func66, Tryz.ntmps66
  go_wp2_with (at_range; go_must (refine wpList_range_own _ rfl _ 125 rfl 3 79 keyed_int Tryz.underlying125 hvU m n1 _ rfl HES.out ?_))
  intro w7 hrg7 hg7 hs7
  try go_frame
  have hb7 : Below w.heap.size w w7 := ⟨hg7.os, hg7.tape, hg7.output, hg7.size, fun j hj => hg7.block j hj (by simp)⟩
  obtain ⟨r, hrr⟩ : ∃ r, r = w.heap.size := ⟨_, rfl⟩
  rw [← hrr] at hrg7
  have HR7 := Lib.hid hrg7
  have HB7 := Lib.hid hb7
  have HRE := Lib.hid hrr
  clear hrg7 hg7 hs7 hb7 hrr HES hlen hlen2
  rw [← HRE.out]
  go_wp2
  go_loopw [] (fun wz => ∃ (left : Lit → Bool) (cnt : Nat), wz.ranges Tryz.prog 3 hvU m r n1 (.map (es.map entI)) left cnt ∧ Below w.heap.size w wz ∧ ∀ f ∈ l, left (.int .i64 f.1) = true ∨ f ∈ l2)
    (fun wz => wz.rangeLeft m r)
  case atStart =>
    refine ⟨_, _, HR7.out, HB7.out, fun f hf => .inl ?_⟩
    rw [hasU, ihas_get]
    rcases HZ.out.get f.1 with ⟨_, h2⟩ | ⟨a, b, h1, _, _⟩
    · rw [iget_mem HR.out hf] at h2; cases h2
    · rw [h1]; rfl
  case round =>
    obtain ⟨left, cnt, hrg, hbz, hall⟩ := hrel
    have HBZ := Lib.hid hbz
    have HRG := Lib.hid hrg
    have HA := Lib.hid hall
    clear hbz hall
    go_wp2_with (at_next; go_must (refine wpList_nextU _ rfl _ rfl m r n1 es left cnt rfl hrg ?_ ?_))
    · intro _ hl0
      have HE : Hid (decide (l = l2) = true) := Lib.hid (same_list HR.out HR2.out HLL.out fun f hf => by
        rcases HA.out f hf with h | h
        · rw [hl0] at h; cases h
        · exact h)
      clear hl0 hrg
      go_wp2
      go_ret
      exact ⟨by rw [HE.out]; rfl, HBZ.out⟩
    · intro x c w1 cnt1 hx hlx hget hrg1 hlt hg1 hs1 hen
      have hb1 : Below w.heap.size w w1 := HBZ.out.grown hg1 HBZ.out.size (fun j hj => by cases hj; rw [HRE.out]; exact Nat.le_refl _)
      obtain ⟨cc, hmem, hcr⟩ : ∃ cc, (x, cc) ∈ l ∧ CellR w B c cc := by
        rcases HZ.out.get x with ⟨h1, _⟩ | ⟨a, b, h1, h2, h3⟩
        · rw [hget] at h1; cases h1
        · rw [hget] at h1
          cases h1
          exact ⟨b, iget_some h2, h3⟩
      obtain ⟨dv, rfl, hat⟩ := hcr
      obtain ⟨ao, cap, rfl, _, _, _⟩ := hat.reads.val
      obtain ⟨dv2, hv2, hat2⟩ := zip_cell HZ2.out x
      obtain ⟨ao2, cap2, rfl, _, _, _⟩ := hat2.reads.val
      have hlk : ∀ W, Below w.heap.size w W → (Instr.lookup 125 (.map (some m2)) (.int .i64 x) true).run Tryz.prog W = .ok (.tuple #[(.agg #[.int .i64 ((iget l2 x).getD (0, [])).1, .slice ao2 ((iget l2 x).getD (0, [])).2.length cap2]), .bool (iget l2 x).isSome]) W := fun W hW => by
        have := (HM2.out.keep (hW.block _ HM2.out.lt)).lookOk hx
        rw [hv2] at this
        rw [this]
        rcases HZ2.out.get x with ⟨h1, h2⟩ | ⟨a, b, h1, h2, _⟩
        · rw [h1, h2]; rfl
        · rw [h1, h2]; rfl
      have H82 : Hid (∀ y ∈ ((iget l2 x).getD (0, [])).2, y < 256) := Lib.hid (by
        cases hg : iget l2 x with
        | none => intro y hy; cases hy
        | some b => exact H28.out _ (iget_some hg))
      have HOUT : Hid (∀ b : Bool, b = ((iget l2 x).isSome && sameC cc.1 cc.2 ((iget l2 x).getD (0, [])).1 ((iget l2 x).getD (0, [])).2) → if b = true then (x, cc) ∈ l2 else decide (l = l2) = false) := Lib.hid fun b hb => by
        have hin : b = true ↔ (x, cc) ∈ l2 := by
          rw [hb, Bool.and_eq_true, same_iff]
          constructor
          · rintro ⟨h1, h2, h3⟩
            obtain ⟨c2, hc2⟩ := Option.isSome_iff_exists.1 h1
            rw [hc2] at h2 h3
            have := iget_some hc2
            rwa [show cc = c2 from Prod.ext h2 h3]
          · intro h
            rw [iget_mem HR2.out h]
            exact ⟨rfl, rfl, rfl⟩
        split
        · rename_i h; exact hin.1 h
        · rename_i h; exact decide_eq_false fun e => h (hin.2 (by rw [← e]; exact hmem))
      have HAT := Lib.hid hat
      have HAT2 := Lib.hid hat2
      have HC8 : Hid (∀ y ∈ cc.2, y < 256) := Lib.hid (H8.out _ hmem).2
      have HBB : Hid (∀ j, j < w.heap.size → True) := Lib.hid fun _ _ => trivial
      have HCALL : Hid (∀ W, Below w.heap.size w W → Calls Tryz.prog 67 #[.agg #[.int .i64 cc.1, .slice ao cc.2.length cap], .agg #[.int .i64 ((iget l2 x).getD (0, [])).1, .slice ao2 ((iget l2 x).getD (0, [])).2.length cap2]] W fun e w' => e = .returned (.bool (sameC cc.1 cc.2 ((iget l2 x).getD (0, [])).1 ((iget l2 x).getD (0, [])).2)) ∧ Below W.heap.size W w') := Lib.hid fun W hW =>
        same_any _ _ _ _ _ _ W (HAT.out.keep (kept_new hW B)).reads (HAT2.out.keep (kept_new hW B2)).reads HC8.out H82.out
      obtain ⟨kc, dc⟩ := cc
      obtain ⟨⟨k2, d2⟩, hcc2⟩ : ∃ c2, c2 = (iget l2 x).getD (0, []) := ⟨_, rfl⟩
      rw [← hcc2] at HOUT HCALL
      simp only [← hcc2] at hlk
      obtain ⟨sm, hsm⟩ : ∃ b, b = sameC kc dc k2 d2 := ⟨_, rfl⟩
      simp only [← hsm] at HOUT HCALL
      obtain ⟨ok, hok⟩ : ∃ b, b = (iget l2 x).isSome := ⟨_, rfl⟩
      rw [← hok] at HOUT
      simp only [← hok] at hlk
      generalize dc.length = nc at *
      generalize d2.length = nd at *
      have HB1 := Lib.hid hb1
      have HRG1 := Lib.hid hrg1
      have HCNT := Lib.hid hlt
      have HLK := Lib.hid hlk
      obtain ⟨W2, hW2⟩ : ∃ W2, W2 = w1.alloc (.cells #[.int .i64 kc, .slice ao nc cap] 79) := ⟨_, rfl⟩
      have hb2 : Below w.heap.size w W2 := by rw [hW2]; exact hb1.alloc hb1.size _
      have hx2 : W2.heap[w1.heap.size]? = some (.cells #[.int .i64 kc, .slice ao nc cap] 79 (0, 0)) := by rw [hW2]; exact heap_alloc_new _ _
      have q := hlk W2 hb2
      rw [hW2] at q
      obtain ⟨W3, hW3⟩ : ∃ W3, W3 = W2.alloc (.cells #[.int .i64 k2, .slice ao2 nd cap2] 79) := ⟨_, rfl⟩
      have hb3 : Below w.heap.size w W3 := by rw [hW3]; exact hb2.alloc hb2.size _
      have HB3 := Lib.hid hb3
      have HRG3 : Hid (W3.ranges Tryz.prog 3 hvU m r n1 (.map (es.map entI)) (fun z => left z && !z.sameKey (.int .i64 x)) cnt1) := Lib.hid (hrg1.kept (below_grown2 (by rw [hW3, hW2]; exact ((Below.refl _ _).alloc (Nat.le_refl _) _).alloc (by simp) _) none) (by simp) (by simp))
      have HW3 := Lib.hid hW3
      have HW2 := Lib.hid hW2
      have HM := Lib.hid hmem
      rw [hW2] at hx2
      dsimp only
      clear hx hlx hget hrg1 hlt hg1 hs1 hmem hat hat2 hcc2 hsm hok hv2 hrg hb1 hlk hb2 hb3 hW2 hW3
      cases ok
      · have HF : Hid (decide (l = l2) = false) := Lib.hid (by have := HOUT.out false rfl; rwa [if_neg (by decide)] at this)
        go_wp2
        rw [← HW2.out, ← HW3.out]
        go_ret
        exact ⟨by rw [HF.out]; rfl, HB3.out⟩
      · go_wp2_with fail
        rw [← HW2.out, ← HW3.out]
        refine (HCALL.out W3 HB3.out).mono ?_
        rintro e w4 ⟨rfl, hb4⟩
        have HB4 := Lib.hid (HB3.out.trans (hb4.mono HB3.out.size))
        have HRG4 := Lib.hid (HRG3.out.kept (below_grown2 hb4 none) (by simp) (by simp))
        clear hb4
        cases sm
        · have HF : Hid (decide (l = l2) = false) := Lib.hid (by have := HOUT.out false rfl; rwa [if_neg (by decide)] at this)
          go_wp2
          go_ret
          exact ⟨by rw [HF.out]; rfl, HB4.out⟩
        · have HIN : Hid ((x, kc, dc) ∈ l2) := Lib.hid (by have := HOUT.out true rfl; rwa [if_pos rfl] at this)
          go_wp2
          go_roundw
          case rel =>
            refine ⟨_, cnt1, HRG4.out, HB4.out, fun f hf => ?_⟩
            by_cases hfx : f.1 = x
            · right
              have h1 := iget_mem HR.out hf
              rw [hfx, iget_mem HR.out HM.out] at h1
              have h2 : f = (x, kc, dc) := Prod.ext hfx (Option.some.inj h1).symm
              rw [h2]; exact HIN.out
            · rcases HA.out f hf with h | h
              · left
                have e : (f.1 == x) = false := beq_eq_false_iff_ne.2 hfx
                simp only [h, same_i, e, Bool.not_false, Bool.and_true]
              · exact .inr h
          case measure => rw [HRG4.out.left_eq, HRG.out.left_eq]; exact HCNT.out
end
end Go.Proofs.YteknibaappcgmaaGreatDoor

namespace Go.Proofs.YteknibaappcgmaaGreatDoor
open Go.RowKit

section
variable {w : World} {B B2 : Nat → Prop} {u m u2 m2 : Nat} {U M : US}
set_option maxHeartbeats 4000000 in
set_option maxRecDepth 100000 in
theorem usame_any (h : Un w B u m U) (h2 : Un w B2 u2 m2 M) :
    Calls Tryz.prog 26 #[.pointer (some ⟨u, 0, none⟩), .pointer (some ⟨u2, 0, none⟩)] w fun r w' => r = .returned (.bool (sameUS U M)) ∧ Below w.heap.size w w' := by
  have HU : Hid (∀ W, Below w.heap.size w W → W.cell? ⟨u, 0, none⟩ = some (.int .i64 U.epoch) ∧ W.cell? ⟨u, 1, none⟩ = some (.int .i64 U.low) ∧ W.cell? ⟨u, 2, none⟩ = some (.map (some m)) ∧ W.cell? ⟨u2, 0, none⟩ = some (.int .i64 M.epoch) ∧ W.cell? ⟨u2, 1, none⟩ = some (.int .i64 M.low) ∧ W.cell? ⟨u2, 2, none⟩ = some (.map (some m2))) := Lib.hid fun W hW =>
    ⟨(h.old hW).c.1, (h.old hW).c.2.1, (h.old hW).c.2.2.1, (h2.old hW).c.1, (h2.old hW).c.2.1, (h2.old hW).c.2.2.1⟩
  obtain ⟨es, hm, hz⟩ := h.map
  obtain ⟨es2, hm2, hz2⟩ := h2.map
  have HE : Hid (∀ W, Below w.heap.size w W → Calls Tryz.prog 66 #[.map (some m), .map (some m2), .func (.func 67) #[] #[]] W fun r w' => r = .returned (.bool (decide (U.cells = M.cells))) ∧ Below W.heap.size W w') := Lib.hid fun W hW =>
    equalU_any (hm.keep (hW.block m hm.lt)) (hz.mono fun _ _ hr => hr.keep (kept_new hW B)) h.ok.rise (fun f hf => ⟨by have := h.ok.at' f hf; have := h.ok.low; exact ⟨by omega, by omega⟩, (h.ok.at' f hf).2.2.2.2⟩)
      (hm2.keep (hW.block m2 hm2.lt)) (hz2.mono fun _ _ hr => hr.keep (kept_new hW B2)) h2.ok.rise fun f hf => (h2.ok.at' f hf).2.2.2.2
  have hbb : sameUS U M = (decide (U.epoch = M.epoch) && (decide (U.low = M.low) && decide (U.cells = M.cells))) := rfl
  generalize sameUS U M = bb at hbb ⊢
  generalize decide (U.cells = M.cells) = bc at hbb HE
  generalize U.epoch = ep at *
  generalize M.epoch = ep2 at *
  generalize U.low = lw at *
  generalize M.low = lw2 at *
  obtain ⟨c0, c1, c2, d0, d1, d2⟩ := HU.out w (Below.refl _ _)
  have HBB := Lib.hid hbb
  have HWD : Hid (∀ n, Below w.heap.size w (w.drewN n)) := Lib.hid fun n => ⟨rfl, rfl, rfl, Nat.le_refl _, fun _ _ => rfl⟩
  have HED := Lib.hid (HE.out w.drew ⟨rfl, rfl, rfl, Nat.le_refl _, fun _ _ => rfl⟩)
  clear h h2 hm hz hm2 hz2 hbb HE
  by_cases h1 : ep = ep2
  rotate_left
  · have e1 : decide (ep = ep2) = false := decide_eq_false h1
    have e2 : (ep == ep2) = false := by simpa using h1
    obtain rfl : bb = false := by rw [HBB.out, e1, Bool.false_and]
    clear h1
    go_enter Tryz.func26, Tryz.ntmps26
    go_wp2_with fail
    go_quiet (fail)
    go_wp2
    go_ret
    exact ⟨rfl, HWD.out _⟩
  subst h1
  by_cases h1 : lw = lw2
  rotate_left
  · have e1 : decide (lw = lw2) = false := decide_eq_false h1
    have e2 : (lw == lw2) = false := by simpa using h1
    obtain rfl : bb = false := by rw [HBB.out, e1, Bool.false_and, Bool.and_false]
    clear h1
    go_enter Tryz.func26, Tryz.ntmps26
    go_wp2_with fail
    go_quiet (fail)
    go_wp2
    go_ret
    exact ⟨rfl, HWD.out _⟩
  subst h1
  obtain rfl : bb = bc := by rw [HBB.out]; simp
  go_enter Tryz.func26, Tryz.ntmps26
  go_wp2_with fail
  go_region_held3 (fun w' => w'.cell? ⟨u, 0, none⟩ = some (.int .i64 ep) ∧ w'.cell? ⟨u, 1, none⟩ = some (.int .i64 lw) ∧ w'.cell? ⟨u, 2, none⟩ = some (.map (some m)) ∧ w'.cell? ⟨u2, 0, none⟩ = some (.int .i64 ep) ∧ w'.cell? ⟨u2, 1, none⟩ = some (.int .i64 lw) ∧ w'.cell? ⟨u2, 2, none⟩ = some (.map (some m2))) (go_keep) (first
    | (go_at_call 66
       refine HED.out.mono ?_
       rintro r w' ⟨rfl, hb'⟩
       have hb2 : Below w.heap.size w w' := ⟨hb'.os, hb'.tape, hb'.output, hb'.size, hb'.block⟩
       obtain ⟨c0, c1, c2, d0, d1, d2⟩ := HU.out w' hb2
       have HB := Lib.hid hb2
       clear hb' hb2))
  all_goals
    go_wp2
    go_ret
    exact ⟨rfl, HB.out⟩
end
end Go.Proofs.YteknibaappcgmaaGreatDoor
