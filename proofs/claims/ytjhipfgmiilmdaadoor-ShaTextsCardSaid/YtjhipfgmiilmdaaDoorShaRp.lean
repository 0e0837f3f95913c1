/- The document's own Parse. -/
import Derived.Test.YtjhipfgmiilmdaaDoorShaJ
import Derived.Test.YtjhipfgmiilmdaaDoorShaL
namespace Go.Proofs.YtjhipfgmiilmdaaDoor
open Go.RowKit

/-- The bytes behind i signs. -/
def rdn (s : ByteArray) (i : Nat) : List Nat := (List.range 32).map fun j => if 2 * j + 1 < i then dgt s j else if 2 * j < i then hv (chr s (2 * j)) else 0
theorem rdn_len (s : ByteArray) (i : Nat) : (rdn s i).length = 32 := by simp [rdn]
theorem rdn_zero (s : ByteArray) : rdn s 0 = List.replicate 32 0 := by simp [rdn]; rfl
theorem rdn_all (s : ByteArray) : rdn s 64 = rwn (dgt s) 32 := by
  unfold rdn rwn
  refine List.map_congr_left fun j hj => ?_
  have := List.mem_range.1 hj
  rw [if_pos (by omega), if_pos (by omega)]
theorem rdn_at (s : ByteArray) (i j : Nat) (h : j < 32) : (rdn s i).getD j 0 = if 2 * j + 1 < i then dgt s j else if 2 * j < i then hv (chr s (2 * j)) else 0 := by
  simp [rdn, List.getD, h]
theorem rdn_half (s : ByteArray) (i : Nat) (h : i < 64) (hg : ∀ j, j < i → hv (chr s j) < 16) : (rdn s i).getD (i / 2) 0 < 16 := by
  rw [rdn_at s i _ (by omega), if_neg (by omega)]
  split
  · exact hg _ (by omega)
  · decide
theorem rdn_set (s : ByteArray) (i : Nat) (_ : i < 64) : (rdn s i).set (i / 2) ((rdn s i).getD (i / 2) 0 * 16 + hv (chr s i)) = rdn s (i + 1) := by
  apply List.ext_getElem?
  intro j
  by_cases hj : j < 32
  · rw [List.getElem?_set, rdn_len]
    by_cases he : i / 2 = j
    · subst he
      rw [if_pos rfl, if_pos (by omega), rdn_at s i _ hj, if_neg (by omega)]
      simp only [rdn, List.getElem?_map, List.getElem?_range hj, Option.map_some, Option.some.injEq]
      by_cases hp : i % 2 = 0
      · rw [if_neg (by omega), if_neg (by omega), if_pos (by omega), show 2 * (i / 2) = i by omega]
        omega
      · rw [if_pos (by omega), if_pos (by omega)]
        unfold dgt
        rw [show 2 * (i / 2) + 1 = i by omega]
    · rw [if_neg he]
      simp only [rdn, List.getElem?_map, List.getElem?_range hj, Option.map_some, Option.some.injEq]
      by_cases h1 : 2 * j + 1 < i
      · rw [if_pos h1, if_pos (by omega)]
      · rw [if_neg h1, if_neg (show ¬ 2 * j < i by omega), if_neg (by omega), if_neg (by omega)]
  · rw [List.getElem?_eq_none (by rw [List.length_set, rdn_len]; omega), List.getElem?_eq_none (by rw [rdn_len]; omega)]

theorem res_newR (w : World) (t : TypeId) : (w.alloc (.cells zeros32l t)).heap[w.heap.size]? = some (.cells zeros32l t (0, 0)) ∧ (w.alloc (.cells zeros32l t)).heap.size = w.heap.size + 1 ∧ Below w.heap.size w (w.alloc (.cells zeros32l t)) :=
  ⟨heap_alloc_new _ _, by simp, (Below.refl _ _).alloc (Nat.le_refl _) _⟩
theorem Pd.zero {w wr : World} {t : TypeId} {l : List Nat} (h : Pd w wr t l) : Pd w (wr.setRow (w.heap.size + 1) zeros32l) t (List.replicate 32 0) :=
  ⟨h.below.trans ⟨rfl, rfl, rfl, by simp [World.setRow], fun k hk => setRow_other _ _ k _ (by omega)⟩, by have := h.size; simpa [World.setRow] using this, by simp, (setRow_other _ _ _ _ (by omega)).trans h.res, setRow_heap _ _ _ _ _ _ h.row⟩

set_option maxHeartbeats 4000000 in
set_option maxRecDepth 100000 in
theorem refParse_any (s : ByteArray) (w : World) :
    Calls Tryd.prog 22 #[.string s] w fun e w' => ((OkS s ∧ e = .returned (.tuple #[.agg (vals .u8 (rwn (dgt s) 32)).toArray, .int .i64 0])) ∨ (¬ OkS s ∧ e = .returned (.tuple #[.agg zeros32l, .int .i64 2]))) ∧ Below w.heap.size w w' := by
  have hpn := Pd.new w 28
  have hpz := hpn.zero
  have hrow : ((w.alloc (.cells zeros32l 28)).alloc (.cells zeros32l 28)).heap[w.heap.size + 1]? = some (.cells zeros32l 28 (0, 0)) := by rw [← zero_vals]; exact hpn.row
  have hzs : (Tryd.prog.info? 28).map (·.size) = some zeros32l.size := by kernel_rfl
  have HPZ := Lib.hid hpz
  have HZS := Lib.hid hzs
  unfold zeros32l at hrow
  have HROW := Lib.hid hrow
  clear hpn hzs hpz hrow
  go_enter Tryd.func22, Tryd.ntmps22
  by_cases h64 : s.size = 64
  · have h64i : (s.size : Int) = 64 := by omega
    go_wp2_with ((with_reducible show wpList _ _ _ (Oper.mk none (Op.store 28 _ _) _ _ _ _ :: _) _ _); go_must (refine wpList_store_row rfl 28 (.tmp 4) (.tmp 7) rfl (w.heap.size + 1) zeros32l rfl rfl _ _ HROW.out HZS.out rfl (by kernel_rfl) ?_))
    go_loopw [5] (fun iv wr => ∃ i : Nat, i ≤ 64 ∧ iv = .int .i64 (i : Int) ∧ Pd w wr 28 (rdn s i) ∧ ∀ j, j < i → hv (chr s j) < 16) (fun iv _ => 64 - (intOf iv).toNat)
    case atStart => exact ⟨0, Nat.zero_le _, rfl, by rw [rdn_zero]; exact HPZ.out, fun j hj => by omega⟩
    case round =>
      obtain ⟨i, hi, rfl, hd, hg⟩ := hrel
      have HD := Lib.hid hd
      have HG := Lib.hid hg
      clear hd hg HPZ HROW
      by_cases hlt : i < 64
      · have hlti : (i : Int) < 64 := by omega
        have hc := fun w => run_chr s i (by omega) w
        have hb := chr_lt s i
        have hcell := HD.out.cell (i / 2) (by omega)
        have hx := rdn_half s i hlt HG.out
        have HST : Hid ((rdn s i).set (i / 2) ((rdn s i).getD (i / 2) 0 * 16 + hv (chr s i)) = rdn s (i + 1)) := Lib.hid (rdn_set s i hlt)
        have HC : Hid (hv (chr s i) < 16 → ∀ j, j < i + 1 → hv (chr s j) < 16) := Lib.hid (fun h j hj => by
          by_cases hje : j = i
          · rw [hje]; exact h
          · exact HG.out j (by omega))
        have HNK : Hid (¬ hv (chr s i) < 16 → ¬ OkS s) := Lib.hid (fun hn hk => hn (hk.2 _ hlt))
        generalize hxe : (rdn s i).getD (i / 2) 0 = x at hcell hx HST
        generalize chr s i = c at hc hb HST HC HNK
        have hjb : i / 2 < 32 := by omega
        have hsz1 : ∀ w, (sizeOf 5).run Tryd.prog w = .ok 1 w := fun w => by kernel_rfl
        clear hxe
        by_cases q1 : 48 ≤ c ∧ c ≤ 57
        · have hy : (c : Int) - 48 = ((hv c : Nat) : Int) := by unfold hv; rw [if_pos q1]; omega
          have g1 : hv c < 16 := by unfold hv; rw [if_pos q1]; omega
          have HC := Lib.hid (HC.out g1)
          have q1a : (48 : Int) ≤ (c : Int) := by omega
          have q1b : (c : Int) ≤ 57 := by omega
          clear HNK
          generalize hv c = y at hy g1 HST HC
          go_wp2_with ((with_reducible show wpList _ _ _ (Oper.mk none (Op.store 5 _ _) _ _ _ _ :: _) _ _); go_must (refine wpList_store_int rfl 5 (.tmp 55) (.tmp 54) rfl hsz1 (w.heap.size + 1) (i / 2) .u8 _ rfl rfl ⟨_, HD.out.cell (i / 2) hjb⟩ (HD.out.free (i / 2)) ?_; have HD3 := Lib.hid (HD.out.set (i / 2) (x * 16 + y) (show (x : Int) * 16 + (y : Int) = ((x * 16 + y : Nat) : Int) by omega)); generalize World.setCell _ _ _ = wr1 at HD3 ⊢))
          go_roundw
          · have h3 := HD3.out
            rw [HST.out] at h3
            exact ⟨i + 1, by omega, by go_num, h3, HC.out⟩
          · simp [intOf]; omega
        · by_cases q2 : 97 ≤ c ∧ c ≤ 102
          · have hy : (c : Int) - 97 + 10 = ((hv c : Nat) : Int) := by unfold hv; rw [if_neg q1, if_pos q2]; omega
            have g1 : hv c < 16 := by unfold hv; rw [if_neg q1, if_pos q2]; omega
            have HC := Lib.hid (HC.out g1)
            have q1a : (48 : Int) ≤ (c : Int) := by omega
            have q1b : ¬ (c : Int) ≤ 57 := by omega
            have q2a : (97 : Int) ≤ (c : Int) := by omega
            have q2b : (c : Int) ≤ 102 := by omega
            clear HNK
            generalize hv c = y at hy g1 HST HC
            go_wp2_with ((with_reducible show wpList _ _ _ (Oper.mk none (Op.store 5 _ _) _ _ _ _ :: _) _ _); go_must (refine wpList_store_int rfl 5 (.tmp 55) (.tmp 54) rfl hsz1 (w.heap.size + 1) (i / 2) .u8 _ rfl rfl ⟨_, HD.out.cell (i / 2) hjb⟩ (HD.out.free (i / 2)) ?_; have HD3 := Lib.hid (HD.out.set (i / 2) (x * 16 + y) (show (x : Int) * 16 + (y : Int) = ((x * 16 + y : Nat) : Int) by omega)); generalize World.setCell _ _ _ = wr1 at HD3 ⊢))
            go_roundw
            · have h3 := HD3.out
              rw [HST.out] at h3
              exact ⟨i + 1, by omega, by go_num, h3, HC.out⟩
            · simp [intOf]; omega
          · by_cases k1 : 48 ≤ (c : Int)
            · have k2 : ¬ (c : Int) ≤ 57 := by omega
              by_cases k3 : 97 ≤ (c : Int)
              · have k4 : ¬ (c : Int) ≤ 102 := by omega
                have HNO : Hid (¬ OkS s) := Lib.hid (HNK.out (by unfold hv; rw [if_neg q1, if_neg q2]; decide))
                clear HNK HST HC
                have HR := Lib.hid (HD.out.res)
                have HBB := Lib.hid (HD.out.below)
                go_wp2_with ((with_reducible show wpList _ _ _ (Oper.mk none (Op.store 28 _ _) _ _ _ _ :: _) _ _); go_must (refine wpList_store_row rfl 28 (.tmp 2) (.tmp 45) rfl w.heap.size zeros32l rfl rfl _ _ HR.out HZS.out rfl (by kernel_rfl) ?_))
                refine bodyPost_ret (v := .tuple #[.agg zeros32l, .int .i64 2]) (results_row_tmp (p := 2) (u := 3) rfl _ _ w.heap.size _ _ _ _ _ rfl rfl (setRow_heap _ _ _ _ _ _ HR.out) Tryd.underlying28 rfl HZS.out) rfl ?_
                exact ⟨.inr ⟨HNO.out, rfl⟩, HBB.out.trans ⟨rfl, rfl, rfl, by simp [World.setRow], fun k hk => setRow_other _ _ k _ (by omega)⟩⟩
              · skip
                have HNO : Hid (¬ OkS s) := Lib.hid (HNK.out (by unfold hv; rw [if_neg q1, if_neg q2]; decide))
                clear HNK HST HC
                have HR := Lib.hid (HD.out.res)
                have HBB := Lib.hid (HD.out.below)
                go_wp2_with ((with_reducible show wpList _ _ _ (Oper.mk none (Op.store 28 _ _) _ _ _ _ :: _) _ _); go_must (refine wpList_store_row rfl 28 (.tmp 2) (.tmp 45) rfl w.heap.size zeros32l rfl rfl _ _ HR.out HZS.out rfl (by kernel_rfl) ?_))
                refine bodyPost_ret (v := .tuple #[.agg zeros32l, .int .i64 2]) (results_row_tmp (p := 2) (u := 3) rfl _ _ w.heap.size _ _ _ _ _ rfl rfl (setRow_heap _ _ _ _ _ _ HR.out) Tryd.underlying28 rfl HZS.out) rfl ?_
                exact ⟨.inr ⟨HNO.out, rfl⟩, HBB.out.trans ⟨rfl, rfl, rfl, by simp [World.setRow], fun k hk => setRow_other _ _ k _ (by omega)⟩⟩
            · have k3 : ¬ 97 ≤ (c : Int) := by omega
              have HNO : Hid (¬ OkS s) := Lib.hid (HNK.out (by unfold hv; rw [if_neg q1, if_neg q2]; decide))
              clear HNK HST HC
              have HR := Lib.hid (HD.out.res)
              have HBB := Lib.hid (HD.out.below)
              go_wp2_with ((with_reducible show wpList _ _ _ (Oper.mk none (Op.store 28 _ _) _ _ _ _ :: _) _ _); go_must (refine wpList_store_row rfl 28 (.tmp 2) (.tmp 45) rfl w.heap.size zeros32l rfl rfl _ _ HR.out HZS.out rfl (by kernel_rfl) ?_))
              refine bodyPost_ret (v := .tuple #[.agg zeros32l, .int .i64 2]) (results_row_tmp (p := 2) (u := 3) rfl _ _ w.heap.size _ _ _ _ _ rfl rfl (setRow_heap _ _ _ _ _ _ HR.out) Tryd.underlying28 rfl HZS.out) rfl ?_
              exact ⟨.inr ⟨HNO.out, rfl⟩, HBB.out.trans ⟨rfl, rfl, rfl, by simp [World.setRow], fun k hk => setRow_other _ _ k _ (by omega)⟩⟩
      · have hi64 : i = 64 := by omega
        subst hi64
        have hok : OkS s := ⟨h64, fun j hj => HG.out j hj⟩
        have hn64 : ¬ ((64 : Nat) : Int) < 64 := by decide
        have hd := HD.out
        rw [rdn_all] at hd
        have hl := rwn_len (dgt s) 32
        have hres := hd.res
        unfold zeros32l at hres
        generalize hDe : rwn (dgt s) 32 = D at hd hl
        have HDE := Lib.hid hDe
        have HD2 := Lib.hid hd
        clear hDe hd HD
        have hAs : (Tryd.prog.info? 28).map (·.size) = some (vals .u8 D).toArray.size := by rw [List.size_toArray, vals_length, hl]; kernel_rfl
        have hAz : (#[.int .u8 0, .int .u8 0, .int .u8 0, .int .u8 0, .int .u8 0, .int .u8 0, .int .u8 0, .int .u8 0, .int .u8 0, .int .u8 0, .int .u8 0, .int .u8 0, .int .u8 0, .int .u8 0, .int .u8 0, .int .u8 0, .int .u8 0, .int .u8 0, .int .u8 0, .int .u8 0, .int .u8 0, .int .u8 0, .int .u8 0, .int .u8 0, .int .u8 0, .int .u8 0, .int .u8 0, .int .u8 0, .int .u8 0, .int .u8 0, .int .u8 0, .int .u8 0] : Array Value).size = (vals .u8 D).toArray.size := by
          have h : (vals .u8 D).toArray.size = 32 := by rw [List.size_toArray, vals_length, hl]
          rw [h]; rfl
        have HRES := Lib.hid hres
        clear hres
        go_wp2_with (first
          | ((with_reducible show wpList _ _ _ (Oper.mk (some 56) _ _ _ _ _ :: _) _ _); go_must (refine wpList_load_row rfl 28 (.tmp 4) rfl (w.heap.size + 1) rfl _ (vals .u8 D).toArray _ _ HD2.out.row Tryd.underlying28 rfl hAs ?_))
          | ((with_reducible show wpList _ _ _ (Oper.mk none (Op.store 28 _ _) _ _ _ _ :: _) _ _); go_must (refine wpList_store_row rfl 28 (.tmp 2) (.tmp 56) rfl w.heap.size (vals .u8 D).toArray rfl rfl _ _ HRES.out hAs hAz (row_one _ _) ?_)))
        refine bodyPost_ret (v := .tuple #[.agg (vals .u8 D).toArray, .int .i64 0]) (results_row_tmp (p := 2) (u := 3) rfl _ _ w.heap.size _ _ _ _ _ rfl rfl (setRow_heap _ _ _ _ _ _ HRES.out) Tryd.underlying28 rfl hAs) rfl ?_
        have hfin : Below w.heap.size w (wr.setRow w.heap.size (vals .u8 D).toArray) := HD2.out.below.trans ⟨rfl, rfl, rfl, by simp [World.setRow], fun k hk => setRow_other _ _ k _ (by omega)⟩
        first
          | exact ⟨.inl ⟨hok, by rw [HDE.out]⟩, hfin⟩
          | exact ⟨by rw [HDE.out], hfin⟩
  · have h64i : ¬ (s.size : Int) = 64 := by omega
    have hrz := HPZ.out.row
    rw [zero_vals] at hrz
    have HRZ := Lib.hid hrz
    have HRR := Lib.hid HPZ.out.res
    clear hrz
    go_wp2_with (first
      | ((with_reducible show wpList _ _ _ (Oper.mk none (Op.store 28 (Operand.tmp 4) _) _ _ _ _ :: _) _ _); go_must (refine wpList_store_row rfl 28 (.tmp 4) (.tmp 7) rfl (w.heap.size + 1) zeros32l rfl rfl _ _ HROW.out HZS.out rfl (by kernel_rfl) ?_))
      | ((with_reducible show wpList _ _ _ (Oper.mk (some 11) _ _ _ _ _ :: _) _ _); go_must (refine wpList_load_row rfl 28 (.tmp 4) rfl (w.heap.size + 1) rfl _ zeros32l _ _ HRZ.out Tryd.underlying28 rfl HZS.out ?_))
      | ((with_reducible show wpList _ _ _ (Oper.mk none (Op.store 28 (Operand.tmp 2) _) _ _ _ _ :: _) _ _); go_must (refine wpList_store_row rfl 28 (.tmp 2) (.tmp 11) rfl w.heap.size zeros32l rfl rfl _ _ HRR.out HZS.out rfl (by kernel_rfl) ?_)))
    refine bodyPost_ret (v := .tuple #[.agg zeros32l, .int .i64 2]) (results_row_tmp (p := 2) (u := 3) rfl _ _ w.heap.size _ _ _ _ _ rfl rfl (setRow_heap _ _ _ _ _ _ HRR.out) Tryd.underlying28 rfl HZS.out) rfl ?_
    exact ⟨.inr ⟨fun h => h64 h.1, rfl⟩, HPZ.out.below.trans ⟨rfl, rfl, rfl, by simp [World.setRow], fun k hk => setRow_other _ _ k _ (by omega)⟩⟩

end Go.Proofs.YtjhipfgmiilmdaaDoor
