/- The program's Parse. -/
import Derived.Test.YtjhipfgmiilmdaaDoorShaK
import Derived.Test.YtjhipfgmiilmdaaDoorHeldA
import Derived.Test.YtjhipfgmiilmdaaDoorNumA
import Derived.Laws.ResultCell
namespace Go.Proofs.YtjhipfgmiilmdaaDoor
open Go.RowKit

/-- A text that is a digest. -/
def OkS (s : ByteArray) : Prop := s.size = 64 ∧ ∀ i, i < 64 → hv (chr s i) < 16
/-- One byte of it. -/
def dgt (s : ByteArray) (i : Nat) : Nat := hv (chr s (2 * i)) * 16 + hv (chr s (2 * i + 1))
/-- The first i bytes, and noughts. -/
def rwn (f : Nat → Nat) (i : Nat) : List Nat := (List.range 32).map fun j => if j < i then f j else 0
theorem rwn_len (f : Nat → Nat) (i : Nat) : (rwn f i).length = 32 := by simp [rwn]
theorem rwn_zero (f : Nat → Nat) : rwn f 0 = List.replicate 32 0 := by simp [rwn]; rfl
theorem rwn_set (f : Nat → Nat) (i : Nat) (h : i < 32) : (rwn f i).set i (f i) = rwn f (i + 1) := by
  apply List.ext_getElem?
  intro j
  by_cases hj : j < 32
  · rw [List.getElem?_set]
    by_cases he : i = j
    · subst he
      simp [rwn, h]
    · rw [if_neg he]
      simp only [rwn, List.getElem?_map, List.getElem?_range hj, Option.map_some]
      congr 1
      by_cases h1 : j < i
      · rw [if_pos h1, if_pos (by omega)]
      · rw [if_neg h1, if_neg (by omega)]
  · rw [List.getElem?_eq_none (by rw [List.length_set, rwn_len]; omega), List.getElem?_eq_none (by rw [rwn_len]; omega)]

/-- The blocks of a call of Parse: the answer, the bytes. -/
structure Pd (w wr : World) (t : TypeId) (l : List Nat) : Prop where
  below : Below w.heap.size w wr
  size : w.heap.size + 2 ≤ wr.heap.size
  len : l.length = 32
  res : wr.heap[w.heap.size]? = some (.cells zeros32l t (0, 0))
  row : wr.heap[w.heap.size + 1]? = some (.cells (vals .u8 l).toArray t (0, 0))
theorem Pd.new (w : World) (t : TypeId) : Pd w ((w.alloc (.cells zeros32l t)).alloc (.cells zeros32l t)) t (List.replicate 32 0) := by
  have h1 := heap_alloc_new w (.cells zeros32l t)
  generalize hw1 : w.alloc (.cells zeros32l t) = w1 at h1 ⊢
  have s1 : w1.heap.size = w.heap.size + 1 := by rw [← hw1]; simp
  have b1 : Below w.heap.size w w1 := by rw [← hw1]; exact (Below.refl _ _).alloc (Nat.le_refl _) _
  have h2 := heap_alloc_new w1 (.cells zeros32l t)
  rw [s1] at h2
  exact ⟨b1.alloc (by omega) _, by simp; omega, by simp, by rw [Below.heap_alloc _ _ _ (by omega)]; exact h1, h2⟩
theorem Pd.cell {w wr : World} {t : TypeId} {l : List Nat} (h : Pd w wr t l) (j : Nat) (hj : j < 32) : wr.cell? ⟨w.heap.size + 1, j, none⟩ = some (.int .u8 ((l.getD j 0 : Nat) : Int)) :=
  cell_of_row h.row j (by rw [h.len]; exact hj)
theorem Pd.free {w wr : World} {t : TypeId} {l : List Nat} (h : Pd w wr t l) (j : Nat) : wr.frozen? ⟨w.heap.size + 1, j, none⟩ = false := by simp [World.frozen?, h.row]
theorem Pd.drew {w wr : World} {t : TypeId} {l : List Nat} (h : Pd w wr t l) : Pd w wr.drew t l := ⟨h.below.drew, h.size, h.len, h.res, h.row⟩
theorem Pd.set {w wr : World} {t : TypeId} {l : List Nat} (h : Pd w wr t l) (i y : Nat) {x : Int} (hx : x = (y : Int)) : Pd w (wr.setCell ⟨w.heap.size + 1, i, none⟩ (.int .u8 x)) t (l.set i y) := by
  subst hx
  refine ⟨h.below.setCell (by show w.heap.size ≤ w.heap.size + 1; omega) _, by have := h.size; simpa [World.setCell] using this, by rw [List.length_set]; exact h.len, ?_, ?_⟩
  · rw [Below.heap_setCell _ _ _ _ (by show w.heap.size ≠ w.heap.size + 1; omega)]; exact h.res
  · rw [heap_setCell_row _ _ _ _ _ _ h.row]
    simp [vals, List.map_set]

/-- Two results: a row in a cell, and a slot. -/
theorem results_row_tmp {P : Program} {fn : Func} {p u : Tmp} {ty : TypeId} (h : fn.results = #[.cell p ty, .tmp u]) (tmps : Array Value) (w : World) (g : Nat) (t : TypeId) (cs : Array Value) (fr : Nat × Nat) (d : TypeDesc) (v : Value)
    (hp : tmps.getD p undef = .pointer (some ⟨g, 0, none⟩)) (hv : tmps.getD u undef = v) (hg : w.heap[g]? = some (.cells cs t fr))
    (hu : P.underlying ty = some d) (hd : (match d with | .struct _ | .array _ _ => true | _ => false) = true) (hi : (P.info? ty).map (·.size) = some cs.size) :
    (results fn tmps).run P w = .ok (.tuple #[.agg cs, v]) w := by
  rw [results_cell_tmp h, hp, hv]
  simp [asAddr, run_loadVar_row w g t ty cs fr d hg hu hd hi, Result.andThen]

theorem hvI_pos {c : Nat} (h : hv c < 16) : hvI c = (hv c : Int) := if_pos h
theorem hvI_neg {c : Nat} (h : ¬ hv c < 16) : hvI c = -1 := if_neg h

theorem or_hl : ∀ h l : Nat, h < 16 → l < 16 → bits .or .i64 ((h : Int) * 16) (l : Int) = ((h * 16 + l : Nat) : Int) := by
  have h : ∀ h : Fin 16, ∀ l : Fin 16, bits .or .i64 ((h.val : Int) * 16) (l.val : Int) = ((h.val * 16 + l.val : Nat) : Int) := by decide +kernel
  exact fun a b ha hb => h ⟨a, ha⟩ ⟨b, hb⟩

set_option maxHeartbeats 4000000 in
set_option maxRecDepth 100000 in
theorem parse_any (s : ByteArray) (w : World) :
    Calls Tryd.prog 21 #[.string s] w fun e w' => ((OkS s ∧ e = .returned (.tuple #[.agg (vals .u8 (rwn (dgt s) 32)).toArray, .nilIface])) ∨ (¬ OkS s ∧ e = .returned (.tuple #[.agg zeros32l, .iface 74 (.int .i64 2)]))) ∧ Below w.heap.size w w' := by
  have hpn := Pd.new w 29
  have hrn := res_new w
  have hzs : (Tryd.prog.info? 29).map (·.size) = some zeros32l.size := by kernel_rfl
  have HRN := Lib.hid hrn
  have HPN := Lib.hid hpn
  have HZS := Lib.hid hzs
  clear hrn hpn hzs
  go_enter Tryd.func21, Tryd.ntmps21
  by_cases h64 : s.size = 64
  · have h64i : (s.size : Int) = 64 := by omega
    go_wp2_with fail
    go_loopw [13] (fun iv wr => ∃ i : Nat, i ≤ 32 ∧ iv = .int .i64 (i : Int) ∧ Pd w wr 29 (rwn (dgt s) i) ∧ ∀ j, j < 2 * i → hv (chr s j) < 16) (fun iv _ => 32 - (intOf iv).toNat)
    case atStart => exact ⟨0, Nat.zero_le _, rfl, by rw [rwn_zero]; exact HPN.out, fun j hj => by omega⟩
    case round =>
      obtain ⟨i, hi, rfl, hd, hg⟩ := hrel
      have HD := Lib.hid hd
      have HG := Lib.hid hg
      clear hd hg HPN HRN
      by_cases hlt : i < 32
      · have hlti : (i : Int) < 32 := by omega
        have hc1 := fun w => run_chr s (2 * i) (by omega) w
        have hc2 := fun w => run_chr s (2 * i + 1) (by omega) w
        have hb1 := chr_lt s (2 * i)
        have hb2 := chr_lt s (2 * i + 1)
        have hdg : dgt s i = hv (chr s (2 * i)) * 16 + hv (chr s (2 * i + 1)) := rfl
        have HCK : Hid (∀ j, j < 2 * (i + 1) → hv (chr s (2 * i)) < 16 → hv (chr s (2 * i + 1)) < 16 → hv (chr s j) < 16) := Lib.hid (fun j hj h1 h2 => by
          by_cases hj2 : j < 2 * i
          · exact HG.out j hj2
          · by_cases hje : j = 2 * i
            · rw [hje]; exact h1
            · rw [show j = 2 * i + 1 by omega]; exact h2)
        have HNK : Hid (¬ (hv (chr s (2 * i)) < 16 ∧ hv (chr s (2 * i + 1)) < 16) → ¬ OkS s) := Lib.hid (fun hn hk => hn ⟨hk.2 _ (by omega), hk.2 _ (by omega)⟩)
        generalize chr s (2 * i) = c1 at hc1 hb1 hdg HCK HNK
        generalize chr s (2 * i + 1) = c2 at hc2 hb2 hdg HCK HNK
        push_cast at hc1 hc2
        have HDG := Lib.hid hdg
        clear hdg
        go_wp2_with fail
        have hwr1 : IntKind.i64.wrap (2 * (i : Int)) = 2 * (i : Int) := IntWalk.i64_in _ (by omega)
        have hwr2 : IntKind.i64.wrap (2 * (i : Int) + 1) = 2 * (i : Int) + 1 := IntWalk.i64_in _ (by omega)
        have hmx : Tryd.prog.follows .mixedOrders = true := by kernel_rfl
        refine wp_region_held (S := fun _ => True) hmx ?_
        change wpAnyH _ _ _ _ _ _ _ _ (World.drew _)
        refine wpAnyH_take (i := 0) (v := ?_) rfl (by kernel_rfl) (by kernel_rfl) (by kernel_rfl) (fun _ _ _ h => h) (Or.inl ⟨by rfl, ?_⟩) trivial ?_
        rotate_left
        · intro W hS
          go_simp
          try with_reducible rfl
        refine wpAnyH_take (i := 1) (v := ?_) rfl (by kernel_rfl) (by kernel_rfl) (by kernel_rfl) (fun _ _ _ h => h) (Or.inl ⟨by rfl, ?_⟩) trivial ?_
        rotate_left
        · intro W hS
          go_simp
          try with_reducible rfl
        refine wpAnyH_take (i := 2) (v := ?_) rfl (by kernel_rfl) (by kernel_rfl) (by kernel_rfl) (fun _ _ _ h => h) (Or.inl ⟨by rfl, ?_⟩) trivial ?_
        rotate_left
        · intro W hS
          go_simp
          try with_reducible rfl
        refine wpAnyH_take (i := 3) (v := ?_) rfl (by kernel_rfl) (by kernel_rfl) (by kernel_rfl) (fun _ _ _ h => h) (Or.inl ⟨by rfl, ?_⟩) trivial ?_
        rotate_left
        · intro W hS
          go_simp
          try with_reducible rfl
        refine wpAnyH_take (i := 5) (v := ?_) rfl (by kernel_rfl) (by kernel_rfl) (by kernel_rfl) (fun _ _ _ h => h) (Or.inl ⟨by rfl, ?_⟩) trivial ?_
        rotate_left
        · intro W hS
          go_simp
          try with_reducible rfl
        refine wpAnyH_take (i := 6) (v := ?_) rfl (by kernel_rfl) (by kernel_rfl) (by kernel_rfl) (fun _ _ _ h => h) (Or.inl ⟨by rfl, ?_⟩) trivial ?_
        rotate_left
        · intro W hS
          go_simp
          try with_reducible rfl
        refine wpAnyH_take (i := 7) (v := ?_) rfl (by kernel_rfl) (by kernel_rfl) (by kernel_rfl) (fun _ _ _ h => h) (Or.inl ⟨by rfl, ?_⟩) trivial ?_
        rotate_left
        · intro W hS
          go_simp
          try with_reducible rfl
        refine wpAnyH_take (i := 8) (v := ?_) rfl (by kernel_rfl) (by kernel_rfl) (by kernel_rfl) (fun _ _ _ h => h) (Or.inl ⟨by rfl, ?_⟩) trivial ?_
        rotate_left
        · intro W hS
          go_simp
          try with_reducible rfl
        refine wpAnyH_take (i := 9) (v := ?_) rfl (by kernel_rfl) (by kernel_rfl) (by kernel_rfl) (fun _ _ _ h => h) (Or.inl ⟨by rfl, ?_⟩) trivial ?_
        rotate_left
        · intro W hS
          go_simp
          try with_reducible rfl
        refine held_one (i := 4) (by kernel_rfl) rfl (fun K hK => ?_)
        go_simp
        refine (value_any c1 hb1 _).mono ?_
        rintro e _ ⟨rfl, rfl⟩
        refine hK _ _ trivial ?_
        clear hK K
        refine held_one (i := 10) (by kernel_rfl) rfl (fun K hK => ?_)
        go_simp
        refine (value_any c2 hb2 _).mono ?_
        rintro e _ ⟨rfl, rfl⟩
        refine hK _ _ trivial ?_
        clear hK K
        refine wpAnyH_take (i := 11) (v := ?_) rfl (by kernel_rfl) (by kernel_rfl) (by kernel_rfl) (fun _ _ _ h => h) (Or.inl ⟨by rfl, ?_⟩) trivial ?_
        rotate_left
        · intro W hS
          go_simp
          try with_reducible rfl
        refine wpAnyH_take (i := 12) (v := ?_) rfl (by kernel_rfl) (by kernel_rfl) (by kernel_rfl) (fun _ _ _ h => h) (Or.inl ⟨by rfl, ?_⟩) trivial ?_
        rotate_left
        · intro W hS
          go_simp
          try with_reducible rfl
        refine wpAnyH_done (by kernel_rfl) ?_ _
        by_cases g1 : hv c1 < 16
        · by_cases g2 : hv c2 < 16
          · rw [hvI_pos g1, hvI_pos g2]
            have hck := fun j hj => HCK.out j hj g1 g2
            have HC := Lib.hid hck
            clear HCK HNK hck hc1 hc2 hwr1 hwr2
            have hdg := HDG.out
            generalize hv c1 = h1 at g1 hdg ⊢
            generalize hv c2 = h2 at g2 hdg ⊢
            have hn1 : ¬ (h1 : Int) < 0 := by omega
            have hn2 : ¬ (h2 : Int) < 0 := by omega
            have HD2 := Lib.hid HD.out.drew
            have HDG2 := Lib.hid hdg
            clear hdg
            have hor : bits .or .i64 ((h1 : Int) * 16) (h2 : Int) = ((h1 * 16 + h2 : Nat) : Int) := or_hl h1 h2 g1 g2
            have hsz1 : ∀ w, (sizeOf 5).run Tryd.prog w = .ok 1 w := fun w => by kernel_rfl
            go_wp2_with ((with_reducible show wpList _ _ _ (Oper.mk none (Op.store 5 _ _) _ _ _ _ :: _) _ _); go_must (refine wpList_store_int rfl 5 (.tmp 41) (.tmp 40) rfl hsz1 (w.heap.size + 1) i .u8 _ rfl rfl ⟨_, HD2.out.cell i hlt⟩ (HD2.out.free i) ?_; have HD3 := Lib.hid (HD2.out.set i (dgt s i) (show (h1 : Int) * 16 + (h2 : Int) = ((dgt s i : Nat) : Int) by rw [HDG2.out]; omega)); generalize World.setCell _ _ _ = wr1 at HD3 ⊢))
            go_roundw
            · have h3 := HD3.out
              rw [rwn_set _ _ hlt] at h3
              exact ⟨i + 1, by omega, by go_num, h3, HC.out⟩
            · simp [intOf]; omega
          · rw [hvI_neg g2, hvI_pos g1]
            have HNO : Hid (¬ OkS s) := Lib.hid (HNK.out (fun h => g2 h.2))
            have hn1 : ¬ (hv c1 : Int) < 0 := by omega
            generalize hv c1 = h1 at hn1 ⊢
            clear HCK HNK hc1 hc2 hwr1 hwr2 HDG
            have HR := Lib.hid (HD.out.drew.res)
            have HBB := Lib.hid (HD.out.drew.below)
            go_wp2_with ((with_reducible show wpList _ _ _ (Oper.mk none (Op.store 29 _ _) _ _ _ _ :: _) _ _); go_must (refine wpList_store_row rfl 29 (.tmp 2) (.tmp 33) rfl w.heap.size zeros32l rfl rfl _ _ HR.out HZS.out rfl (by kernel_rfl) ?_))
            refine bodyPost_ret (v := .tuple #[.agg zeros32l, .iface 74 (.int .i64 2)]) (results_row_tmp (p := 2) (u := 3) rfl _ _ w.heap.size _ _ _ _ _ rfl rfl (setRow_heap _ _ _ _ _ _ HR.out) Tryd.underlying29 rfl HZS.out) rfl ?_
            exact ⟨.inr ⟨HNO.out, rfl⟩, HBB.out.trans ⟨rfl, rfl, rfl, by simp [World.setRow], fun k hk => setRow_other _ _ k _ (by omega)⟩⟩
        · rw [hvI_neg g1]
          have HNO : Hid (¬ OkS s) := Lib.hid (HNK.out (fun h => g1 h.1))
          clear HCK HNK hc1 hc2 hwr1 hwr2 HDG
          have HR := Lib.hid (HD.out.drew.res)
          have HBB := Lib.hid (HD.out.drew.below)
          go_wp2_with ((with_reducible show wpList _ _ _ (Oper.mk none (Op.store 29 _ _) _ _ _ _ :: _) _ _); go_must (refine wpList_store_row rfl 29 (.tmp 2) (.tmp 33) rfl w.heap.size zeros32l rfl rfl _ _ HR.out HZS.out rfl (by kernel_rfl) ?_))
          refine bodyPost_ret (v := .tuple #[.agg zeros32l, .iface 74 (.int .i64 2)]) (results_row_tmp (p := 2) (u := 3) rfl _ _ w.heap.size _ _ _ _ _ rfl rfl (setRow_heap _ _ _ _ _ _ HR.out) Tryd.underlying29 rfl HZS.out) rfl ?_
          exact ⟨.inr ⟨HNO.out, rfl⟩, HBB.out.trans ⟨rfl, rfl, rfl, by simp [World.setRow], fun k hk => setRow_other _ _ k _ (by omega)⟩⟩
      · have hi32 : i = 32 := by omega
        subst hi32
        have hok : OkS s := ⟨h64, fun j hj => HG.out j (by omega)⟩
        have hn32 : ¬ ((32 : Nat) : Int) < 32 := by decide
        have hl := rwn_len (dgt s) 32
        have hres := HD.out.res
        unfold zeros32l at hres
        generalize hDe : rwn (dgt s) 32 = D at HD hl
        have HDE := Lib.hid hDe
        clear hDe
        have hAs : (Tryd.prog.info? 29).map (·.size) = some (vals .u8 D).toArray.size := by rw [List.size_toArray, vals_length, hl]; kernel_rfl
        have hAz : (#[.int .u8 0, .int .u8 0, .int .u8 0, .int .u8 0, .int .u8 0, .int .u8 0, .int .u8 0, .int .u8 0, .int .u8 0, .int .u8 0, .int .u8 0, .int .u8 0, .int .u8 0, .int .u8 0, .int .u8 0, .int .u8 0, .int .u8 0, .int .u8 0, .int .u8 0, .int .u8 0, .int .u8 0, .int .u8 0, .int .u8 0, .int .u8 0, .int .u8 0, .int .u8 0, .int .u8 0, .int .u8 0, .int .u8 0, .int .u8 0, .int .u8 0, .int .u8 0] : Array Value).size = (vals .u8 D).toArray.size := by
          have h : (vals .u8 D).toArray.size = 32 := by rw [List.size_toArray, vals_length, hl]
          rw [h]; rfl
        have HRES := Lib.hid hres
        clear hres
        go_wp2_with (first
          | ((with_reducible show wpList _ _ _ (Oper.mk (some 43) _ _ _ _ _ :: _) _ _); go_must (refine wpList_load_row rfl 29 (.tmp 4) rfl (w.heap.size + 1) rfl _ (vals .u8 D).toArray _ _ HD.out.row Tryd.underlying29 rfl hAs ?_))
          | ((with_reducible show wpList _ _ _ (Oper.mk none (Op.store 29 _ _) _ _ _ _ :: _) _ _); go_must (refine wpList_store_row rfl 29 (.tmp 2) (.tmp 43) rfl w.heap.size (vals .u8 D).toArray rfl rfl _ _ HRES.out hAs hAz (row_one _ _) ?_)))
        refine bodyPost_ret (v := .tuple #[.agg (vals .u8 D).toArray, .nilIface]) (results_row_tmp (p := 2) (u := 3) rfl _ _ w.heap.size _ _ _ _ _ rfl rfl (setRow_heap _ _ _ _ _ _ HRES.out) Tryd.underlying29 rfl hAs) rfl ?_
        have hfin : Below w.heap.size w (wr.setRow w.heap.size (vals .u8 D).toArray) := HD.out.below.trans ⟨rfl, rfl, rfl, by simp [World.setRow], fun k hk => setRow_other _ _ k _ (by omega)⟩
        first
          | exact ⟨.inl ⟨hok, by rw [HDE.out]⟩, hfin⟩
          | exact ⟨by rw [HDE.out], hfin⟩
  · have h64i : ¬ (s.size : Int) = 64 := by omega
    have hres := HRN.out.1
    unfold zeros32l at hres
    have HR := Lib.hid hres
    clear hres
    go_wp2_with ((with_reducible show wpList _ _ _ (Oper.mk none (Op.store 29 _ _) _ _ _ _ :: _) _ _); go_must (refine wpList_store_row rfl 29 (.tmp 2) (.tmp 11) rfl w.heap.size zeros32l rfl rfl _ _ HR.out HZS.out rfl (by kernel_rfl) ?_))
    refine bodyPost_ret (v := .tuple #[.agg zeros32l, .iface 74 (.int .i64 2)]) (results_row_tmp (p := 2) (u := 3) rfl _ _ w.heap.size _ _ _ _ _ rfl rfl (setRow_heap _ _ _ _ _ _ HR.out) Tryd.underlying29 rfl HZS.out) rfl ?_
    exact ⟨.inr ⟨fun h => h64 h.1, rfl⟩, HRN.out.2.2.trans ⟨rfl, rfl, rfl, by simp [World.setRow], fun k hk => setRow_other _ _ k _ (by omega)⟩⟩

end Go.Proofs.YtjhipfgmiilmdaaDoor
