/- Package proj: which units are among some, and searches for a number. -/
import Derived.Test.YtjbodokligpcaaaGreatPjE
namespace Go.Proofs.YtjbodokligpcaaaGreat
open Go.RowKit

/-- Eight answers: is each unit among these? -/
def boolsL (l : List Int) : List Value := (List.range 8).map fun (i : Nat) => Value.bool (inB l (i : Int))
theorem boolsL_nil : boolsL [] = List.replicate 8 (.bool false) := by kernel_rfl
theorem boolsL_get (l : List Int) {i : Nat} (h : i < 8) : (boolsL l).toArray[i]? = some (.bool (inB l (i : Int))) := by
  simp [boolsL, h]
theorem boolsL_snoc (l : List Int) {n : Nat} : (boolsL l).toArray.setIfInBounds n (.bool true) = (boolsL (l ++ [(n : Int)])).toArray := by
  rw [List.setIfInBounds_toArray]
  congr 1
  apply List.ext_getElem?
  intro i
  rw [List.getElem?_set]
  unfold boolsL
  rw [List.length_map, List.length_range, List.getElem?_map, List.getElem?_map]
  by_cases hi : i < 8
  · rw [List.getElem?_range hi]
    by_cases e : n = i
    · subst e
      rw [if_pos rfl, if_pos hi]
      simp [inB]
    · rw [if_neg e]
      simp only [Option.map_some, Option.some.injEq, Value.bool.injEq]
      unfold inB
      rw [Bool.eq_iff_iff]
      simp only [List.contains_iff_mem, List.mem_append, List.mem_singleton]
      constructor
      · exact .inl
      · rintro (h | h)
        · exact h
        · omega
  · rw [List.getElem?_eq_none (by simpa using hi)]
    split
    · rw [if_neg (by omega)]; rfl
    · rfl

/-- The block of answers. -/
def Amg (w : World) (tb : Nat) (l : List Int) : Prop := w.heap[tb]? = some (.cells (boolsL l).toArray 104 (0, 0))
theorem Amg.lt {w : World} {tb : Nat} {l : List Int} (h : Amg w tb l) : tb < w.heap.size := (Array.getElem?_eq_some_iff.1 h).1
theorem Amg.old {w w' : World} {tb : Nat} {l : List Int} (h : Amg w tb l) (hb : Below w.heap.size w w') : Amg w' tb l := (hb.block tb h.lt).trans h
theorem Amg.keep {w w' : World} {tb : Nat} {l : List Int} (h : Amg w tb l) (hb : w'.heap[tb]? = w.heap[tb]?) : Amg w' tb l := hb.trans h
theorem Amg.cell {w : World} {tb : Nat} {l : List Int} (h : Amg w tb l) {i : Nat} (hi : i < 8) : w.cell? ⟨tb, i, none⟩ = some (.bool (inB l (i : Int))) := by
  rw [cell_of_row w tb i _ _ _ h]; exact boolsL_get l hi
theorem Amg.free {w : World} {tb : Nat} {l : List Int} (h : Amg w tb l) (i : Nat) : w.frozen? ⟨tb, i, none⟩ = false := frozen_of_row w tb i _ _ h

theorem Amg.alloc {w : World} {tb : Nat} {l : List Int} (h : Amg w tb l) (o : Obj) : Amg (w.alloc o) tb l := h.old ((Below.refl _ _).alloc (Nat.le_refl _) _)
theorem Amg.drew {w : World} {tb : Nat} {l : List Int} (h : Amg w tb l) : Amg w.drew tb l := h
theorem Amg.set {w : World} {tb b : Nat} {l : List Int} (h : Amg w tb l) (hc : w.cell? ⟨b, 0, none⟩ = some .nilFunc) (v : Value) : Amg (w.setCell ⟨b, 0, none⟩ v) tb l := by
  refine h.keep (heap_setCell_other w ⟨b, 0, none⟩ tb v ?_)
  rintro rfl
  rw [h.cell (by decide)] at hc
  cases hc

theorem unit_nat {u : Int} (h : unitB u = true) : ∃ n : Nat, n < 8 ∧ u = (n : Int) := by
  obtain ⟨h1, h2⟩ := unitB_iff.1 h
  exact ⟨u.toNat, by omega, by omega⟩

set_option maxHeartbeats 1000000 in
set_option maxRecDepth 100000 in
theorem isAmong_any (w : World) (tb : Nat) (l : List Int) (u : Int) (h : Amg w tb l) (hu : unitB u = true) :
    Calls Tryz.prog 61 #[.int .i64 u, .pointer (some ⟨tb, 0, none⟩)] w fun e w' => e = .returned (.bool (inB l u)) ∧ w = w' := by
  obtain ⟨n, hn, rfl⟩ := unit_nat hu
  have hc := h.cell hn
  have hni : (n : Int) < 8 := by omega
  clear h hu
  go_enter Tryz.func61, Tryz.ntmps61
  go_wp2
  go_ret
  exact ⟨rfl, rfl⟩

set_option maxHeartbeats 1000000 in
set_option maxRecDepth 100000 in
theorem among_any (v : Value) (l : List Int) (w : World) (B : Nat → Prop) (h : IRow w B v l) (hu : l.all unitB = true) :
    Calls Tryz.prog 32 #[v] w fun e w' => e = .returned (.func (.func 61) #[] #[.pointer (some ⟨w.heap.size, 0, none⟩)]) ∧ Amg w' w.heap.size l ∧ Below w.heap.size w w' := by
  obtain ⟨ao, cap, rfl, h1, h2, h3⟩ := h.val
  have HR := Lib.hid h
  have HU := Lib.hid hu
  clear h h3 hu
  unfold maxLen at h2
  go_enter Tryz.func32, Tryz.ntmps32
  go_wp2
  go_loopw [5, 8] (fun _ i wr => ∃ k : Nat, k ≤ l.length ∧ i = .int .i64 (k : Int) ∧ Amg wr w.heap.size (l.take k) ∧ Below w.heap.size w wr)
    (fun _ i _ => l.length - (intOf i).toNat)
  case atStart =>
    refine ⟨0, Nat.zero_le _, rfl, ?_, (Below.refl _ _).alloc (Nat.le_refl _) _⟩
    unfold Amg
    rw [List.take_zero, boolsL_nil]
    exact heap_alloc_new w _
  case round =>
    obtain ⟨k, hk, rfl, ha, hb⟩ := hrel
    by_cases hlt : k < l.length
    · obtain ⟨b, off, rfl, hbl, _, hc⟩ := HR.out.at hlt
      have hcc := (hb.cell (p := ⟨b, off + k, none⟩) hbl).trans (hc k hlt)
      have HTS := Lib.hid (ints_take k hlt)
      obtain ⟨n, hn, hx⟩ := unit_nat (List.all_eq_true.1 HU.out _ (getD_memI k hlt))
      rw [hx] at hcc HTS
      have hlti : (k : Int) < l.length := by omega
      have hni : (n : Int) < 8 := by omega
      have hz := ha.free n
      have hcn := ha.cell hn
      have HA := Lib.hid ha
      have HB := Lib.hid hb
      clear hc ha hb hx
      generalize inB (List.take k l) (n : Int) = y at hcn
      go_wp2
      go_roundw
      case rel =>
        refine ⟨k + 1, by omega, by go_num, ?_, HB.out.setCell (Nat.le_refl _) _⟩
        rw [HTS.out]
        unfold Amg
        rw [← boolsL_snoc]
        exact heap_setCell_same _ _ _ _ _ _ HA.out
      case measure => simp [intOf]; omega
    · obtain rfl : k = l.length := by omega
      rw [List.take_length] at ha
      have HA := Lib.hid ha
      have HB := Lib.hid hb
      clear ha hb
      go_wp2
      go_ret
      exact ⟨rfl, HA.out, HB.out⟩

set_option maxHeartbeats 1000000 in
set_option maxRecDepth 100000 in
theorem indexI_any (v : Value) (l : List Int) (x : Int) (w : World) (B : Nat → Prop) (h : IRow w B v l) :
    Calls Tryz.prog 81 #[v, .int .i64 x] w fun e w' => ∃ i : Int, e = .returned (.int .i64 i) ∧ foundI (fun u => decide (x = u)) l i ∧ w = w' := by
  obtain ⟨ao, cap, rfl, h1, h2, h3⟩ := h.val
  have HR := Lib.hid h; clear h h3
  unfold maxLen at h2
  go_enter Tryz.func81, Tryz.ntmps81
  go_wp2
  go_loop [5, 8] (fun _ i => ∃ k : Nat, k ≤ l.length ∧ i = .int .i64 (k : Int) ∧ (l.take k).any (fun u => decide (x = u)) = false) (fun _ i => l.length - (intOf i).toNat)
  case atStart => exact ⟨0, Nat.zero_le _, rfl, by simp⟩
  case round =>
    obtain ⟨k, hk, rfl, hp⟩ := hrel
    have HP := Lib.hid hp; clear hp
    by_cases hlt : k < l.length
    · obtain ⟨b, off, rfl, hb, _, hc⟩ := HR.out.at hlt
      have hcc := hc k hlt
      have HS := Lib.hid (any_take_snoc (g := fun u => decide (x = u)) hlt)
      have HF : Hid (x = l.getD k 0 → foundI (fun u => decide (x = u)) l (k : Int)) := Lib.hid fun h => .inr ⟨k, hlt, rfl, HP.out, decide_eq_true h⟩
      have hlti : (k : Int) < l.length := by omega
      generalize l.getD k 0 = u at hcc HS HF
      clear hc
      by_cases hu : x = u
      · have he : (x == u) = true := by rw [beq_iff_eq]; exact hu
        have HF2 := Lib.hid (HF.out hu)
        clear HF hu
        go_wp2
        go_ret
        exact ⟨_, rfl, HF2.out, rfl⟩
      · have he : (x == u) = false := by rw [beq_eq_false_iff_ne]; exact hu
        have HS2 : Hid ((l.take (k + 1)).any (fun u => decide (x = u)) = false) := Lib.hid (by rw [HS.out, HP.out, Bool.false_or]; exact decide_eq_false hu)
        clear hu HF
        go_wp2
        go_round
        case rel => exact ⟨k + 1, by omega, by go_num, HS2.out⟩
        case measure => simp [intOf]; omega
    · obtain rfl : k = l.length := by omega
      have hq := HP.out
      rw [List.take_length] at hq
      have HQ := Lib.hid hq
      clear hq
      go_wp2
      go_ret
      exact ⟨_, rfl, .inl ⟨rfl, HQ.out⟩, rfl⟩

set_option maxHeartbeats 400000 in
set_option maxRecDepth 100000 in
theorem containsI_any (v : Value) (l : List Int) (x : Int) (w : World) (B : Nat → Prop) (h : IRow w B v l) :
    Calls Tryz.prog 67 #[v, .int .i64 x] w fun e w' => e = .returned (.bool (inB l x)) ∧ w = w' := by
  have HR := Lib.hid h; clear h
  go_enter Tryz.func67, Tryz.ntmps67
  go_wp2_with fail
  refine (indexI_any v l x w B HR.out).mono ?_
  rintro e w1 ⟨i, rfl, hf, rfl⟩
  have HF : Hid (decide (0 ≤ i) = inB l x) := Lib.hid (by
    rw [hf.any]
    unfold inB
    rw [Bool.eq_iff_iff, List.any_eq_true, List.contains_iff_mem]
    constructor
    · rintro ⟨y, hy, h⟩
      rw [decide_eq_true_iff] at h
      subst h; exact hy
    · intro h; exact ⟨x, h, decide_eq_true rfl⟩)
  clear hf
  go_wp2
  go_ret
  exact ⟨ret_bool HF.out, rfl⟩

/-- Of a row each number is or isn't gone, as told by a function made ahead, in every world that has come of w since. -/
def GoneAt (K : Nat) (caps : Array Value) (g : Int → Bool) (ok : Int → Prop) (w : World) : Prop :=
  (∀ (args : Array Value) (W : World), (callFunc K args).run Tryz.prog W = .ok (.enter K args) W) ∧
  ∀ (u : Int) (W : World), ok u → Below w.heap.size w W → Calls Tryz.prog K (#[.int .i64 u] ++ caps) W fun e w' => e = .returned (.bool (g u)) ∧ W = w'
theorem GoneAt.old {K : Nat} {caps : Array Value} {g : Int → Bool} {ok : Int → Prop} {w w' : World} (h : GoneAt K caps g ok w) (hb : Below w.heap.size w w') : GoneAt K caps g ok w' :=
  ⟨h.1, fun u W hu hW => h.2 u W hu (hb.trans (hW.mono hb.size))⟩

theorem gone_among {w : World} {tb : Nat} {l : List Int} (h : Amg w tb l) : GoneAt 61 #[.pointer (some ⟨tb, 0, none⟩)] (inB l) (fun u => unitB u = true) w :=
  ⟨enters_of Tryz.func61 (by kernel_rfl) rfl, fun u W hu hW => isAmong_any W tb l u (h.old hW) hu⟩

end Go.Proofs.YtjbodokligpcaaaGreat
