/- The contracts of the document's own cells: common, Document, fail, Bytes. -/
import Derived.Test.YtbihammpdjkonaaCelA
import Derived.Laws.BytesArg
namespace Go.Proofs.Ytbihammpdjkonaa
open Go.RowKit

theorem S8_at (l : List Nat) (i : Nat) (hi : i < l.length) (hb : ∀ y ∈ l, y < 256) : ((S8 l)[i]'(by rw [S8_size]; exact hi)).toNat = l.getD i 0 := by
  have h1 : (S8 l).data.toList = (l.map (fun n : Nat => (n : Int))).map (fun n : Int => UInt8.ofNat n.toNat) := strOfNums_data _
  have h2 : ((S8 l)[i]'(by rw [S8_size]; exact hi)) = (S8 l).data.toList[i]'(by rw [h1]; simpa using hi) := by
    show (S8 l).data[i]'_ = _
    simp
  rw [h2]
  simp only [h1, List.getElem_map]
  have hy : l[i] < 256 := hb _ (List.getElem_mem hi)
  rw [List.getD_eq_getElem?_getD, List.getElem?_eq_getElem hi]
  simp [Nat.mod_eq_of_lt hy]

theorem run_S8 (l : List Nat) (i : Nat) (hi : i < l.length) (hb : ∀ y ∈ l, y < 256) (w : World) : (Instr.index 9 (.string (S8 l)) (.int .i64 (i : Int))).run Try.prog w = .ok (.int .u8 ((l.getD i 0 : Nat) : Int)) w := by
  rw [run_index_string w 9 _ .i64 (i : Int) Try.underlying9, dif_pos ⟨by omega, by rw [S8_size]; omega⟩]
  have := S8_at l i hi hb
  simp only [Int.toNat_natCast]
  rw [this]

theorem com_step {a b : List Nat} {k : Nat} (ha : k < a.length) (h : a.take k = b.take k) (hp : ¬ (b.length ≤ k) ∧ a.getD k 0 = b.getD k 0) : a.take (k + 1) = b.take (k + 1) := by
  rw [take_snoc a k ha, take_snoc b k (by omega), h, hp.2]

set_option maxHeartbeats 400000 in
set_option maxRecDepth 100000 in
theorem refCommon_any (a b : List Nat) (w : World) (ha : ∀ y ∈ a, y < 256) (hb : ∀ y ∈ b, y < 256) (hl : a.length ≤ 1000000) (hl2 : b.length ≤ 1000000) :
    Calls Try.prog 47 #[.string (S8 a), .string (S8 b)] w fun e w' => e = .returned (.int .i64 (com a b : Nat)) ∧ Below w.heap.size w w' := by
  have HA := Lib.hid (S8_size a)
  have hsa : ((S8 a).size : Int) = (a.length : Int) := by rw [S8_size]
  have hsb : ((S8 b).size : Int) = (b.length : Int) := by rw [S8_size]
  have HX := Lib.hid (fun i hi => run_S8 a i hi ha)
  have HY := Lib.hid (fun i hi => run_S8 b i hi hb)
  generalize S8 a = sa at *
  generalize S8 b = sb at *
  go_enter Try.func47, Try.ntmps47
  go_wp2
  go_loopw [5] (fun i wr => ∃ k d : Nat, k ≤ a.length ∧ k ≤ b.length ∧ i = .int .i64 (k : Int) ∧ a.take k = b.take k ∧ wr = w.drewN d)
    (fun i _ => a.length - (intOf i).toNat)
  case atStart => exact ⟨0, 0, by omega, by omega, rfl, by simp, rfl⟩
  case round =>
    obtain ⟨k, d, hk, hkb, rfl, hp, rfl⟩ := hrel
    have HP := Lib.hid hp; clear hp
    have hki : (k : Int) ≤ 1000000 := by omega
    by_cases hlt : (k : Int) < (a.length : Int)
    · by_cases hlb : (b.length : Int) ≤ (k : Int)
      · have HE : Hid (com a b = k) := Lib.hid (com_eq a b k hk (by omega) HP.out (.inr (.inl (by omega))))
        go_wp2_with fail
        go_quiet (fail)
        go_wp2
        go_ret
        exact ⟨by rw [HE.out]; rfl, rfl, rfl, rfl, Nat.le_refl _, fun _ _ => rfl⟩
      · have hd : decide (b.length ≤ k) = false := by rw [decide_eq_false_iff_not]; omega
        have hx := HX.out k (by omega)
        have hy := HY.out k (by omega)
        have HEQ : Hid (a.getD k 0 = b.getD k 0 → a.take (k + 1) = b.take (k + 1)) := Lib.hid fun h => com_step (by omega) HP.out ⟨by omega, h⟩
        have HNE : Hid (a.getD k 0 ≠ b.getD k 0 → com a b = k) := Lib.hid fun h => com_eq a b k hk hkb HP.out (.inr (.inr h))
        generalize a.getD k 0 = x at hx HEQ HNE
        generalize b.getD k 0 = y at hy HEQ HNE
        by_cases hxy : x = y
        · have HS := Lib.hid (HEQ.out hxy)
          have hne : ((x : Int) != (y : Int)) = false := by rw [bne_eq_false_iff_eq, hxy]
          clear hxy HEQ HNE
          go_wp2_with fail
          go_quiet (fail)
          go_wp2
          go_roundw
          case rel => exact ⟨k + 1, _, by omega, by omega, by go_num, HS.out, rfl⟩
          case measure => simp [intOf]; omega
        · have HE := Lib.hid (HNE.out hxy)
          have hne : ((x : Int) != (y : Int)) = true := by rw [bne_iff_ne]; omega
          clear hxy HEQ HNE
          go_wp2_with fail
          go_quiet (fail)
          go_wp2
          go_ret
          exact ⟨by rw [HE.out]; rfl, rfl, rfl, rfl, Nat.le_refl _, fun _ _ => rfl⟩
    · obtain rfl : k = a.length := by omega
      have HE : Hid (com a b = a.length) := Lib.hid (com_eq a b _ (Nat.le_refl _) hkb HP.out (.inl rfl))
      go_wp2
      go_ret
      exact ⟨by rw [HE.out]; rfl, rfl, rfl, rfl, Nat.le_refl _, fun _ _ => rfl⟩

set_option maxHeartbeats 400000 in
set_option maxRecDepth 100000 in
theorem document_any (k : Int) (v : Value) (d : List Nat) (w : World) (hr : Reads w .u8 v d) :
    Calls Try.prog 11 #[.agg #[.int .i64 k, v]] w fun e w' => e = .returned (.agg #[.int .i64 k, .string (S8 d)]) ∧ Below w.heap.size w w' := by
  obtain ⟨ao, cap, rfl, _, _, _⟩ := hr.val
  have hb0 : Below w.heap.size w ((w.alloc (.cells #[.int .i64 k, .slice ao d.length cap] 24)).alloc (.cells #[.int .i64 0, .string { data := #[] }] 29)) := ((Below.refl _ _).alloc (Nat.le_refl _) _).alloc (by simp) _
  have hcv := conv_reads _ d _ (hr.new hb0)
  have hblk := heap_alloc_new (w.alloc (.cells #[.int .i64 k, .slice ao d.length cap] 24)) (.cells #[.int .i64 0, .string { data := #[] }] 29)
  obtain ⟨g1, g2, g3, g4⟩ := blk2 hblk
  go_enter Try.func11, Try.ntmps11
  go_wp2
  exact bodyPost_ret (v := .agg #[.int .i64 k, .string (S8 d)]) (by simp [results, Try.results11, go_sem, S8]) rfl ⟨rfl, ((Below.refl _ _).alloc (Nat.le_refl _) _).alloc (by simp) _⟩

set_option maxHeartbeats 400000 in
set_option maxRecDepth 100000 in
/-- The document's own fail of a run. -/
theorem rfail5_any (ao : Option Addr) (n cap c code : Nat) (w : World) :
    Calls Try.prog 55 #[.agg #[.slice ao n cap, .int .i64 (c : Int)], .int .i64 (code : Int)] w fun e w' =>
      e = .returned (.tuple #[.slice none 0 0, .agg #[.slice ao n cap, .int .i64 ((if c = 0 then code else c : Nat) : Int)]]) ∧ Below w.heap.size w w' := by
  have hblk := heap_alloc_new (w.alloc (.cells #[.slice ao n cap, .int .i64 (c : Int)] 57)) (.cells #[.slice none 0 0, .int .i64 0] 57)
  obtain ⟨g1, g2, g3, g4⟩ := blk2 hblk
  by_cases hc : c = 0
  · subst hc
    rw [if_pos rfl]
    go_enter Try.func55, Try.ntmps55
    go_wp2_with fail
    go_region
    all_goals go_wp2
    all_goals exact bodyPost_ret (v := .tuple #[.slice none 0 0, .agg #[.slice ao n cap, .int .i64 (code : Int)]]) (by simp [results, Try.results55, go_sem]) rfl ⟨rfl, by (repeat (first | exact Below.refl _ _ | (refine Below.setCell ?_ (by first | (simp; done) | (simp; omega)) _) | (refine Below.alloc ?_ (by first | (simp; done) | (simp; omega)) _) | (refine Below.drew ?_)))⟩
  · have h1 : ((c : Int) == 0) = false := by rw [beq_eq_false_iff_ne]; omega
    rw [if_neg hc]
    go_enter Try.func55, Try.ntmps55
    go_wp2_with fail
    go_region
    all_goals go_wp2
    all_goals exact bodyPost_ret (v := .tuple #[.slice none 0 0, .agg #[.slice ao n cap, .int .i64 (c : Int)]]) (by simp [results, Try.results55, go_sem]) rfl ⟨rfl, by (repeat (first | exact Below.refl _ _ | (refine Below.setCell ?_ (by first | (simp; done) | (simp; omega)) _) | (refine Below.alloc ?_ (by first | (simp; done) | (simp; omega)) _) | (refine Below.drew ?_)))⟩

end Go.Proofs.Ytbihammpdjkonaa
