/- Bytes, whatever the layer: bytes as strings, holdfastnum's Bytes, cuts of slices. -/
import Derived.Test.YtjbodokligpcaaaGreatRows
import Derived.Test.YtjbodokligpcaaaGreatBase
import Derived.WalkSpells
import Derived.WideLaws
import Derived.Laws.Cover1
namespace Go.Proofs.YtjbodokligpcaaaGreat
open Go.RowKit

theorem Tryz.info5 : (Tryz.prog.info? 5).map (fun i => (i.zero, i.size, i.bytes)) = some (some (.int .u8 0), 1, 1) := by kernel_rfl

/-- Bytes as a string, told apart by what they are. -/
theorem str_eq {a b : List Nat} (ha : ∀ x ∈ a, x < 256) (hb : ∀ x ∈ b, x < 256) : (strOfNums (a.map (fun n : Nat => (n : Int))) = strOfNums (b.map (fun n : Nat => (n : Int)))) ↔ a = b := by
  constructor
  · intro h
    have h1 := congrArg (fun s : ByteArray => s.data.toList) h
    simp only [strOfNums_data, List.map_map] at h1
    have h2 := congrArg (List.map UInt8.toNat) h1
    simp only [List.map_map] at h2
    have e : ∀ l : List Nat, (∀ x ∈ l, x < 256) → l.map (UInt8.toNat ∘ (fun n : Int => UInt8.ofNat n.toNat) ∘ fun n : Nat => (n : Int)) = l := by
      intro l hl
      conv => rhs; rw [← List.map_id l]
      apply List.map_congr_left
      intro x hx
      have := hl x hx
      simp [Nat.mod_eq_of_lt this]
    rw [e a ha, e b hb] at h2
    exact h2
  · rintro rfl; rfl

theorem getD_map (l : List Nat) (i : Nat) (h : i < l.length) : (l.map (fun n : Nat => (n : Int))).getD i 0 = ((l.getD i 0 : Nat) : Int) := by
  simp [List.getD, List.getElem?_eq_getElem h]

/-- The run of the conversion of a slice that reads as bytes. -/
theorem conv_reads (v : Value) (l : List Nat) (w : World) (hr : Reads w .u8 v l) :
    (convert 22 9 v).run Tryz.prog w = .ok (.string (strOfNums (l.map (fun n : Nat => (n : Int))))) w := by
  obtain ⟨ao, cap, rfl, h1, h2, h3⟩ := hr.val
  rcases Nat.eq_zero_or_pos l.length with h0 | h0
  · obtain rfl : l = [] := List.length_eq_zero_iff.1 h0
    cases ao with
    | none => exact run_convert_bytes_nil (P := Tryz.prog) w 22 5 Tryz.underlying22 Tryz.underlying5 _ _ 9 Tryz.underlying9
    | some ad =>
      rw [run_convert_bytes_string w 22 9 5 _ _ cap Tryz.underlying22 Tryz.underlying5 Tryz.underlying9]
      rw [run_bytesToString w ad _ cap [] (by simp [loadCells, loadCellsFrom])]
      rfl
  · obtain ⟨b, off, rfl, _, hc⟩ := hr.at h0
    exact run_convert_bytes_arg (P := Tryz.prog) w 22 5 Tryz.underlying22 Tryz.underlying5 b off l.length cap _ (by simp) (fun i hi => by rw [hc i hi, getD_map l i hi]) 9 Tryz.underlying9

theorem str_beq {a b : List Nat} (ha : ∀ x ∈ a, x < 256) (hb : ∀ x ∈ b, x < 256) :
    ((strOfNums (a.map (fun n : Nat => (n : Int)))).toList == (strOfNums (b.map (fun n : Nat => (n : Int)))).toList) = decide (a = b) := by
  rw [Bool.eq_iff_iff, beq_iff_eq, decide_eq_true_iff, ByteArray.toList_eq, ByteArray.toList_eq, ← str_eq ha hb]
  constructor
  · intro h
    have h2 := Array.toList_inj.1 h
    exact ByteArray.ext h2
  · intro h; rw [h]

/-- The first m cells of what reads, nil or not. -/
theorem Reads.head {w : World} {k : IntKind} {ao : Option Addr} {n cap : Nat} {l : List Nat} (h : Reads w k (.slice ao n cap) l) {m : Nat} (hm : m ≤ l.length) : Reads w k (.slice ao m cap) (l.take m) := by
  obtain ⟨ao', cap', hv, h1, h2, h3, h4⟩ := h
  simp only [Value.slice.injEq] at hv
  obtain ⟨rfl, rfl, rfl⟩ := hv
  have hlen : (l.take m).length = m := by rw [List.length_take]; omega
  refine ⟨ao, cap, by rw [hlen], by omega, h2, h3, ?_⟩
  rcases h4 with rfl | ⟨b, off, ha, hb, hc⟩
  · exact .inl (by simp)
  · refine .inr ⟨b, off, ha, hb, fun i hi => ?_⟩
    rw [hlen] at hi
    rw [hc i (by omega), List.getD_eq_getElem?_getD, List.getD_eq_getElem?_getD, List.getElem?_take, if_pos hi]

set_option maxRecDepth 100000 in
/-- A slice's head as a slice, nil or not. -/
theorem slice_head (w : World) (a : Option Addr) (n c m : Nat) (h : m ≤ c) : (Instr.slice 22 (.slice a n c) none (some (.int .i64 (m : Int))) none).run Tryz.prog w = .ok (.slice a m c) w := by
  rw [run_slice_h w 22 a n c (by kernel_rfl) .i64 (m : Int) (by omega) (by omega)]
  have hs : (sizeOf (Tryz.prog.elem 22)).run Tryz.prog w = .ok 1 w := by kernel_rfl
  rw [hs]
  simp only [Result.andThen, sliced]
  congr 1
  have : (a.map fun x => x.add (0 * 1)) = a := by cases a <;> simp [Addr.add]
  rw [this]
  simp

theorem below_grown {B p : Nat} {w w' : World} (hg : w.grownBy w' (some p)) (hB : B ≤ p) (hs : B ≤ w.heap.size) : Below B w w' := (Below.refl B w).grown hg hs (fun j hj => by simp at hj; omega)

/-- What reads as bytes stays where a maker is made. -/
theorem Reads.new {w w' : World} {v : Value} {l : List Nat} (h : Reads w .u8 v l) (hb : Below w.heap.size w w') : Reads w' .u8 v l := h.below hb (Nat.le_refl _)

/-- What is left of what reads behind its first m cells, nil or not. -/
theorem Reads.tail {w : World} {k : IntKind} {ao : Option Addr} {n cap : Nat} {l : List Nat} (h : Reads w k (.slice ao n cap) l) {m : Nat} (hm : m ≤ l.length) : Reads w k (.slice (if cap = m then ao else ao.map fun x => x.add m) (n - m) (cap - m)) (l.drop m) := by
  obtain ⟨ao', cap', hv, h1, h2, h3, h4⟩ := h
  simp only [Value.slice.injEq] at hv
  obtain ⟨rfl, rfl, rfl⟩ := hv
  refine ⟨_, _, by rw [List.length_drop], by rw [List.length_drop]; omega, by omega, fun hn => ?_, ?_⟩
  · split at hn
    · omega
    · have := h3 (by simpa using hn)
      omega
  · by_cases hc : cap = m
    · exact .inl (List.drop_eq_nil_of_le (by omega))
    · rw [if_neg hc]
      rcases h4 with rfl | ⟨b, off, rfl, hb, hcell⟩
      · exact .inl (by simp)
      · refine .inr ⟨b, off + m, by simp [Addr.add], hb, fun i hi => ?_⟩
        rw [List.length_drop] at hi
        rw [Nat.add_assoc, hcell (m + i) (by omega), List.getD_eq_getElem?_getD, List.getD_eq_getElem?_getD, List.getElem?_drop]

set_option maxRecDepth 100000 in
/-- A slice's tail as a slice, nil or not. -/
theorem slice_tail (w : World) (a : Option Addr) (n c m : Nat) (h : m ≤ n) : (Instr.slice 22 (.slice a n c) (some (.int .i64 (m : Int))) none none).run Tryz.prog w = .ok (.slice (if c = m then a else a.map fun x => x.add m) (n - m) (c - m)) w := by
  rw [run_slice_l w 22 a n c (by kernel_rfl) .i64 (m : Int) (by omega) (by omega)]
  have hs : (sizeOf (Tryz.prog.elem 22)).run Tryz.prog w = .ok 1 w := by kernel_rfl
  rw [hs]
  simp only [Result.andThen, sliced, Int.toNat_natCast, Nat.mul_one]

theorem grownBy_drew {w w' : World} {r : Option Nat} (h : w.grownBy w' r) : w.grownBy w'.drew r := ⟨h.os, h.tape, h.output, h.size, h.block⟩

end Go.Proofs.YtjbodokligpcaaaGreat
