/- Bytes, whatever the layer: bytes as strings, holdfastnum's Bytes, cuts of slices. -/
import Derived.Test.YtjbodokligpcaaaRows
import Derived.Test.YtjbodokligpcaaaBase
import Derived.WalkSpells
import Derived.WideLaws
import Derived.Laws.Cover1
namespace Go.Proofs.Ytjbodokligpcaaa
open Go.RowKit

theorem Try.info5 : (Try.prog.info? 5).map (fun i => (i.zero, i.size, i.bytes)) = some (some (.int .u8 0), 1, 1) := by kernel_rfl

/-- Bytes as a string, told apart by what they are. -/
theorem str_eq {a b : List Nat} (ha : ∀ x ∈ a, x < 256) (hb : ∀ x ∈ b, x < 256) : (strOfNums (a.map (fun n : Nat => (n : Int))) = strOfNums (b.map (fun n : Nat => (n : Int)))) ↔ a = b := by
  constructor
  · intro h
    have h1 := congrArg (fun s : ByteArray => s.data.toList) h
    simp only [strOfNums_data, List.map_map] at h1
    have h2 := congrArg (List.map UInt8.toNat) h1
    simp only [List.map_map] at h2
    have e : ∀ l : List Nat, (∀ x ∈ l, x < 256) → l.map (UInt8.toNat ∘ (fun n : Int => UInt8.ofNat n.toNat) ∘ fun n : Nat => (n : Int)) = l := by
      intro l hl
      conv => rhs; rw [← List.map_id l]
      apply List.map_congr_left
      intro x hx
      have := hl x hx
      simp [Nat.mod_eq_of_lt this]
    rw [e a ha, e b hb] at h2
    exact h2
  · rintro rfl; rfl

theorem getD_map (l : List Nat) (i : Nat) (h : i < l.length) : (l.map (fun n : Nat => (n : Int))).getD i 0 = ((l.getD i 0 : Nat) : Int) := by
  simp [List.getD, List.getElem?_eq_getElem h]

theorem str_beq {a b : List Nat} (ha : ∀ x ∈ a, x < 256) (hb : ∀ x ∈ b, x < 256) :
    ((strOfNums (a.map (fun n : Nat => (n : Int)))).toList == (strOfNums (b.map (fun n : Nat => (n : Int)))).toList) = decide (a = b) := by
  rw [Bool.eq_iff_iff, beq_iff_eq, decide_eq_true_iff, ByteArray.toList_eq, ByteArray.toList_eq, ← str_eq ha hb]
  constructor
  · intro h
    have h2 := Array.toList_inj.1 h
    exact ByteArray.ext h2
  · intro h; rw [h]

/-- The first m cells of what reads, nil or not. -/
theorem Reads.head {w : World} {k : IntKind} {ao : Option Addr} {n cap : Nat} {l : List Nat} (h : Reads w k (.slice ao n cap) l) {m : Nat} (hm : m ≤ l.length) : Reads w k (.slice ao m cap) (l.take m) := by
  obtain ⟨ao', cap', hv, h1, h2, h3, h4⟩ := h
  simp only [Value.slice.injEq] at hv
  obtain ⟨rfl, rfl, rfl⟩ := hv
  have hlen : (l.take m).length = m := by rw [List.length_take]; omega
  refine ⟨ao, cap, by rw [hlen], by omega, h2, h3, ?_⟩
  rcases h4 with rfl | ⟨b, off, ha, hb, hc⟩
  · exact .inl (by simp)
  · refine .inr ⟨b, off, ha, hb, fun i hi => ?_⟩
    rw [hlen] at hi
    rw [hc i (by omega), List.getD_eq_getElem?_getD, List.getD_eq_getElem?_getD, List.getElem?_take, if_pos hi]

theorem below_grown {B p : Nat} {w w' : World} (hg : w.grownBy w' (some p)) (hB : B ≤ p) (hs : B ≤ w.heap.size) : Below B w w' := (Below.refl B w).grown hg hs (fun j hj => by simp at hj; omega)

/-- What reads as bytes stays where a maker is made. -/
theorem Reads.new {w w' : World} {v : Value} {l : List Nat} (h : Reads w .u8 v l) (hb : Below w.heap.size w w') : Reads w' .u8 v l := h.below hb (Nat.le_refl _)

/-- What is left of what reads behind its first m cells, nil or not. -/
theorem Reads.tail {w : World} {k : IntKind} {ao : Option Addr} {n cap : Nat} {l : List Nat} (h : Reads w k (.slice ao n cap) l) {m : Nat} (hm : m ≤ l.length) : Reads w k (.slice (if cap = m then ao else ao.map fun x => x.add m) (n - m) (cap - m)) (l.drop m) := by
  obtain ⟨ao', cap', hv, h1, h2, h3, h4⟩ := h
  simp only [Value.slice.injEq] at hv
  obtain ⟨rfl, rfl, rfl⟩ := hv
  refine ⟨_, _, by rw [List.length_drop], by rw [List.length_drop]; omega, by omega, fun hn => ?_, ?_⟩
  · split at hn
    · omega
    · have := h3 (by simpa using hn)
      omega
  · by_cases hc : cap = m
    · exact .inl (List.drop_eq_nil_of_le (by omega))
    · rw [if_neg hc]
      rcases h4 with rfl | ⟨b, off, rfl, hb, hcell⟩
      · exact .inl (by simp)
      · refine .inr ⟨b, off + m, by simp [Addr.add], hb, fun i hi => ?_⟩
        rw [List.length_drop] at hi
        rw [Nat.add_assoc, hcell (m + i) (by omega), List.getD_eq_getElem?_getD, List.getD_eq_getElem?_getD, List.getElem?_drop]

theorem grownBy_drew {w w' : World} {r : Option Nat} (h : w.grownBy w' r) : w.grownBy w'.drew r := ⟨h.os, h.tape, h.output, h.size, h.block⟩

end Go.Proofs.Ytjbodokligpcaaa
