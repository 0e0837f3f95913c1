/- Digests as texts, and back: the mathematics. -/
import Derived.Test.YtjhipfgmiilmdaaDoorShaRp
import Derived.Test.YtjhipfgmiilmdaaDoorShaY
namespace Go.Proofs.YtjhipfgmiilmdaaDoor
open Go.RowKit

theorem hv_sgn : ∀ d, d < 16 → hv (sgn d) = d := by decide
theorem sgn_lt : ∀ d, d < 16 → sgn d < 256 := by decide
theorem sgn_hv : ∀ c, c < 256 → hv c < 16 → sgn (hv c) = c := by decide +kernel

theorem hexS_at : ∀ (l : List Nat) (i : Nat), i < l.length → (hexS l).getD (2 * i) 0 = sgn (l.getD i 0 / 16) ∧ (hexS l).getD (2 * i + 1) 0 = sgn (l.getD i 0 % 16)
  | [], i, h => by simp at h
  | x :: l, 0, _ => by simp [hexS]
  | x :: l, i + 1, h => by
    have ih := hexS_at l i (by simpa using h)
    have e1 : hexS (x :: l) = sgn (x / 16) :: sgn (x % 16) :: hexS l := rfl
    rw [e1, show 2 * (i + 1) = 2 * i + 2 from by omega, show 2 * i + 2 + 1 = (2 * i + 1) + 2 from by omega]
    simpa using ih
theorem hexS_lt (l : List Nat) (hl : ∀ y ∈ l, y < 256) (i : Nat) (h : i < 2 * l.length) : (hexS l).getD i 0 < 256 := by
  have hb := getD_lt hl (by decide) (i / 2)
  have h2 := hexS_at l (i / 2) (by omega)
  by_cases hp : i % 2 = 0
  · rw [show i = 2 * (i / 2) by omega, h2.1]
    exact sgn_lt _ (by omega)
  · rw [show i = 2 * (i / 2) + 1 by omega, h2.2]
    exact sgn_lt _ (by omega)

theorem strN_list (L : List Nat) : (strN L).data.toList = L.map UInt8.ofNat := by
  unfold strN
  rw [strOfNums_data, List.map_map]
  rfl
theorem chr_strN (L : List Nat) (i : Nat) (hi : i < L.length) (hb : L.getD i 0 < 256) : chr (strN L) i = L.getD i 0 := by
  have hx : L[i]? = some (L.getD i 0) := by rw [List.getD, List.getElem?_eq_getElem hi]; rfl
  have h : (strN L).data.toList.getD i 0 = UInt8.ofNat (L.getD i 0) := by
    rw [strN_list, List.getD, List.getElem?_map, hx]
    rfl
  unfold chr
  rw [h, UInt8.toNat_ofNat']
  omega

/-- A digest's text is a digest's, and this one's. -/
theorem okS_hex (B : List Nat) (hB : B.length = 32) (hb : ∀ y ∈ B, y < 256) : OkS (strN (hexS B)) ∧ rwn (dgt (strN (hexS B))) 32 = B := by
  have hlen : (hexS B).length = 64 := by rw [hexS_length, hB]
  have hch : ∀ i, i < 64 → chr (strN (hexS B)) i = (hexS B).getD i 0 := fun i hi => chr_strN _ i (by omega) (hexS_lt B hb i (by omega))
  have hev : ∀ i, i < 32 → hv (chr (strN (hexS B)) (2 * i)) = B.getD i 0 / 16 ∧ hv (chr (strN (hexS B)) (2 * i + 1)) = B.getD i 0 % 16 := fun i hi => by
    have h2 := hexS_at B i (by omega)
    have hlt := getD_lt hb (by decide) i
    rw [hch _ (by omega), hch _ (by omega), h2.1, h2.2, hv_sgn _ (by omega), hv_sgn _ (by omega)]
    exact ⟨rfl, rfl⟩
  refine ⟨⟨by rw [strN_size, hlen], fun i hi => ?_⟩, ?_⟩
  · have hlt := getD_lt hb (by decide) (i / 2)
    have h2 := hev (i / 2) (by omega)
    by_cases hp : i % 2 = 0
    · rw [show i = 2 * (i / 2) by omega, h2.1]
      omega
    · rw [show i = 2 * (i / 2) + 1 by omega, h2.2]
      omega
  · apply List.ext_getElem?
    intro i
    by_cases hi : i < 32
    · have h2 := hev i hi
      have hx : B[i]? = some (B.getD i 0) := by rw [List.getD, List.getElem?_eq_getElem (by omega)]; rfl
      rw [hx]
      simp only [rwn, List.getElem?_map, List.getElem?_range hi, Option.map_some, Option.some.injEq]
      rw [if_pos hi]
      unfold dgt
      rw [h2.1, h2.2]
      omega
    · rw [List.getElem?_eq_none (by rw [rwn_len]; omega), List.getElem?_eq_none (by omega)]

/-- A text that is a digest's is the text of its digest. -/
theorem hex_okS (s : ByteArray) (h : OkS s) : (strN (hexS (rwn (dgt s) 32))).toList = s.toList := by
  have hD : ∀ y ∈ rwn (dgt s) 32, y < 256 := by
    intro y hy
    obtain ⟨j, hj, rfl⟩ := List.mem_map.1 hy
    have hj := List.mem_range.1 hj
    have g1 := h.2 (2 * j) (by omega)
    have g2 := h.2 (2 * j + 1) (by omega)
    show (if j < 32 then dgt s j else 0) < 256
    rw [if_pos hj]
    unfold dgt
    omega
  have hat : ∀ j, j < 32 → (rwn (dgt s) 32).getD j 0 = dgt s j := fun j hj => by
    rw [List.getD]
    simp only [rwn, List.getElem?_map, List.getElem?_range hj, Option.map_some, Option.getD_some]
    rw [if_pos hj]
  have hlen : (hexS (rwn (dgt s) 32)).length = 64 := by rw [hexS_length, rwn_len]
  rw [ByteArray.toList_eq, ByteArray.toList_eq, strN_list]
  apply List.ext_getElem?
  intro i
  by_cases hi : i < 64
  · have g := h.2 i hi
    have hsl : i < s.data.toList.length := by rw [Array.length_toList]; have h1 : s.data.size = 64 := h.1; omega
    have hc : (hexS (rwn (dgt s) 32)).getD i 0 = chr s i := by
      have h2 := hexS_at (rwn (dgt s) 32) (i / 2) (by rw [rwn_len]; omega)
      rw [hat _ (by omega)] at h2
      have g1 := h.2 (2 * (i / 2)) (by omega)
      have g2 := h.2 (2 * (i / 2) + 1) (by omega)
      have d1 : dgt s (i / 2) / 16 = hv (chr s (2 * (i / 2))) := by unfold dgt; omega
      have d2 : dgt s (i / 2) % 16 = hv (chr s (2 * (i / 2) + 1)) := by unfold dgt; omega
      rw [d1, d2, sgn_hv _ (chr_lt _ _) g1, sgn_hv _ (chr_lt _ _) g2] at h2
      by_cases hp : i % 2 = 0
      · have h3 := h2.1
        rwa [show 2 * (i / 2) = i by omega] at h3
      · have h3 := h2.2
        rwa [show 2 * (i / 2) + 1 = i by omega] at h3
    have hx : (hexS (rwn (dgt s) 32))[i]? = some (chr s i) := by
      rw [← hc, List.getD, List.getElem?_eq_getElem (by omega)]; rfl
    rw [List.getElem?_map, hx, List.getElem?_eq_getElem hsl, Option.map_some]
    congr 1
    unfold chr
    rw [List.getD, List.getElem?_eq_getElem hsl]
    simp
  · rw [List.getElem?_eq_none (by rw [List.length_map]; omega), List.getElem?_eq_none (by rw [Array.length_toList]; have h1 : s.data.size = 64 := h.1; omega)]

end Go.Proofs.YtjhipfgmiilmdaaDoor
