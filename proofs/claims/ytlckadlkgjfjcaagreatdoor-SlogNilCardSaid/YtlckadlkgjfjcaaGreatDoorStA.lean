/- The store's texts: HasPrefix, Contains, Named; takes. -/
import Derived.Test.YtlckadlkgjfjcaaGreatDoorDbP
import Derived.Lib.Bytealg
import Derived.Shelf.Strings.Search1
namespace Go.Proofs.YtlckadlkgjfjcaaGreatDoor
open Go.RowKit

/-! ### What a text holds -/
def hasT (n : Nm) : Bool := n.any fun b => b == 126
/-- An object's name. -/
def snamed (n : Nm) : Bool := decide (n.length ≤ 20) && named n && !hasT n
theorem indexByte_any' (c : UInt8) : ∀ n : Nm, (Lib.indexByte n c = -1 ∧ n.any (fun b => b == c) = false) ∨ (0 ≤ Lib.indexByte n c ∧ n.any (fun b => b == c) = true)
  | [] => .inl ⟨rfl, rfl⟩
  | b :: l => by
    unfold Lib.indexByte
    rw [List.any_cons]
    by_cases hb : (b == c) = true
    · rw [if_pos hb]; exact .inr ⟨Int.le_refl _, by rw [hb]; rfl⟩
    · rw [if_neg hb]
      have hb' : (b == c) = false := by simpa using hb
      rw [hb', Bool.false_or]
      rcases indexByte_any' c l with ⟨h1, h2⟩ | ⟨h1, h2⟩
      · rw [h1]; exact .inl ⟨rfl, h2⟩
      · have h3 : (Lib.indexByte l c == -1) = false := beq_eq_false_iff_ne.2 (by omega)
        rw [h3, if_neg (by simp)]
        exact .inr ⟨by omega, h2⟩
theorem hasT_index (n : Nm) : decide (0 ≤ Lib.indexByte n 126) = hasT n := by
  rcases indexByte_any' 126 n with ⟨h1, h2⟩ | ⟨h1, h2⟩
  · unfold hasT; rw [h2, h1]; rfl
  · unfold hasT; rw [h2]; exact decide_eq_true h1

set_option maxHeartbeats 1000000 in
set_option maxRecDepth 100000 in
theorem sliteIndexByte_any (s : ByteArray) (c : Int) (w : World) :
    Calls Tryz.prog 318 #[.string s, .int .u8 c] w fun e w' => e = .returned (.int .i64 (Lib.indexByte s.data.toList c.toNat.toUInt8)) ∧ w' = w := by
  go_enter Tryz.func318, Tryz.ntmps318
  go_wp2
  rw [run_callFunc_extern Tryz.func345 (by kernel_rfl) (by kernel_rfl) (by kernel_rfl) (e := Extern.BytealgIndexByte.indexByte) (by kernel_rfl), Lib.run_indexByteString]
  simp only [Result.andThen]
  rw [Oper.upon_value]
  go_wp2
  go_ret
  exact ⟨rfl, rfl⟩

set_option maxHeartbeats 2000000 in
set_option maxRecDepth 100000 in
theorem sliteIndex_any (n : Nm) (w : World) :
    Calls Tryz.prog 289 #[nmV n, .string ⟨#[126]⟩] w fun e w' => ∃ i : Int, e = .returned (.int .i64 i) ∧ decide (0 ≤ i) = hasT n ∧ w' = w := by
  unfold nmV
  by_cases hn : ([126] : List UInt8) = n
  · subst hn
    go_enter Tryz.func289, Tryz.ntmps289
    go_wp2
    go_ret
    exact ⟨_, rfl, rfl, rfl⟩
  · have h2 : (([126] : List UInt8) == n) = false := by simpa using hn
    have HT := Lib.hid (hasT_index n)
    have HC := Lib.hid (sliteIndexByte_any ⟨n.toArray⟩ 126)
    clear hn
    go_enter Tryz.func289, Tryz.ntmps289
    go_wp2_with fail
    refine (HC.out w).mono ?_
    rintro e w' ⟨rfl, rfl⟩
    go_wp2
    go_ret
    exact ⟨_, rfl, HT.out, rfl⟩

set_option maxHeartbeats 1000000 in
set_option maxRecDepth 100000 in
theorem index_any (n : Nm) (w : World) :
    Calls Tryz.prog 242 #[nmV n, .string ⟨#[126]⟩] w fun e w' => ∃ i : Int, e = .returned (.int .i64 i) ∧ decide (0 ≤ i) = hasT n ∧ w' = w := by
  have HC := Lib.hid (sliteIndex_any n w)
  unfold nmV at HC ⊢
  go_enter Tryz.func242, Tryz.ntmps242
  go_wp2_with fail
  refine HC.out.mono ?_
  rintro e w' ⟨i, rfl, hi, rfl⟩
  have HI := Lib.hid hi
  clear hi
  go_wp2
  go_ret
  exact ⟨_, rfl, HI.out, rfl⟩

set_option maxHeartbeats 1000000 in
set_option maxRecDepth 100000 in
theorem contains_any (n : Nm) (w : World) :
    Calls Tryz.prog 186 #[nmV n, .string ⟨#[126]⟩] w fun e w' => e = .returned (.bool (hasT n)) ∧ w' = w := by
  have HC := Lib.hid (index_any n w)
  unfold nmV at HC ⊢
  go_enter Tryz.func186, Tryz.ntmps186
  go_wp2_with fail
  refine HC.out.mono ?_
  rintro e w' ⟨i, rfl, hi, rfl⟩
  have HI := Lib.hid hi
  clear hi
  go_wp2
  go_ret
  exact ⟨by rw [← HI.out]; rfl, rfl⟩

/-! ### How a text begins -/
theorem nm_beqA (a b : Nm) : ((⟨a.toArray⟩ : ByteArray).toList == (⟨b.toArray⟩ : ByteArray).toList) = (a == b) := by
  rw [ByteArray.toList_eq, ByteArray.toList_eq]
theorem extract_nm (n : Nm) (k : Nat) : (⟨n.toArray⟩ : ByteArray).extract 0 k = ⟨(n.take k).toArray⟩ := by
  apply ByteArray.ext
  rw [ByteArray.data_extract]
  apply Array.toList_inj.1
  simp

set_option maxHeartbeats 1000000 in
set_option maxRecDepth 100000 in
theorem slitePrefix_any (n p : Nm) (w : World) :
    Calls Tryz.prog 187 #[nmV n, nmV p] w fun e w' => e = .returned (.bool (decide (p.length ≤ n.length) && n.take p.length == p)) ∧ w' = w := by
  have hs1 := size_nm n
  have hs2 := size_nm p
  have hx := extract_nm n p.length
  have hq := nm_beqA (n.take p.length) p
  unfold nmV
  obtain ⟨s, hsn⟩ : ∃ s : ByteArray, s = ⟨n.toArray⟩ := ⟨_, rfl⟩
  obtain ⟨t, htn⟩ : ∃ s : ByteArray, s = ⟨p.toArray⟩ := ⟨_, rfl⟩
  rw [← hsn] at hs1 hx ⊢
  rw [← htn] at hs2 hq ⊢
  rw [← hx] at hq
  obtain ⟨u, hu⟩ : ∃ u : ByteArray, u = s.extract 0 p.length := ⟨_, rfl⟩
  rw [← hu] at hq
  have HQ := Lib.hid hq
  by_cases hle : p.length ≤ n.length
  · have hsl : ∀ wx, (Instr.slice 9 (.string s) none (some (.int .i64 (p.length : Int))) none).run Tryz.prog wx = .ok (.string u) wx := fun wx => by
      rw [run_slice_string_h wx 9 s Tryz.underlying9 .i64 (p.length : Int) (by omega) (by rw [hs1]; omega), hu]
      rfl
    have hl1 : decide ((p.length : Int) ≤ (n.length : Int)) = true := decide_eq_true (by omega)
    have hl2 : (p.length : Int) ≤ (n.length : Int) := by omega
    rw [decide_eq_true hle, Bool.true_and, ← HQ.out]
    clear hsn htn hx hu hq hle
    go_enter Tryz.func187, Tryz.ntmps187
    go_wp2
    go_ret
    exact ⟨rfl, rfl⟩
  · have hl1 : ¬ (p.length : Int) ≤ (n.length : Int) := by omega
    rw [decide_eq_false hle, Bool.false_and]
    clear hsn htn hx hu hq hle
    go_enter Tryz.func187, Tryz.ntmps187
    go_wp2
    go_ret
    exact ⟨rfl, rfl⟩

set_option maxHeartbeats 1000000 in
set_option maxRecDepth 100000 in
theorem hasPrefix_any (n p : Nm) (w : World) :
    Calls Tryz.prog 134 #[nmV n, nmV p] w fun e w' => e = .returned (.bool (decide (p.length ≤ n.length) && n.take p.length == p)) ∧ w' = w := by
  have HC := Lib.hid (slitePrefix_any n p w)
  obtain ⟨bb, hbb⟩ : ∃ bb, bb = (decide (p.length ≤ n.length) && n.take p.length == p) := ⟨_, rfl⟩
  rw [← hbb] at HC ⊢
  clear hbb
  unfold nmV at HC ⊢
  go_enter Tryz.func134, Tryz.ntmps134
  go_wp2_with fail
  refine HC.out.mono ?_
  rintro e w' ⟨rfl, rfl⟩
  go_wp2
  go_ret
  exact ⟨rfl, rfl⟩

/-! ### An object's name -/
set_option maxHeartbeats 1000000 in
set_option maxRecDepth 100000 in
theorem snamed_any (n : Nm) (hn : n.length ≤ 9223372036854775807) (w : World) :
    Calls Tryz.prog 133 #[nmV n] w fun e w' => e = .returned (.bool (snamed n)) ∧ w' = w := by
  have hs := size_nm n
  have HN := Lib.hid (fun w => named_any n hn w)
  have HC := Lib.hid (fun w => contains_any n w)
  unfold nmV at HN HC ⊢
  obtain ⟨s, hsn⟩ : ∃ s : ByteArray, s = ⟨n.toArray⟩ := ⟨_, rfl⟩
  rw [← hsn] at hs HN HC ⊢
  clear hsn
  by_cases hl : n.length ≤ 20
  · have hl1 : (n.length : Int) ≤ 20 := by omega
    have HL : Hid (snamed n = (named n && !hasT n)) := Lib.hid (by unfold snamed; rw [decide_eq_true hl]; rfl)
    clear hl
    go_enter Tryz.func133, Tryz.ntmps133
    go_wp2_with fail
    refine (HN.out _).mono ?_
    rintro e w' ⟨rfl, rfl⟩
    cases hn1 : named n
    · have HE : Hid (snamed n = false) := Lib.hid (by rw [HL.out, hn1]; rfl)
      clear hn1
      go_wp2
      go_ret
      exact ⟨by rw [HE.out]; rfl, rfl⟩
    · have HE : Hid (snamed n = !hasT n) := Lib.hid (by rw [HL.out, hn1]; rfl)
      clear hn1
      go_wp2_with fail
      refine (HC.out _).mono ?_
      rintro e w' ⟨rfl, rfl⟩
      go_wp2
      go_ret
      exact ⟨by rw [HE.out]; rfl, rfl⟩
  · have hl1 : (20 : Int) < (n.length : Int) := by omega
    have HE : Hid (snamed n = false) := Lib.hid (by unfold snamed; rw [decide_eq_false hl]; rfl)
    clear hl
    go_enter Tryz.func133, Tryz.ntmps133
    go_wp2
    go_ret
    exact ⟨by rw [HE.out]; rfl, rfl⟩

set_option maxHeartbeats 1000000 in
set_option maxRecDepth 100000 in
theorem takes_store (a : Addr) (n : Nm) (hn : n.length ≤ 9223372036854775807) (w : World) :
    Calls Tryz.prog 191 #[.pointer (some a), nmV n] w fun e w' => e = .returned (errV (if snamed n then 0 else 2)) ∧ w' = w := by
  have HN := Lib.hid (fun w => snamed_any n hn w)
  unfold nmV at HN ⊢
  obtain ⟨er, her⟩ : ∃ er, er = errV (if snamed n then 0 else 2) := ⟨_, rfl⟩
  rw [← her]
  have HER := Lib.hid her
  clear her
  go_enter Tryz.func191, Tryz.ntmps191
  go_wp2_with fail
  refine (HN.out _).mono ?_
  rintro e w' ⟨rfl, rfl⟩
  cases hn1 : snamed n
  · have HE : Hid (er = errV 2) := Lib.hid (by rw [HER.out, hn1]; rfl)
    clear hn1
    go_wp2
    go_ret
    exact ⟨by rw [HE.out]; rfl, rfl⟩
  · have HE : Hid (er = errV 0) := Lib.hid (by rw [HER.out, hn1]; rfl)
    clear hn1
    go_wp2
    go_ret
    exact ⟨by rw [HE.out]; rfl, rfl⟩

end Go.Proofs.YtlckadlkgjfjcaaGreatDoor
