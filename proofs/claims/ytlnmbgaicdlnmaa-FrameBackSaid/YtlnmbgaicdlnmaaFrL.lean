/- The same lists of texts; the fixed fact at the head of the frame statements. -/
import Derived.Test.YtlnmbgaicdlnmaaFrE
import Derived.Test.YtlnmbgaicdlnmaaCrcR
namespace Go.Proofs.Ytlnmbgaicdlnmaa
open Go.RowKit

theorem lists_snoc {a b : List (List Nat)} {k : Nat} (h : a.length = b.length) (hk : k < a.length) (hp : a.take k = b.take k) (he : a.getD k [] = b.getD k []) : a.take (k + 1) = b.take (k + 1) := by
  rw [lists_take k hk, lists_take k (h ▸ hk), hp, he]

set_option maxHeartbeats 1000000 in
set_option maxRecDepth 100000 in
theorem lists_any (v1 v2 : Value) (a b : List (List Nat)) (w : World) (A B : Nat → Prop) (h1 : Txs w A v1 a) (h2 : Txs w B v2 b) (ha : ∀ t ∈ a, ∀ y ∈ t, y < 256) (hb : ∀ t ∈ b, ∀ y ∈ t, y < 256) :
    Calls Try.prog 22 #[v1, v2] w fun e w' => e = .returned (.bool (decide (a = b))) ∧ Below w.heap.size w w' := by
  obtain ⟨ao1, cap1, rfl, l1, m1, _⟩ := h1.val
  obtain ⟨ao2, cap2, rfl, l2, m2, _⟩ := h2.val
  have H1 := Lib.hid h1; clear h1
  have H2 := Lib.hid h2; clear h2
  by_cases hl : a.length = b.length
  · have hli : ((a.length : Int) != (b.length : Int)) = false := by rw [bne_eq_false_iff_eq, hl]
    go_enter Try.func22, Try.ntmps22
    go_wp2
    go_loopw [5, 13] (fun _ i wr => ∃ k d : Nat, k ≤ a.length ∧ i = .int .i64 (k : Int) ∧ a.take k = b.take k ∧ wr = w.drewN d)
      (fun _ i _ => a.length - (intOf i).toNat)
    case atStart => exact ⟨0, 0, Nat.zero_le _, rfl, by simp, rfl⟩
    case round =>
      obtain ⟨k, d, hk, rfl, hp, rfl⟩ := hrel
      have HP := Lib.hid hp; clear hp
      by_cases hlt : k < a.length
      · obtain ⟨b1, off1, x1, rfl, hb1, _, hc1, ha1⟩ := H1.out.at hlt
        obtain ⟨b2, off2, x2, rfl, hb2, _, hc2, ha2⟩ := H2.out.at (show k < b.length by omega)
        have t1 : ∀ y ∈ a.getD k [], y < 256 := by rw [List.getD_eq_getElem?_getD, List.getElem?_eq_getElem hlt]; exact ha _ (List.getElem_mem hlt)
        have t2 : ∀ y ∈ b.getD k [], y < 256 := by rw [List.getD_eq_getElem?_getD, List.getElem?_eq_getElem (show k < b.length by omega)]; exact hb _ (List.getElem_mem _)
        have hcmp := str_beq t1 t2
        have hv1 := fun d => conv_reads x1 _ (w.drewN d) (ha1.reads.drewN d)
        have hv2 := fun d => conv_reads x2 _ (w.drewN d) (ha2.reads.drewN d)
        have HNE : Hid (a.getD k [] ≠ b.getD k [] → a ≠ b) := Lib.hid fun h he => h (by rw [he])
        have HEQ : Hid (a.getD k [] = b.getD k [] → a.take (k + 1) = b.take (k + 1)) := Lib.hid fun h => lists_snoc hl hlt HP.out h
        generalize a.getD k [] = s1 at hv1 hcmp HNE HEQ
        generalize b.getD k [] = s2 at hv2 hcmp HNE HEQ
        generalize strOfNums (s1.map (fun n : Nat => (n : Int))) = z1 at hv1 hcmp
        generalize strOfNums (s2.map (fun n : Nat => (n : Int))) = z2 at hv2 hcmp
        have hlti : (k : Int) < a.length := by omega
        have hltj : (k : Int) < b.length := by omega
        have hkw : Hid (wrap64 ((k : Int) + 1) = (k : Int) + 1) := Lib.hid (IntWalk.wrap64_in _ (by have : maxLen = 9223372036854775807 := rfl; omega))
        clear t1 t2 ha1 ha2
        by_cases he : s1 = s2
        · rw [decide_eq_true he] at hcmp
          have HS := Lib.hid (HEQ.out he)
          clear he HNE HEQ
          go_wp2_with fail
          go_quiet (fail)
          go_wp2
          go_roundw
          case rel => exact ⟨k + 1, _, by omega, by rw [hkw.out]; rfl, HS.out, rfl⟩
          case measure => rw [hkw.out]; simp [intOf]; omega
        · rw [decide_eq_false he] at hcmp
          have HS := Lib.hid (HNE.out he)
          clear he HNE HEQ
          go_wp2_with fail
          go_quiet (fail)
          go_wp2
          go_ret
          exact ⟨by rw [decide_eq_false HS.out]; rfl, rfl, rfl, rfl, Nat.le_refl _, fun _ _ => rfl⟩
      · obtain rfl : k = a.length := by omega
        have hp := HP.out
        rw [List.take_length] at hp
        have HE : Hid (a = b) := Lib.hid (by rw [hp, hl, List.take_length])
        clear hp
        go_wp2
        go_ret
        exact ⟨by rw [decide_eq_true HE.out]; rfl, rfl, rfl, rfl, Nat.le_refl _, fun _ _ => rfl⟩
  · have hli : ((a.length : Int) != (b.length : Int)) = true := by rw [bne_iff_ne]; omega
    have hne : a ≠ b := fun h => hl (by rw [h])
    have HN := Lib.hid hne; clear hne
    go_enter Try.func22, Try.ntmps22
    go_wp2
    go_ret
    exact ⟨by rw [decide_eq_false HN.out]; rfl, Below.refl _ _⟩

theorem fr_none : fr [] = [0, 82, 125, 83, 81] := by unfold fr fbody; rw [enc_small (by decide)]; decide +kernel

set_option maxHeartbeats 400000 in
set_option maxRecDepth 100000 in
theorem alive4_any (w : World) :
    Calls Try.prog 8 #[] w fun e w' => e = .returned (.bool true) ∧ Below w.heap.size w w' := by
  go_enter Try.func8, Try.ntmps8
  go_wp2_with fail
  refine (put_good _ _ [] [] w (owns_nil w 0 5 .u8).reads (owns_nil w 0 5 .u8).reads (by simp) (by simp) (by simp)).mono ?_
  rintro e w1 ⟨v1, rfl, ho1, hb1⟩
  have HR := Lib.hid ho1.reads
  have HB := Lib.hid hb1
  clear ho1 hb1
  have hlit := fun (W : World) => (owns_lit W 0 5 .u8 [0, 82, 125, 83, 81] #[.int .u8 0, .int .u8 82, .int .u8 125, .int .u8 83, .int .u8 81] rfl (Nat.zero_le _) (by simp [maxLen])).reads
  have HL := Lib.hid hlit; clear hlit
  go_wp2_with fail
  refine (numBytes_any _ _ (fr []) [0, 82, 125, 83, 81] _ (HR.out.new ((Below.refl _ _).alloc (Nat.le_refl _) _)) (HL.out w1) (by rw [fr_none]; decide) (by decide)).mono ?_
  rw [fr_none, decide_eq_true rfl]
  rintro e w' ⟨rfl, rfl⟩
  go_wp2
  go_ret
  exact ⟨rfl, HB.out.alloc HB.out.size _⟩

end Go.Proofs.Ytlnmbgaicdlnmaa
