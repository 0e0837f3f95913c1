/- The contract of 'the same numbers', and the walk of the statement that no list's bytes begin with those of another one. -/
import Derived.Test.YtlaloddmlkkbgaaAliveA
namespace Go.Proofs.Ytlaloddmlkkbgaa
open Go.RowKit

theorem enc_app_prefix {m n : Nat} {s t : List Nat} (h : enc m ++ s <+: enc n ++ t) : m = n ∧ s <+: t := by
  have h1 : enc m <+: enc n ++ t := List.IsPrefix.trans (List.prefix_append _ _) h
  have h2 : enc n <+: enc n ++ t := List.prefix_append _ _
  obtain rfl := enc_prefix_unique h1 h2
  exact ⟨rfl, (List.prefix_append_right_inj _).1 h⟩

theorem encs_prefix : ∀ (a b : List Nat), a.length = b.length → encs a <+: encs b → a = b := by
  intro a
  induction a with
  | nil => intro b hl _; exact (List.length_eq_zero_iff.1 hl.symm).symm
  | cons x a ih =>
    intro b hl hp
    cases b with
    | nil => simp at hl
    | cons y b =>
      have e1 : encs (x :: a) = enc x ++ encs a := rfl
      have e2 : encs (y :: b) = enc y ++ encs b := rfl
      rw [e1, e2] at hp
      obtain ⟨rfl, h⟩ := enc_app_prefix hp
      rw [ih b (by simpa using hl) h]

theorem list_apart (a b : List Nat) : (enc a.length ++ encs a) <+: (enc b.length ++ encs b) ↔ a = b := by
  constructor
  · intro h
    obtain ⟨hl, hp⟩ := enc_app_prefix h
    exact encs_prefix a b hl hp
  · rintro rfl; exact List.prefix_refl _

/-- What 'the same numbers' answers. -/
def WidePost (a b : List Nat) (w : World) (e : Ending) (w' : World) : Prop := e = .returned (.bool (decide (a = b))) ∧ Below w.heap.size w w'

theorem take_eq_step {a b : List Nat} {k : Nat} (ha : k < a.length) (hb : k < b.length) (h : a.take k = b.take k) (he : a.getD k 0 = b.getD k 0) : a.take (k + 1) = b.take (k + 1) := by
  rw [take_snoc a k ha, take_snoc b k hb, h, he]

set_option maxHeartbeats 1000000 in
set_option maxRecDepth 100000 in
theorem wide_any (v1 v2 : Value) (a b : List Nat) (w : World) (h1 : Reads w .u64 v1 a) (h2 : Reads w .u64 v2 b) :
    Calls Try.prog 40 #[v1, v2] w (WidePost a b w) := by
  obtain ⟨ao, cap, rfl, _, hm, _⟩ := h1.val
  obtain ⟨bo, bcap, rfl, _, _, _⟩ := h2.val
  have H1 := Lib.hid h1
  have H2 := Lib.hid h2
  have hal : a.length ≤ 9223372036854775807 := by unfold maxLen at hm; omega
  clear h1 h2 hm
  by_cases hl : a.length = b.length
  · have t1 : ((a.length : Int) != (b.length : Int)) = false := by rw [bne_eq_false_iff_eq]; omega
    have HL := Lib.hid hl
    clear hl
    go_enter Try.func40, Try.ntmps40
    go_wp2
    go_loopw [5, 13] (fun _ i wr => ∃ k : Nat, k ≤ a.length ∧ i = .int .i64 (k : Int) ∧ a.take k = b.take k ∧ Below w.heap.size w wr)
      (fun _ i _ => a.length - (intOf i).toNat)
    case atStart => exact ⟨0, Nat.zero_le _, rfl, rfl, Below.refl _ _⟩
    case round =>
      obtain ⟨k, hk, rfl, he, hbk⟩ := hrel
      have HE := Lib.hid he
      clear he
      by_cases hlt : k < a.length
      · have hltb : k < b.length := by rw [← HL.out]; exact hlt
        obtain ⟨bl, off, rfl, hbl, hc⟩ := H1.out.at hlt
        obtain ⟨bl2, off2, rfl, hbl2, hc2⟩ := H2.out.at hltb
        have c1 := (hbk.cell (p := ⟨bl, off + k, none⟩) hbl).trans (hc k hlt)
        have c2 := (hbk.cell (p := ⟨bl2, off2 + k, none⟩) hbl2).trans (hc2 k hltb)
        have hst := take_eq_step hlt hltb HE.out
        have hne : a.getD k 0 ≠ b.getD k 0 → a ≠ b := fun h e => h (by rw [e])
        generalize a.getD k 0 = x at c1 hst hne
        generalize b.getD k 0 = y at c2 hst hne
        have HS := Lib.hid hst
        have HN := Lib.hid hne
        clear hst hne hc hc2
        have hi1 : (k : Int) < (a.length : Int) := by omega
        have hi2 : (k : Int) < (b.length : Int) := by omega
        by_cases hxy : x = y
        · subst hxy
          go_wp2_with fail
          go_quiet (fail)
          go_wp2
          go_roundw
          case rel => exact ⟨k + 1, by omega, by go_num, HS.out (by simp), hbk.trans ⟨rfl, rfl, rfl, Nat.le_refl _, fun _ _ => rfl⟩⟩
          case measure => simp [intOf]; omega
        · have t2 : ((x : Int) != (y : Int)) = true := by rw [bne_iff_ne]; omega
          go_wp2_with fail
          go_quiet (fail)
          go_wp2
          go_ret
          exact ⟨ret_bool (decide_eq_false (HN.out hxy)).symm, hbk.trans ⟨rfl, rfl, rfl, Nat.le_refl _, fun _ _ => rfl⟩⟩
      · go_wp2
        go_ret
        obtain rfl : k = a.length := by omega
        have hh := HE.out
        rw [List.take_length] at hh
        rw [HL.out, List.take_length] at hh
        exact ⟨ret_bool (decide_eq_true hh).symm, hbk⟩
  · have t1 : ((a.length : Int) != (b.length : Int)) = true := by rw [bne_iff_ne]; omega
    have HL := Lib.hid hl
    clear hl
    go_enter Try.func40, Try.ntmps40
    go_wp2
    go_ret
    exact ⟨ret_bool (decide_eq_false (fun e => HL.out (by rw [e]))).symm, Below.refl _ _⟩


theorem byte_list {l : List Nat} (hu : ∀ n ∈ l, U64 n) (h : l.length ≤ 100000000000000) : ∀ x ∈ enc l.length ++ encs l, x < 256 := by
  intro x hx
  rcases List.mem_append.1 hx with h1 | h1
  · exact enc_u64 (u64_of_le h) x h1
  · obtain ⟨n, hn, hxn⟩ := List.mem_flatMap.1 h1
    exact enc_u64 (hu n hn) x hxn

/-- The first n cells of a slice that reads. -/
theorem Reads.take {w : World} {k : IntKind} {b off cap : Nat} {l : List Nat} (h : Reads w k (.slice (some ⟨b, off, none⟩) l.length cap) l) {n : Nat} (hn : n ≤ l.length) (h0 : 0 < l.length) : Reads w k (.slice (some ⟨b, off, none⟩) n cap) (l.take n) := by
  obtain ⟨ao, cap', hv, h1, h2, h3, h4⟩ := h
  simp only [Value.slice.injEq, true_and] at hv
  obtain ⟨rfl, rfl⟩ := hv
  have hlen : (l.take n).length = n := by rw [List.length_take]; omega
  refine ⟨_, cap, by rw [hlen], by omega, h2, by simp, .inr ?_⟩
  rcases h4 with rfl | ⟨b', off', ha, hb, hc⟩
  · simp at h0
  · simp only [Option.some.injEq, Addr.mk.injEq, and_true] at ha
    obtain ⟨rfl, rfl⟩ := ha
    refine ⟨b, off, rfl, hb, fun i hi => ?_⟩
    rw [hlen] at hi
    rw [hc i (by omega)]
    simp [List.getD, hi]

set_option maxHeartbeats 1000000 in
set_option maxRecDepth 100000 in
theorem apart_walk (v1 v2 : Value) (a b : List Nat) (w : World) (h1 : Reads w .u64 v1 a) (h2 : Reads w .u64 v2 b) (hua : ∀ n ∈ a, U64 n) (hub : ∀ n ∈ b, U64 n) (s1 : a.length ≤ 40) (s2 : b.length ≤ 40) :
    Calls Try.prog 7 #[v1, v2] w fun e w' => e = .returned (.bool true) ∧ Below w.heap.size w w' := by
  obtain ⟨ao, acap, rfl, _, _, _⟩ := h1.val
  obtain ⟨bo, bcap, rfl, _, _, _⟩ := h2.val
  have HUA := Lib.hid hua
  have HUB := Lib.hid hub
  clear hua hub
  have hla := encs_len HUA.out
  have hlb := encs_len HUB.out
  have ha10 := enc_len10 (u64_of_le (n := a.length) (by omega))
  have hb10 := enc_len10 (u64_of_le (n := b.length) (by omega))
  have ha1 := enc_pos a.length
  have hb1 := enc_pos b.length
  go_enter Try.func7, Try.ntmps7
  go_wp2_with fail
  refine (alive_any w).mono ?_
  rintro e w0 ⟨rfl, hb0⟩
  go_wp2_with fail
  refine (putList_any _ _ [] a _ ⟨none, 0, rfl, by simp, by simp [maxLen], by simp, .inl rfl⟩ (h1.below hb0 (Nat.le_refl _)) HUA.out (by simp; omega)).mono ?_
  rintro e w1 ⟨x1, rfl, ho1, hc1⟩
  have hd1 := hb0.trans (hc1.mono hb0.size)
  clear hb0 hc1
  go_wp2_with fail
  refine (putList_any _ _ [] b _ ⟨none, 0, rfl, by simp, by simp [maxLen], by simp, .inl rfl⟩ (h2.below hd1 (Nat.le_refl _)) HUB.out (by simp; omega)).mono ?_
  rintro e w2 ⟨x2, rfl, ho2, hc2⟩
  have hd2 := hd1.trans (hc2.mono hd1.size)
  have r1 : Reads w2 .u8 x1 (enc a.length ++ encs a) := (ho1.below hc2 (Nat.le_refl _)).reads
  have r2 : Reads w2 .u8 x2 (enc b.length ++ encs b) := ho2.reads
  have hr1 := h1.below hd2 (Nat.le_refl _)
  have hr2 := h2.below hd2 (Nat.le_refl _)
  clear ho1 ho2 hd1 hc2 h1 h2
  have hxa := byte_list HUA.out (by omega)
  have hxb := byte_list HUB.out (by omega)
  have hap := list_apart a b
  have hXl : (enc a.length ++ encs a).length ≤ 1000 := by simp; omega
  have hYl : (enc b.length ++ encs b).length ≤ 1000 := by simp; omega
  have hX0 : 0 < (enc a.length ++ encs a).length := by simp; omega
  have hY0 : 0 < (enc b.length ++ encs b).length := by simp; omega
  generalize enc a.length ++ encs a = X at *
  generalize enc b.length ++ encs b = Y at *
  obtain ⟨xo, xcap, rfl, _, _, _⟩ := r1.val
  obtain ⟨yo, ycap, rfl, hyc, _, _⟩ := r2.val
  obtain ⟨bx, ox, rfl, _, _⟩ := r1.at hX0
  obtain ⟨by_, oy, rfl, _, _⟩ := r2.at hY0
  by_cases hle : X.length ≤ Y.length
  · have rt := r2.take hle hY0
    have q1 := fun n => conv_reads _ _ (w2.drewN n) r1
    have q2 := fun n => conv_reads _ _ (w2.drewN n) rt
    have hsq := str_beq (a := Y.take X.length) (b := X) (fun x hx => hxb x (List.mem_of_mem_take hx)) hxa
    generalize strOfNums (X.map (fun n : Nat => (n : Int))) = sx at q1 hsq
    generalize strOfNums ((Y.take X.length).map (fun n : Nat => (n : Int))) = sy at q2 hsq
    have hfin : (sy.toList == sx.toList) = decide (a = b) := by
      rw [hsq]
      refine decide_eq_decide.2 ?_
      rw [← hap, List.prefix_iff_eq_take]
      exact eq_comm
    have HF := Lib.hid hfin
    have t1 : decide ((X.length : Int) ≤ (Y.length : Int)) = true := by rw [decide_eq_true_iff]; omega
    have HD := Lib.hid hd2
    have HR1 := Lib.hid hr1
    have HR2 := Lib.hid hr2
    clear hfin hsq rt r1 r2 hap hxa hxb hd2 hr1 hr2
    go_wp2_with fail
    go_quiet (fail)
    go_wp2_with fail
    refine (wide_any _ _ a b _ (HR1.out.drewN _) (HR2.out.drewN _)).mono ?_
    rintro e w5 ⟨rfl, hb5⟩
    go_wp2
    go_ret
    exact ⟨ret_bool (by rw [HF.out]; simp), HD.out.trans (below_drewN hb5 HD.out.size)⟩
  · have t1 : decide (X.length ≤ Y.length) = false := by rw [decide_eq_false_iff_not]; omega
    have hne : decide (a = b) = false := by
      rw [decide_eq_false_iff_not, ← hap]
      intro h
      exact hle h.length_le
    have HNE := Lib.hid hne
    have HD := Lib.hid hd2
    have HR1 := Lib.hid hr1
    have HR2 := Lib.hid hr2
    clear hap hxa hxb hd2 hr1 hr2 r1 r2 hle hne
    go_wp2_with fail
    go_quiet (fail)
    go_wp2_with fail
    refine (wide_any _ _ a b _ (HR1.out.drewN _) (HR2.out.drewN _)).mono ?_
    rintro e w5 ⟨rfl, hb5⟩
    go_wp2
    go_ret
    exact ⟨ret_bool (by rw [HNE.out]; rfl), HD.out.trans (below_drewN hb5 HD.out.size)⟩

set_option maxHeartbeats 400000 in
set_option maxRecDepth 100000 in
theorem apart_all (v1 v2 : Value) (a b : List Nat) (w : World) (h1 : Reads w .u64 v1 a) (h2 : Reads w .u64 v2 b) (hua : ∀ n ∈ a, U64 n) (hub : ∀ n ∈ b, U64 n) :
    Calls Try.prog 7 #[v1, v2] w fun e w' => e = .returned (.bool true) ∧ Below w.heap.size w w' := by
  by_cases s : a.length ≤ 40 ∧ b.length ≤ 40
  · exact apart_walk v1 v2 a b w h1 h2 hua hub s.1 s.2
  · obtain ⟨ao, acap, rfl, _, _, _⟩ := h1.val
    obtain ⟨bo, bcap, rfl, _, _, _⟩ := h2.val
    clear h1 h2 hua hub
    have hs : 40 < a.length ∨ (a.length ≤ 40 ∧ 40 < b.length) := by omega
    clear s
    rcases hs with s1 | ⟨s1, s2⟩
    all_goals
      go_enter Try.func7, Try.ntmps7
      go_wp2_with fail
      refine (alive_any w).mono ?_
      rintro e w0 ⟨rfl, hb0⟩
      go_wp2
      go_ret
      exact ⟨rfl, hb0⟩

end Go.Proofs.Ytlaloddmlkkbgaa
