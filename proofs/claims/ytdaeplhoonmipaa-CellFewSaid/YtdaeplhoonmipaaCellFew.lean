/- CellFew, walked. -/
import Derived.Test.YtdaeplhoonmipaaCelT
namespace Go.Proofs.Ytdaeplhoonmipaa
open Go.RowKit

theorem com_self (d : List Nat) : com d d = d.length := com_eq d d d.length (Nat.le_refl _) (Nat.le_refl _) rfl (.inl rfl)
theorem com_none (d : List Nat) : com d [] = 0 := by cases d <;> rfl
theorem enc_one {n : Nat} (h : n < 128) : (enc n).length = 1 := by rw [enc_small h]; rfl

theorem few_row {k m : Nat} (hk : k ≤ 3) (hk1 : k ≠ 1) (h0 : 0 < m) (h64 : m ≤ 64) : (rbytes (List.replicate m (k, []))).length = 3 := by
  obtain ⟨j, rfl⟩ : ∃ j, m = j + 1 := ⟨m - 1, by omega⟩
  have hl : lead k (List.replicate j (k, [])) = j := by
    have := lead_rep k j [] (fun c t h => by simp at h)
    rwa [List.append_nil] at this
  unfold rbytes
  rw [List.length_replicate, List.replicate_succ, items_row _ _ _ _ hk1, hl, List.drop_of_length_le (by simp), items_nil, List.append_nil, List.length_append, List.length_append, enc_one (by omega), enc_one (by omega)]
theorem few_next {d : List Nat} (hd : d.length ≤ 64) (j : Nat) : (items d (List.replicate j (1, d))).length = 3 * j := by
  induction j with
  | zero => rw [List.replicate_zero, items_nil]; rfl
  | succ j ih =>
    rw [List.replicate_succ, items_data, com_self, List.drop_of_length_le (Nat.le_refl _), List.nil_append]
    simp only [List.length_append]
    rw [enc_one (by omega), enc_one (by omega), ih]
    omega
theorem few_data {d : List Nat} {m : Nat} (hd : d.length ≤ 64) (h0 : 0 < m) (h64 : m ≤ 64) : (rbytes (List.replicate m (1, d))).length = 1 + 3 * m + d.length := by
  obtain ⟨j, rfl⟩ : ∃ j, m = j + 1 := ⟨m - 1, by omega⟩
  unfold rbytes
  rw [List.length_replicate, List.replicate_succ, items_data, com_none, List.drop_zero]
  simp only [List.length_append]
  rw [enc_one (by omega), enc_one (by omega), enc_one (by omega), few_next hd]
  omega

theorem rep_snoc {α : Type} (j : Nat) (x : α) : List.replicate j x ++ [x] = List.replicate (j + 1) x := (List.replicate_succ' (n := j) (a := x)).symm

set_option maxHeartbeats 4000000 in
set_option maxRecDepth 100000 in
theorem few_not (kind many : Int) (k m : Nat) (dv : Value) (d : List Nat) (w : World) (hr : Reads w .u8 dv d) (_h8 : ∀ y ∈ d, y < 256)
    (hK : wrap64 ((IntKind.u64.wrap kind).tmod 4) = (k : Int)) (hk3 : k ≤ 3) (hk1 : k ≠ 1) (hM : wrap64 (1 + wrap64 ((IntKind.u64.wrap many).tmod 64)) = (m : Int)) (hm0 : 0 < m) (hm : m ≤ 64) :
    Calls Try.prog 8 #[.int .i64 kind, .int .i64 many, dv] w fun e w' => e = .returned (.bool true) ∧ Below w.heap.size w w' := by
  obtain ⟨ao, cap, rfl, hc1, _, _⟩ := hr.val
  obtain ⟨q, hq⟩ : ∃ q, q = min d.length 64 := ⟨_, rfl⟩
  have hqi : min (d.length : Int) 64 = (q : Int) := by omega
  have hqd : q ≤ d.length := by omega
  have hq64 : q ≤ 64 := by omega
  have hqc : (q : Int) ≤ (cap : Int) := by omega
  have HQ := Lib.hid hq
  clear hq
  have hki : ((k : Int) == 1) = false := by rw [beq_eq_false_iff_ne]; omega
  have hkn : ((k : Int) != 1) = true := by rw [bne_iff_ne]; omega
  go_enter Try.func8, Try.ntmps8
  go_wp2_with fail
  refine (alive5_any w).mono ?_
  rintro e w1 ⟨rfl, hb1⟩
  have HB1 := Lib.hid hb1
  have HR1 := Lib.hid (hr.new hb1)
  have HEN := Lib.hid (ownsI_empty w1 (w1.heap.size + 1))
  clear hb1 hr HEN
  obtain ⟨W1, hW1⟩ : ∃ W1, W1 = w1.alloc (.cells #[.int .i64 (k : Int), .slice none 0 0] 24) := ⟨_, rfl⟩
  have hx1 : W1.heap[w1.heap.size]? = some (.cells #[.int .i64 (k : Int), .slice none 0 0] 24 (0, 0)) := by rw [hW1]; exact heap_alloc_new _ _
  have hbw : Below w1.heap.size w1 W1 := by rw [hW1]; exact (Below.refl _ _).alloc (Nat.le_refl _) _
  have hsz : W1.heap.size = w1.heap.size + 1 := by rw [hW1]; simp
  have HX1 := Lib.hid hx1
  have HBW := Lib.hid hbw
  have HE := Lib.hid (ownsI_empty W1 W1.heap.size (Nat.le_refl _))
  have hal : Below W1.heap.size W1 (W1.alloc (.cells #[] 24)) := (Below.refl _ _).alloc (Nat.le_refl _) _
  have HAL := Lib.hid hal
  rw [hsz] at HE
  have HX2 := Lib.hid ((hal.block _ (Array.getElem?_eq_some_iff.1 hx1).1).trans hx1)
  rw [hW1] at HE HX2
  have HW1 := Lib.hid hW1
  have HSZ := Lib.hid hsz
  have HBA := Lib.hid (HBW.out.trans (hal.mono HBW.out.size))
  clear hx1 hbw hW1 hsz hal HX1
  rw [HW1.out] at HBA
  go_wp2
  simp only [hM, hK]
  clear hM hK
  go_loopw [8, 34] (fun rv i wr => ∃ j : Nat, j ≤ m ∧ i = .int .i64 (j : Int) ∧ OwnsI wr (w1.heap.size + 1) rv (List.replicate j ((k : Int), .slice none 0 0)) ∧ wr.heap[w1.heap.size]? = some (.cells #[.int .i64 (k : Int), .slice none 0 0] 24 (0, 0)) ∧ Below w1.heap.size w1 wr)
    (fun _ i _ => m - (intOf i).toNat)
  case atStart => exact ⟨0, Nat.zero_le _, rfl, HE.out, HX2.out, HBA.out⟩
  case round =>
    clear HE HX2 HBA HAL HBW HW1
    obtain ⟨j, hj, rfl, hown, hx, hb⟩ := hrel
    have HOW := Lib.hid hown
    have HX := Lib.hid hx
    have HB := Lib.hid hb
    clear hown hx hb
    obtain ⟨x0, x1, _, _⟩ := blk2 HX.out
    obtain ⟨aor, capr, hv⟩ := HOW.out.form
    rw [List.length_replicate] at hv
    subst hv
    by_cases hlt : (j : Int) < (m : Int)
    · obtain ⟨W2, hW2⟩ : ∃ W2, W2 = wr.alloc (.cells #[.int .i64 (k : Int), .slice none 0 0] 24) := ⟨_, rfl⟩
      have hal : Below wr.heap.size wr W2 := by rw [hW2]; exact (Below.refl _ _).alloc (Nat.le_refl _) _
      have HO2 := Lib.hid (HOW.out.below hal)
      have HXX := Lib.hid ((hal.block _ (Array.getElem?_eq_some_iff.1 HX.out).1).trans HX.out)
      have HB2 := Lib.hid (HB.out.trans (hal.mono HB.out.size))
      have HLT := Lib.hid HOW.out.lt
      have HS : Hid (w1.heap.size + 1 ≤ W2.heap.size) := Lib.hid (by have := (Array.getElem?_eq_some_iff.1 HXX.out).1; omega)
      clear hal HOW HX HB
      rw [hW2] at HO2 HB2 HXX HS
      clear hW2
      go_wp2_with (at_builtin; go_must (refine wpList_appI _ rfl _ _ rfl (w1.heap.size + 1) _ (List.replicate j ((k : Int), .slice none 0 0)) rfl HO2.out (k : Int) (.slice none 0 0) rfl wr rfl rfl ?c1 ?c3 ?_))
      case c1 => simp; omega
      case c3 => exact HS.out
      rw [rep_snoc]
      intro v3 w3 ho3 hg3
      have HO3 := Lib.hid ho3
      have HX3 := Lib.hid ((hg3.block _ (Array.getElem?_eq_some_iff.1 HXX.out).1 (fun e => by have := (HLT.out _ e.symm).1; omega)).trans HXX.out)
      have HB3 := Lib.hid (HB2.out.grown hg3 (by have := HB2.out.size; omega) (fun j hj => by have := (HLT.out _ hj).1; omega))
      clear ho3 hg3 HO2 HXX HB2 x0 x1
      go_wp2
      go_roundw
      case rel =>
        exact ⟨j + 1, by omega, by go_num, HO3.out, HX3.out, HB3.out⟩
      case measure => simp [intOf]; omega
    · obtain rfl : j = m := by omega
      have HCA : Hid (CellsAt wr (fun _ => True) (.slice aor j capr) (List.replicate j (((k : Int) : Int), []))) := Lib.hid (HOW.out.cells _ _ (by simp) (fun _ _ => trivial) (fun i hi => by
        have hij : i < j := by simpa using hi
        have e : (List.replicate j (((k : Int) : Int), []) : List IC).getD i (0, []) = ((k : Int), []) := by simp [List.getD, hij]
        rw [e, List.getElem_replicate]
        exact ⟨rfl, ((reads_none _ _).at').mono fun _ _ _ => trivial⟩))
      have hck : chkRun (List.replicate j (((k : Int) : Int), [])) = 0 := chkRun_good (by simp; omega) (fun c hc => by
        obtain ⟨_, rfl⟩ := List.mem_replicate.1 hc
        exact chk_okC (c := (k, [])) ⟨by simp; omega, by simp, fun _ => rfl, by simp⟩)
      have hcc : (List.replicate j (((k : Int) : Int), [])).map toCC = List.replicate j (k, []) := by rw [List.map_replicate]; rfl
      have hlen : (rbytes (List.replicate j (k, []))).length = 3 := by exact few_row hk3 hk1 hm0 hm
      have HLEN := Lib.hid hlen
      have HCK := Lib.hid hck
      have HCC := Lib.hid hcc
      clear hlen hck hcc HOW
      go_wp2_with fail
      refine (putRun_any _ _ [] _ wr _ (reads_none _ _) HCA.out (fun c hc => by obtain ⟨_, rfl⟩ := List.mem_replicate.1 hc; simp) (by simp)).mono ?_
      rintro e w4 ⟨v4, out, rfl, ho4, hout, hb4⟩
      rw [HCK.out, errV_zero]
      rw [if_pos HCK.out, List.nil_append, HCC.out] at hout
      have hol : out.length = 3 := by rw [hout]; exact HLEN.out
      have HY := Lib.hid ((hb4.block _ (Array.getElem?_eq_some_iff.1 HX.out).1).trans HX.out)
      have HB4 := Lib.hid (HB.out.trans (hb4.mono HB.out.size))
      obtain ⟨ao4, cap4, rfl, _, _, _⟩ := ho4.reads.val
      have HFIN : Hid (Below w.heap.size w w4) := Lib.hid (HB1.out.trans (HB4.out.mono HB1.out.size))
      clear hout ho4 hb4 HCA HB HX x0 x1
      obtain ⟨y0, y1, _, _⟩ := blk2 HY.out
      have hfi : ((out.length : Int) == 3) = true := by rw [beq_iff_eq]; omega
      go_wp2
      go_ret
      exact ⟨by first | rfl | simp, HFIN.out⟩

set_option maxHeartbeats 4000000 in
set_option maxRecDepth 100000 in
theorem few_one (kind many : Int) (k m : Nat) (dv : Value) (d : List Nat) (w : World) (hr : Reads w .u8 dv d) (h8 : ∀ y ∈ d, y < 256)
    (hK : wrap64 ((IntKind.u64.wrap kind).tmod 4) = (k : Int)) (hk3 : k ≤ 3) (hk1 : k = 1) (hM : wrap64 (1 + wrap64 ((IntKind.u64.wrap many).tmod 64)) = (m : Int)) (hm0 : 0 < m) (hm : m ≤ 64) :
    Calls Try.prog 8 #[.int .i64 kind, .int .i64 many, dv] w fun e w' => e = .returned (.bool true) ∧ Below w.heap.size w w' := by
  obtain ⟨ao, cap, rfl, hc1, _, _⟩ := hr.val
  obtain ⟨q, hq⟩ : ∃ q, q = min d.length 64 := ⟨_, rfl⟩
  have hqi : min (d.length : Int) 64 = (q : Int) := by omega
  have hqd : q ≤ d.length := by omega
  have hq64 : q ≤ 64 := by omega
  have hqc : (q : Int) ≤ (cap : Int) := by omega
  have HQ := Lib.hid hq
  clear hq
  subst hk1
  have hK1 : wrap64 ((IntKind.u64.wrap kind).tmod 4) = 1 := hK
  clear hK
  go_enter Try.func8, Try.ntmps8
  go_wp2_with fail
  refine (alive5_any w).mono ?_
  rintro e w1 ⟨rfl, hb1⟩
  have HB1 := Lib.hid hb1
  have HR1 := Lib.hid (hr.new hb1)
  have HEN := Lib.hid (ownsI_empty w1 (w1.heap.size + 1))
  clear hb1 hr HEN
  obtain ⟨W1, hW1⟩ : ∃ W1, W1 = w1.alloc (.cells #[.int .i64 1, .slice ao q cap] 24) := ⟨_, rfl⟩
  have hx1 : W1.heap[w1.heap.size]? = some (.cells #[.int .i64 1, .slice ao q cap] 24 (0, 0)) := by
    rw [hW1]; exact heap_alloc_new _ _
  have hbw : Below w1.heap.size w1 W1 := by rw [hW1]; exact (Below.refl _ _).alloc (Nat.le_refl _) _
  have hsz : W1.heap.size = w1.heap.size + 1 := by rw [hW1]; simp
  have HX1 := Lib.hid hx1
  have HBW := Lib.hid hbw
  have HE := Lib.hid (ownsI_empty W1 W1.heap.size (Nat.le_refl _))
  have hal : Below W1.heap.size W1 (W1.alloc (.cells #[] 24)) := (Below.refl _ _).alloc (Nat.le_refl _) _
  have HAL := Lib.hid hal
  rw [hsz] at HE
  have HX2 := Lib.hid ((hal.block _ (Array.getElem?_eq_some_iff.1 hx1).1).trans hx1)
  rw [hW1] at HE HX2
  have HW1 := Lib.hid hW1
  have HSZ := Lib.hid hsz
  have HBA := Lib.hid (HBW.out.trans (hal.mono HBW.out.size))
  clear hx1 hbw hW1 hsz hal HX1
  rw [HW1.out] at HBA
  go_wp2
  simp only [hM, hK1]
  clear hM hK1
  go_loopw [8, 34] (fun rv i wr => ∃ j : Nat, j ≤ m ∧ i = .int .i64 (j : Int) ∧ OwnsI wr (w1.heap.size + 1) rv (List.replicate j (1, .slice ao q cap)) ∧ wr.heap[w1.heap.size]? = some (.cells #[.int .i64 1, .slice ao q cap] 24 (0, 0)) ∧ Below w1.heap.size w1 wr)
    (fun _ i _ => m - (intOf i).toNat)
  case atStart => exact ⟨0, Nat.zero_le _, rfl, HE.out, HX2.out, HBA.out⟩
  case round =>
    clear HE HX2 HBA HAL HBW HW1
    obtain ⟨j, hj, rfl, hown, hx, hb⟩ := hrel
    have HOW := Lib.hid hown
    have HX := Lib.hid hx
    have HB := Lib.hid hb
    clear hown hx hb
    obtain ⟨x0, x1, _, _⟩ := blk2 HX.out
    obtain ⟨aor, capr, hv⟩ := HOW.out.form
    rw [List.length_replicate] at hv
    subst hv
    by_cases hlt : (j : Int) < (m : Int)
    · obtain ⟨W2, hW2⟩ : ∃ W2, W2 = wr.alloc (.cells #[.int .i64 1, .slice ao q cap] 24) := ⟨_, rfl⟩
      have hal : Below wr.heap.size wr W2 := by rw [hW2]; exact (Below.refl _ _).alloc (Nat.le_refl _) _
      have HO2 := Lib.hid (HOW.out.below hal)
      have HXX := Lib.hid ((hal.block _ (Array.getElem?_eq_some_iff.1 HX.out).1).trans HX.out)
      have HB2 := Lib.hid (HB.out.trans (hal.mono HB.out.size))
      have HLT := Lib.hid HOW.out.lt
      have HS : Hid (w1.heap.size + 1 ≤ W2.heap.size) := Lib.hid (by have := (Array.getElem?_eq_some_iff.1 HXX.out).1; omega)
      clear hal HOW HX HB
      rw [hW2] at HO2 HB2 HXX HS
      clear hW2
      go_wp2_with (at_builtin; go_must (refine wpList_appI _ rfl _ _ rfl (w1.heap.size + 1) _ (List.replicate j (1, .slice ao q cap)) rfl HO2.out 1 (.slice ao q cap) rfl wr rfl rfl ?c1 ?c3 ?_))
      case c1 => simp; omega
      case c3 => exact HS.out
      rw [rep_snoc]
      intro v3 w3 ho3 hg3
      have HO3 := Lib.hid ho3
      have HX3 := Lib.hid ((hg3.block _ (Array.getElem?_eq_some_iff.1 HXX.out).1 (fun e => by have := (HLT.out _ e.symm).1; omega)).trans HXX.out)
      have HB3 := Lib.hid (HB2.out.grown hg3 (by have := HB2.out.size; omega) (fun j hj => by have := (HLT.out _ hj).1; omega))
      clear ho3 hg3 HO2 HXX HB2 x0 x1
      go_wp2
      go_roundw
      case rel =>
        exact ⟨j + 1, by omega, by go_num, HO3.out, HX3.out, HB3.out⟩
      case measure => simp [intOf]; omega
    · obtain rfl : j = m := by omega
      have HCA : Hid (CellsAt wr (fun _ => True) (.slice aor j capr) (List.replicate j ((1 : Int), (d.take q)))) := Lib.hid (HOW.out.cells _ _ (by simp) (fun _ _ => trivial) (fun i hi => by
        have hij : i < j := by simpa using hi
        have e : (List.replicate j ((1 : Int), (d.take q)) : List IC).getD i (0, []) = (1, (d.take q)) := by simp [List.getD, hij]
        rw [e, List.getElem_replicate]
        exact ⟨rfl, (((HR1.out.new HB.out).head hqd).at').mono fun _ _ _ => trivial⟩))
      have hck : chkRun (List.replicate j ((1 : Int), (d.take q))) = 0 := chkRun_good (by simp; omega) (fun c hc => by
        obtain ⟨_, rfl⟩ := List.mem_replicate.1 hc
        exact chk_okC (c := (1, (d.take q))) ⟨by simp, by simp; omega, fun h => absurd rfl h, fun y hy => h8 y (List.mem_of_mem_take hy)⟩)
      have hcc : (List.replicate j ((1 : Int), (d.take q))).map toCC = List.replicate j (1, (d.take q)) := by rw [List.map_replicate]; rfl
      have hlen : (rbytes (List.replicate j (1, (d.take q)))).length = 1 + 3 * j + q := by rw [few_data (by rw [List.length_take]; omega) hm0 hm, List.length_take]; omega
      have HLEN := Lib.hid hlen
      have HCK := Lib.hid hck
      have HCC := Lib.hid hcc
      clear hlen hck hcc HOW
      go_wp2_with fail
      refine (putRun_any _ _ [] _ wr _ (reads_none _ _) HCA.out (fun c hc => by obtain ⟨_, rfl⟩ := List.mem_replicate.1 hc; exact fun y hy => h8 y (List.mem_of_mem_take hy)) (by simp)).mono ?_
      rintro e w4 ⟨v4, out, rfl, ho4, hout, hb4⟩
      rw [HCK.out, errV_zero]
      rw [if_pos HCK.out, List.nil_append, HCC.out] at hout
      have hol : out.length = 1 + 3 * j + q := by rw [hout]; exact HLEN.out
      have HY := Lib.hid ((hb4.block _ (Array.getElem?_eq_some_iff.1 HX.out).1).trans HX.out)
      have HB4 := Lib.hid (HB.out.trans (hb4.mono HB.out.size))
      obtain ⟨ao4, cap4, rfl, _, _, _⟩ := ho4.reads.val
      have HFIN : Hid (Below w.heap.size w w4) := Lib.hid (HB1.out.trans (HB4.out.mono HB1.out.size))
      clear hout ho4 hb4 HCA HB HX x0 x1
      obtain ⟨y0, y1, _, _⟩ := blk2 HY.out
      have hfi : ((out.length : Int) == 1 + 3 * (j : Int) + (q : Int)) = true := by rw [beq_iff_eq]; omega
      go_wp2
      go_ret
      exact ⟨by first | rfl | simp, HFIN.out⟩

theorem few_walk (kind many : Int) (dv : Value) (d : List Nat) (w : World) (hr : Reads w .u8 dv d) (h8 : ∀ y ∈ d, y < 256) :
    Calls Try.prog 8 #[.int .i64 kind, .int .i64 many, dv] w fun e w' => e = .returned (.bool true) ∧ Below w.heap.size w w' := by
  have h0 : 0 ≤ IntKind.u64.wrap kind := by rw [IntKind.wrap_u64]; omega
  have h1 : 0 ≤ IntKind.u64.wrap many := by rw [IntKind.wrap_u64]; omega
  obtain ⟨k, hk⟩ : ∃ k : Nat, wrap64 ((IntKind.u64.wrap kind).tmod 4) = (k : Int) ∧ k ≤ 3 := by
    rw [Int.tmod_eq_emod_of_nonneg h0]
    refine ⟨((IntKind.u64.wrap kind) % 4).toNat, ?_, by omega⟩
    rw [IntWalk.wrap64_in _ (by omega)]
    omega
  obtain ⟨m, hm⟩ : ∃ m : Nat, wrap64 (1 + wrap64 ((IntKind.u64.wrap many).tmod 64)) = (m : Int) ∧ 0 < m ∧ m ≤ 64 := by
    rw [Int.tmod_eq_emod_of_nonneg h1]
    refine ⟨(1 + (IntKind.u64.wrap many) % 64).toNat, ?_, by omega, by omega⟩
    rw [IntWalk.wrap64_in ((IntKind.u64.wrap many) % 64) (by omega), IntWalk.wrap64_in _ (by omega)]
    omega
  by_cases hk1 : k = 1
  · exact few_one kind many k m dv d w hr h8 hk.1 hk.2 hk1 hm.1 hm.2.1 hm.2.2
  · exact few_not kind many k m dv d w hr h8 hk.1 hk.2 hk1 hm.1 hm.2.1 hm.2.2

end Go.Proofs.Ytdaeplhoonmipaa
