/- The contracts of the document's own bytes (the reference package), and of the comparison of bytes. -/
import Derived.Test.YtlaloddmlkkbgaaPutA
namespace Go.Proofs.Ytlaloddmlkkbgaa
open Go.RowKit

theorem U64.int {n : Nat} (h : U64 n) : (n : Int) ≤ 18446744073709551615 := by unfold U64 at h; omega

set_option maxHeartbeats 400000 in
set_option maxRecDepth 100000 in
theorem refBytes_any (n : Nat) (w : World) (hn : U64 n) :
    Calls Try.prog 15 #[.int .u64 (n : Int)] w fun e w' => ∃ v', e = .returned v' ∧ Owns w' w.heap.size 5 .u8 v' (enc n) ∧ Below w.heap.size w w' := by
  have hlen := enc_len10 hn
  go_enter Try.func15, Try.ntmps15
  go_wp2
  go_loopw [0, 3, 4] (fun i v g wr => ∃ (m : Nat) (done : List Nat), U64 m ∧ i = .int .u64 (m : Int) ∧ enc n = done ++ enc m ∧ Owns wr w.heap.size 5 .u8 v done ∧ Below w.heap.size w wr)
    (fun i _ _ _ => (intOf i).toNat)
  case atStart => exact ⟨n, [], hn, rfl, rfl, owns_empty _ _ _ _ (Nat.le_refl _), (Below.refl _ _).alloc (Nat.le_refl _) _⟩
  case round =>
    obtain ⟨m, done, hm, rfl, he, ho, hb⟩ := hrel
    have HE := Lib.hid he; clear he
    have hdl : done.length < 10 := by have := congrArg List.length HE.out; have := enc_pos m; simp at *; omega
    have hmi := hm.int
    by_cases hlt : (m : Int) < 128
    · have hz : ((m : Int) / 128 == 0) = true := by rw [beq_iff_eq]; omega
      go_wp2_with (at_builtin; go_must (refine wpList_app _ rfl _ _ 22 rfl w.heap.size 5 (.int .u8 0) 1 Try.underlying22 Try.info5 rfl .u8 _ done rfl (ho.alloc _) _ [m] rfl ?r (by decide) ?c1 ?c3 ?_))
      case r => rw [show (m : Int) % 128 = (m : Int) from by omega]; exact reads_new _ _ _ _
      case c1 => (try simp); omega
      case c3 => have := hb.size; simp; omega
      intro v' w1 ho1 hg
      go_wp2
      go_ret
      refine ⟨_, rfl, ?_, ?_⟩
      · rw [HE.out, enc_small (by omega)]; exact ho1
      · have hs := hb.size
        exact (hb.alloc (by omega) _).grown hg (by simp; omega) (fun j hj => (ho.lt j hj).1)
    · have hz : ((m : Int) / 128 == 0) = false := by rw [beq_eq_false_iff_ne]; omega
      go_wp2_with (at_builtin; go_must (refine wpList_app _ rfl _ _ 22 rfl w.heap.size 5 (.int .u8 0) 1 Try.underlying22 Try.info5 rfl .u8 _ done rfl (ho.alloc _) _ [m % 128 + 128] rfl ?r (by decide) ?c1 ?c3 ?_))
      case r => exact reads_new _ _ _ _
      case c1 => (try simp); omega
      case c3 => have := hb.size; simp; omega
      intro v' w1 ho1 hg
      go_wp2
      go_roundw
      case rel =>
        refine ⟨m / 128, done ++ [m % 128 + 128], hm.div _, rfl, ?_, ho1, ?_⟩
        · rw [HE.out, enc_big (by omega)]; simp
        · have hs := hb.size
          exact (hb.alloc (by omega) _).grown hg (by simp; omega) (fun j hj => (ho.lt j hj).1)
      case measure => simp [intOf]; omega

set_option maxHeartbeats 400000 in
set_option maxRecDepth 100000 in
theorem refText_any (tv : Value) (ts : List Nat) (w : World) (ht : Reads w .u8 tv ts) (hx : ts.length ≤ 80000000000000) :
    Calls Try.prog 20 #[tv] w fun e w' => ∃ v', e = .returned v' ∧ Owns w' w.heap.size 5 .u8 v' (enc ts.length ++ ts) ∧ Below w.heap.size w w' := by
  obtain ⟨ao, cap, rfl, h1, h2, h3⟩ := ht.val
  have HT := Lib.hid ht; clear ht h3
  have hu : U64 ts.length := u64_of_le (by omega)
  have hl := enc_len10 hu
  go_enter Try.func20, Try.ntmps20
  go_wp2_with fail
  refine (refBytes_any ts.length _ hu).mono ?_
  rintro e w1 ⟨v1, rfl, ho, hb⟩
  go_wp2_with (at_builtin; go_must (refine wpList_app _ rfl _ _ 22 rfl w.heap.size 5 (.int .u8 0) 1 Try.underlying22 Try.info5 rfl .u8 _ (enc ts.length) rfl ho _ ts rfl (HT.out.below hb (Nat.le_refl _)) (by decide) ?c1 ?c3 ?_))
  case c1 => (try simp); omega
  case c3 => exact hb.size
  intro v' w2 ho2 hg
  go_wp2
  go_ret
  exact ⟨_, rfl, ho2, hb.grown hg hb.size (fun j hj => (ho.lt j hj).1)⟩

set_option maxHeartbeats 400000 in
set_option maxRecDepth 100000 in
theorem refList_any (nv : Value) (ns : List Nat) (w : World) (hn : Reads w .u64 nv ns) (hu : ∀ n ∈ ns, U64 n) (hx : 10 * ns.length ≤ 80000000000000) :
    Calls Try.prog 21 #[nv] w fun e w' => ∃ v', e = .returned v' ∧ Owns w' w.heap.size 5 .u8 v' (enc ns.length ++ encs ns) ∧ Below w.heap.size w w' := by
  obtain ⟨ao, cap, rfl, h1, h2, h3⟩ := hn.val
  have HN := Lib.hid hn; clear hn h3
  have hul : U64 ns.length := u64_of_le (by omega)
  have hl := enc_len10 hul
  go_enter Try.func21, Try.ntmps21
  go_wp2_with fail
  refine (refBytes_any ns.length _ hul).mono ?_
  rintro e w1 ⟨v1, rfl, ho, hb⟩
  go_wp2
  go_loopw [3, 4] (fun v i wr => ∃ k : Nat, k ≤ ns.length ∧ i = .int .i64 (k : Int) ∧ Owns wr w.heap.size 5 .u8 v (enc ns.length ++ encs (ns.take k)) ∧ Below w.heap.size w wr)
    (fun _ i _ => ns.length - (intOf i).toNat)
  case atStart => exact ⟨0, Nat.zero_le _, rfl, by simpa [encs] using ho, hb⟩
  case round =>
    obtain ⟨k, hk, rfl, ho1, hb1⟩ := hrel
    by_cases hlt : k < ns.length
    · obtain ⟨b, off, rfl, hbl, hc⟩ := HN.out.at hlt
      have hcc := (hb1.cell (p := ⟨b, off + k, none⟩) hbl).trans (hc k hlt)
      have hts := take_snoc ns k hlt
      have hxm := hu _ (getD_mem ns k hlt)
      have hel := encs_len (l := ns.take k) fun n hn => hu n (List.mem_of_mem_take hn)
      have hel2 : (ns.take k).length ≤ k := List.length_take_le _ _
      generalize ns.getD k 0 = x at hcc hts hxm
      have HT := Lib.hid hts
      clear hts hc
      have hl2 := enc_len10 hxm
      go_wp2_with fail
      refine (refBytes_any x _ hxm).mono ?_
      rintro e w2 ⟨v2, rfl, ho2, hb2⟩
      have ho3 := ho1.below hb2 (Nat.le_refl _)
      have hb3 := hb1.trans (hb2.mono hb1.size)
      go_wp2_with (at_builtin; go_must (refine wpList_app _ rfl _ _ 22 rfl w.heap.size 5 (.int .u8 0) 1 Try.underlying22 Try.info5 rfl .u8 _ (enc ns.length ++ encs (ns.take k)) rfl ho3 _ (enc x) rfl (by have := ho2.reads; obtain ⟨ao, cap, hv, _⟩ := this.val; exact this) (by decide) ?c1 ?c3 ?_))
      case c1 => (try simp); omega
      case c3 => exact hb3.size
      intro v' w4 ho4 hg
      go_wp2
      go_roundw
      case rel => exact ⟨k + 1, by omega, by go_num, by rw [HT.out, encs_snoc]; simpa using ho4, hb3.grown hg hb3.size (fun j hj => (ho3.lt j hj).1)⟩
      case measure => simp [intOf]; omega
    · go_wp2
      go_ret
      obtain rfl : k = ns.length := by omega
      exact ⟨_, rfl, by simpa using ho1, hb1⟩

/-- Bytes as a string, told apart by what they are. -/
theorem str_eq {a b : List Nat} (ha : ∀ x ∈ a, x < 256) (hb : ∀ x ∈ b, x < 256) : (strOfNums (a.map (fun n : Nat => (n : Int))) = strOfNums (b.map (fun n : Nat => (n : Int)))) ↔ a = b := by
  constructor
  · intro h
    have h1 := congrArg (fun s : ByteArray => s.data.toList) h
    simp only [strOfNums_data, List.map_map] at h1
    have h2 := congrArg (List.map UInt8.toNat) h1
    simp only [List.map_map] at h2
    have e : ∀ l : List Nat, (∀ x ∈ l, x < 256) → l.map (UInt8.toNat ∘ (fun n : Int => UInt8.ofNat n.toNat) ∘ fun n : Nat => (n : Int)) = l := by
      intro l hl
      conv => rhs; rw [← List.map_id l]
      apply List.map_congr_left
      intro x hx
      have := hl x hx
      simp [Nat.mod_eq_of_lt this]
    rw [e a ha, e b hb] at h2
    exact h2
  · rintro rfl; rfl

theorem getD_map (l : List Nat) (i : Nat) (h : i < l.length) : (l.map (fun n : Nat => (n : Int))).getD i 0 = ((l.getD i 0 : Nat) : Int) := by
  simp [List.getD, List.getElem?_eq_getElem h]

/-- The run of the conversion of a slice that reads as bytes. -/
theorem conv_reads (v : Value) (l : List Nat) (w : World) (hr : Reads w .u8 v l) :
    (convert 22 9 v).run Try.prog w = .ok (.string (strOfNums (l.map (fun n : Nat => (n : Int))))) w := by
  obtain ⟨ao, cap, rfl, h1, h2, h3⟩ := hr.val
  rcases Nat.eq_zero_or_pos l.length with h0 | h0
  · obtain rfl : l = [] := List.length_eq_zero_iff.1 h0
    cases ao with
    | none => exact run_convert_bytes_nil (P := Try.prog) w 22 5 Try.underlying22 Try.underlying5 _ _ 9 Try.underlying9
    | some ad =>
      rw [run_convert_bytes_string w 22 9 5 _ _ cap Try.underlying22 Try.underlying5 Try.underlying9]
      rw [run_bytesToString w ad _ cap [] (by simp [loadCells, loadCellsFrom])]
      rfl
  · obtain ⟨b, off, rfl, _, hc⟩ := hr.at h0
    exact run_convert_bytes_arg (P := Try.prog) w 22 5 Try.underlying22 Try.underlying5 b off l.length cap _ (by simp) (fun i hi => by rw [hc i hi, getD_map l i hi]) 9 Try.underlying9

theorem str_beq {a b : List Nat} (ha : ∀ x ∈ a, x < 256) (hb : ∀ x ∈ b, x < 256) :
    ((strOfNums (a.map (fun n : Nat => (n : Int)))).toList == (strOfNums (b.map (fun n : Nat => (n : Int)))).toList) = decide (a = b) := by
  rw [Bool.eq_iff_iff, beq_iff_eq, decide_eq_true_iff, ByteArray.toList_eq, ByteArray.toList_eq, ← str_eq ha hb]
  constructor
  · intro h
    have h2 := Array.toList_inj.1 h
    exact ByteArray.ext h2
  · intro h; rw [h]

set_option maxHeartbeats 400000 in
set_option maxRecDepth 100000 in
theorem numBytes_any (v1 v2 : Value) (a b : List Nat) (w : World) (h1 : Reads w .u8 v1 a) (h2 : Reads w .u8 v2 b) (ha : ∀ x ∈ a, x < 256) (hb : ∀ x ∈ b, x < 256) :
    Calls Try.prog 16 #[v1, v2] w fun e w' => e = .returned (.bool (decide (a = b))) ∧ w = w' := by
  have c1 := conv_reads v1 a w h1
  have c2 := conv_reads v2 b w h2
  have hs := str_beq ha hb
  generalize strOfNums (a.map (fun n : Nat => (n : Int))) = sa at c1 hs
  generalize strOfNums (b.map (fun n : Nat => (n : Int))) = sb at c2 hs
  have HS := Lib.hid hs; clear hs
  go_enter Try.func16, Try.ntmps16
  go_wp2
  go_ret
  exact ⟨congrArg (fun b => Ending.returned (Value.bool b)) HS.out, rfl⟩

end Go.Proofs.Ytlaloddmlkkbgaa
