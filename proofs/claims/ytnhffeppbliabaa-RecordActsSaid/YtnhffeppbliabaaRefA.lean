/- The contracts of the document's own bytes (the reference package), and of the comparison of bytes. -/
import Derived.Test.YtnhffeppbliabaaPutA
namespace Go.Proofs.Ytnhffeppbliabaa
open Go.RowKit

theorem U64.int {n : Nat} (h : U64 n) : (n : Int) ≤ 18446744073709551615 := by unfold U64 at h; omega

set_option maxHeartbeats 400000 in
set_option maxRecDepth 100000 in
theorem refBytes_any (n : Nat) (w : World) (hn : U64 n) :
    Calls Try.prog 75 #[.int .u64 (n : Int)] w fun e w' => ∃ v', e = .returned v' ∧ Owns w' w.heap.size 5 .u8 v' (enc n) ∧ Below w.heap.size w w' := by
  have hlen := enc_len10 hn
  go_enter Try.func75, Try.ntmps75
  go_wp2
  go_loopw [0, 3, 4] (fun i v g wr => ∃ (m : Nat) (done : List Nat), U64 m ∧ i = .int .u64 (m : Int) ∧ enc n = done ++ enc m ∧ Owns wr w.heap.size 5 .u8 v done ∧ Below w.heap.size w wr)
    (fun i _ _ _ => (intOf i).toNat)
  case atStart => exact ⟨n, [], hn, rfl, rfl, owns_empty _ _ _ _ (Nat.le_refl _), (Below.refl _ _).alloc (Nat.le_refl _) _⟩
  case round =>
    obtain ⟨m, done, hm, rfl, he, ho, hb⟩ := hrel
    have HE := Lib.hid he; clear he
    have hdl : done.length < 10 := by have := congrArg List.length HE.out; have := enc_pos m; simp at *; omega
    have hmi := hm.int
    by_cases hlt : (m : Int) < 128
    · have hz : ((m : Int) / 128 == 0) = true := by rw [beq_iff_eq]; omega
      go_wp2_with (at_builtin; go_must (refine wpList_app _ rfl _ _ 29 rfl w.heap.size 5 (.int .u8 0) 1 Try.underlying29 Try.info5 rfl .u8 _ done rfl (ho.alloc _) _ [m] rfl ?r (by decide) ?c1 ?c3 ?_))
      case r => rw [show (m : Int) % 128 = (m : Int) from by omega]; exact reads_new _ _ _ _
      case c1 => (try simp); omega
      case c3 => have := hb.size; simp; omega
      intro v' w1 ho1 hg
      go_wp2
      go_ret
      refine ⟨_, rfl, ?_, ?_⟩
      · rw [HE.out, enc_small (by omega)]; exact ho1
      · have hs := hb.size
        exact (hb.alloc (by omega) _).grown hg (by simp; omega) (fun j hj => (ho.lt j hj).1)
    · have hz : ((m : Int) / 128 == 0) = false := by rw [beq_eq_false_iff_ne]; omega
      go_wp2_with (at_builtin; go_must (refine wpList_app _ rfl _ _ 29 rfl w.heap.size 5 (.int .u8 0) 1 Try.underlying29 Try.info5 rfl .u8 _ done rfl (ho.alloc _) _ [m % 128 + 128] rfl ?r (by decide) ?c1 ?c3 ?_))
      case r => exact reads_new _ _ _ _
      case c1 => (try simp); omega
      case c3 => have := hb.size; simp; omega
      intro v' w1 ho1 hg
      go_wp2
      go_roundw
      case rel =>
        refine ⟨m / 128, done ++ [m % 128 + 128], hm.div _, rfl, ?_, ho1, ?_⟩
        · rw [HE.out, enc_big (by omega)]; simp
        · have hs := hb.size
          exact (hb.alloc (by omega) _).grown hg (by simp; omega) (fun j hj => (ho.lt j hj).1)
      case measure => simp [intOf]; omega

set_option maxHeartbeats 400000 in
set_option maxRecDepth 100000 in
theorem refText_any (tv : Value) (ts : List Nat) (w : World) (ht : Reads w .u8 tv ts) (hx : ts.length ≤ 80000000000000) :
    Calls Try.prog 76 #[tv] w fun e w' => ∃ v', e = .returned v' ∧ Owns w' w.heap.size 5 .u8 v' (enc ts.length ++ ts) ∧ Below w.heap.size w w' := by
  obtain ⟨ao, cap, rfl, h1, h2, h3⟩ := ht.val
  have HT := Lib.hid ht; clear ht h3
  have hu : U64 ts.length := u64_of_le (by omega)
  have hl := enc_len10 hu
  go_enter Try.func76, Try.ntmps76
  go_wp2_with fail
  refine (refBytes_any ts.length _ hu).mono ?_
  rintro e w1 ⟨v1, rfl, ho, hb⟩
  go_wp2_with (at_builtin; go_must (refine wpList_app _ rfl _ _ 29 rfl w.heap.size 5 (.int .u8 0) 1 Try.underlying29 Try.info5 rfl .u8 _ (enc ts.length) rfl ho _ ts rfl (HT.out.below hb (Nat.le_refl _)) (by decide) ?c1 ?c3 ?_))
  case c1 => (try simp); omega
  case c3 => exact hb.size
  intro v' w2 ho2 hg
  go_wp2
  go_ret
  exact ⟨_, rfl, ho2, hb.grown hg hb.size (fun j hj => (ho.lt j hj).1)⟩

end Go.Proofs.Ytnhffeppbliabaa
