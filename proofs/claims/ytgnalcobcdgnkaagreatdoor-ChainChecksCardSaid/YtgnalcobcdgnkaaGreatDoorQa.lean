/- The contracts of what puts numbers: putGroups, bytes.Clone, Put, PutText, PutList. · The contracts of the document's own bytes (the reference package), and of the comparison of bytes. · The contracts of Take and of the document's Take. · The contract of the document's own Take. -/
import Derived.Test.YtgnalcobcdgnkaaGreatDoorRows
import Derived.Test.YtgnalcobcdgnkaaGreatDoorBase
import Derived.Test.YtgnalcobcdgnkaaGreatDoorEnP
import Derived.Test.YtgnalcobcdgnkaaGreatDoorDaP
import Derived.WalkSpells
import Derived.Deep.QuietTactic
import Derived.BigQuiet
import Derived.Deep.RegionWith
namespace Go.Proofs.YtgnalcobcdgnkaaGreatDoor
open Go.RowKit

set_option maxHeartbeats 400000 in
set_option maxRecDepth 100000 in
theorem putGroups_any (base : Nat) (v : Value) (xs : List Nat) (n : Nat) (w : World) (hown : Owns w base 5 .u8 v xs) (hbase : base ≤ w.heap.size)
    (hn : U64 n) (hx : xs.length ≤ 100000000000000) :
    Calls Tryz.prog 52 #[v, .int .u64 (n : Int)] w fun e w' => ∃ v', e = .returned v' ∧ Owns w' base 5 .u8 v' (xs ++ enc n) ∧ Below base w w' := by
  go_enter Tryz.func52, Tryz.ntmps52
  go_wp2
  go_loopw [0, 1] (fun v i wr => ∃ (m : Nat) (done : List Nat), U64 m ∧ i = .int .u64 (m : Int) ∧ enc n = done ++ enc m ∧ Owns wr base 5 .u8 v (xs ++ done) ∧ Below base w wr)
    (fun _ i _ => (intOf i).toNat)
  case atStart => exact ⟨n, [], hn, rfl, rfl, by simpa using hown, Below.refl _ _⟩
  case round =>
    obtain ⟨m, done, hm, rfl, he, ho, hb⟩ := hrel
    have HE := Lib.hid he; clear he
    by_cases hlt : 128 ≤ (m : Int)
    · have hlen := enc_len10 hn
      have hdl : done.length < 10 := by have := congrArg List.length HE.out; have := enc_pos m; simp at *; omega
      go_wp2_with (at_builtin; go_must (refine wpList_app _ rfl _ _ 61 rfl base 5 (.int .u8 0) 1 Tryz.underlying61 Tryz.info5 rfl .u8 _ (xs ++ done) rfl (ho.alloc _) _ [m % 128 + 128] rfl ?r (by decide) ?c1 ?c3 ?_))
      case r => rw [or128]; exact reads_new _ _ _ _
      case c1 => (try simp); omega
      case c3 => have := hb.size; simp; omega
      intro v' w1 ho1 hg
      go_wp2
      go_roundw
      case rel =>
        refine ⟨m / 128, done ++ [m % 128 + 128], hm.div _, rfl, ?_, ?_, ?_⟩
        · rw [HE.out, enc_big (by omega)]; simp
        · exact ho1
        · have hs := hb.size
          exact (hb.alloc (by omega) _).grown hg (by simp; omega) (fun j hj => (ho.lt j hj).1)
      case measure => simp [intOf]; omega
    · have hlen := enc_len10 hn
      have hdl : done.length < 10 := by have := congrArg List.length HE.out; have := enc_pos m; simp at *; omega
      have hmm : (m : Int) % 256 = (m : Int) := by omega
      go_wp2_with (at_builtin; go_must (refine wpList_app _ rfl _ _ 61 rfl base 5 (.int .u8 0) 1 Tryz.underlying61 Tryz.info5 rfl .u8 _ (xs ++ done) rfl (ho.alloc _) _ [m] rfl ?r (by decide) ?c1 ?c3 ?_))
      case r => exact reads_new _ _ _ _
      case c1 => (try simp); omega
      case c3 => have := hb.size; simp; omega
      intro v' w1 ho1 hg
      go_wp2
      go_ret
      refine ⟨_, rfl, ?_, ?_⟩
      · rw [HE.out, enc_small (by omega)]; exact ho1
      · have hs := hb.size
        exact (hb.alloc (by omega) _).grown hg (by simp; omega) (fun j hj => (ho.lt j hj).1)

set_option maxHeartbeats 400000 in
set_option maxRecDepth 100000 in
theorem put_any (v nv : Value) (xs ns : List Nat) (w : World) (hr : Reads w .u8 v xs) (hn : Reads w .u64 nv ns) (hu : ∀ n ∈ ns, U64 n) (hx : xs.length + 10 * ns.length ≤ 90000000000000) :
    Calls Tryz.prog 41 #[v, nv] w fun e w' => ∃ v', e = .returned v' ∧ Owns w' w.heap.size 5 .u8 v' (xs ++ encs ns) ∧ Below w.heap.size w w' := by
  obtain ⟨ao, cap, rfl, h1, h2, h3⟩ := hn.val
  have HN := Lib.hid hn; clear hn h3
  go_enter Tryz.func41, Tryz.ntmps41
  go_wp2_with fail
  refine (clone_any v xs w hr (by omega)).mono ?_
  rintro e w1 ⟨v1, rfl, ho, hb⟩
  go_wp2
  go_loopw [5, 6, 11] (fun v j i wr => ∃ k : Nat, k ≤ ns.length ∧ i = .int .i64 (k : Int) ∧ Owns wr w.heap.size 5 .u8 v (xs ++ encs (ns.take k)) ∧ Below w.heap.size w wr)
    (fun _ _ i _ => ns.length - (intOf i).toNat)
  case atStart => exact ⟨0, Nat.zero_le _, rfl, by simpa [encs] using ho, hb⟩
  case round =>
    obtain ⟨k, hk, rfl, ho1, hb1⟩ := hrel
    by_cases hlt : k < ns.length
    · obtain ⟨b, off, rfl, hbl, hc⟩ := HN.out.at hlt
      have hcc := (hb1.cell (p := ⟨b, off + k, none⟩) hbl).trans (hc k hlt)
      have hts := take_snoc ns k hlt
      have hxm := hu _ (getD_mem ns k hlt)
      have hel := encs_len (l := ns.take k) fun n hn => hu n (List.mem_of_mem_take hn)
      have hel2 : (ns.take k).length ≤ k := List.length_take_le _ _
      generalize ns.getD k 0 = x at hcc hts hxm
      have HT := Lib.hid hts
      clear hts hc
      go_wp2_with fail
      refine (putGroups_any w.heap.size _ _ x _ ho1 hb1.size hxm (by simp; omega)).mono ?_
      rintro e w2 ⟨v2, rfl, ho2, hb2⟩
      go_wp2
      go_roundw
      case rel => exact ⟨k + 1, by omega, by go_num, by rw [HT.out, encs_snoc, ← List.append_assoc]; exact ho2, hb1.trans hb2⟩
      case measure => simp [intOf]; omega
    · go_wp2
      go_ret
      obtain rfl : k = ns.length := by omega
      exact ⟨_, rfl, by simpa using ho1, hb1⟩

/-- One number, in a row that the call has just made. -/
theorem reads_lit (w : World) (k : IntKind) (e : TypeId) (n : Nat) : Reads (w.alloc (.cells #[.int k (n : Int)] e)) k (.slice (some ⟨w.heap.size, 0, none⟩) 1 1) [n] := reads_new w k e n

theorem u64_of_le {n : Nat} (h : n ≤ 100000000000000) : U64 n := by unfold U64; omega

set_option maxHeartbeats 400000 in
set_option maxRecDepth 100000 in
theorem putText_any (v tv : Value) (xs ts : List Nat) (w : World) (hr : Reads w .u8 v xs) (ht : Reads w .u8 tv ts) (hx : xs.length + ts.length ≤ 80000000000000) :
    Calls Tryz.prog 64 #[v, tv] w fun e w' => ∃ v', e = .returned v' ∧ Owns w' w.heap.size 5 .u8 v' (xs ++ enc ts.length ++ ts) ∧ Below w.heap.size w w' := by
  obtain ⟨ao, cap, rfl, h1, h2, h3⟩ := ht.val
  have HT := Lib.hid ht; clear ht h3
  have hu : U64 ts.length := u64_of_le (by omega)
  have hl := enc_len10 hu
  go_enter Tryz.func64, Tryz.ntmps64
  go_wp2_with fail
  refine (put_any v _ xs [ts.length] _ (hr.below ((Below.refl _ _).alloc (Nat.le_refl _) _) (Nat.le_refl _)) (reads_lit _ _ _ _) (by simpa using hu) (by simp; omega)).mono ?_
  rintro e w1 ⟨v1, rfl, ho, hb⟩
  simp only [World.size_alloc] at ho hb
  have hb0 : Below w.heap.size w w1 := ((Below.refl _ _).alloc (Nat.le_refl _) _).trans (hb.mono (by simp))
  have ho' : Owns w1 w.heap.size 5 .u8 v1 (xs ++ enc ts.length) := by have := ho.mono (base' := w.heap.size) (by simp); simpa [encs] using this
  go_wp2_with (at_builtin; go_must (refine wpList_app _ rfl _ _ 61 rfl w.heap.size 5 (.int .u8 0) 1 Tryz.underlying61 Tryz.info5 rfl .u8 _ (xs ++ enc ts.length) rfl ho' _ ts rfl (HT.out.below hb0 (Nat.le_refl _)) (by decide) ?c1 ?c3 ?_))
  case c1 => (try simp); omega
  case c3 => exact hb0.size
  intro v' w2 ho2 hg
  go_wp2
  go_ret
  exact ⟨_, rfl, by simpa using ho2, hb0.grown hg hb0.size (fun j hj => (ho'.lt j hj).1)⟩


end Go.Proofs.YtgnalcobcdgnkaaGreatDoor

namespace Go.Proofs.YtgnalcobcdgnkaaGreatDoor
open Go.RowKit

theorem U64.int {n : Nat} (h : U64 n) : (n : Int) ≤ 18446744073709551615 := by unfold U64 at h; omega

set_option maxHeartbeats 400000 in
set_option maxRecDepth 100000 in
theorem refBytes_any (n : Nat) (w : World) (hn : U64 n) :
    Calls Tryz.prog 34 #[.int .u64 (n : Int)] w fun e w' => ∃ v', e = .returned v' ∧ Owns w' w.heap.size 5 .u8 v' (enc n) ∧ Below w.heap.size w w' := by
  have hlen := enc_len10 hn
  go_enter Tryz.func34, Tryz.ntmps34
  go_wp2
  go_loopw [0, 3, 4] (fun i v g wr => ∃ (m : Nat) (done : List Nat), U64 m ∧ i = .int .u64 (m : Int) ∧ enc n = done ++ enc m ∧ Owns wr w.heap.size 5 .u8 v done ∧ Below w.heap.size w wr)
    (fun i _ _ _ => (intOf i).toNat)
  case atStart => exact ⟨n, [], hn, rfl, rfl, owns_empty _ _ _ _ (Nat.le_refl _), (Below.refl _ _).alloc (Nat.le_refl _) _⟩
  case round =>
    obtain ⟨m, done, hm, rfl, he, ho, hb⟩ := hrel
    have HE := Lib.hid he; clear he
    have hdl : done.length < 10 := by have := congrArg List.length HE.out; have := enc_pos m; simp at *; omega
    have hmi := hm.int
    by_cases hlt : (m : Int) < 128
    · have hz : ((m : Int) / 128 == 0) = true := by rw [beq_iff_eq]; omega
      go_wp2_with (at_builtin; go_must (refine wpList_app _ rfl _ _ 61 rfl w.heap.size 5 (.int .u8 0) 1 Tryz.underlying61 Tryz.info5 rfl .u8 _ done rfl (ho.alloc _) _ [m] rfl ?r (by decide) ?c1 ?c3 ?_))
      case r => rw [show (m : Int) % 128 = (m : Int) from by omega]; exact reads_new _ _ _ _
      case c1 => (try simp); omega
      case c3 => have := hb.size; simp; omega
      intro v' w1 ho1 hg
      go_wp2
      go_ret
      refine ⟨_, rfl, ?_, ?_⟩
      · rw [HE.out, enc_small (by omega)]; exact ho1
      · have hs := hb.size
        exact (hb.alloc (by omega) _).grown hg (by simp; omega) (fun j hj => (ho.lt j hj).1)
    · have hz : ((m : Int) / 128 == 0) = false := by rw [beq_eq_false_iff_ne]; omega
      go_wp2_with (at_builtin; go_must (refine wpList_app _ rfl _ _ 61 rfl w.heap.size 5 (.int .u8 0) 1 Tryz.underlying61 Tryz.info5 rfl .u8 _ done rfl (ho.alloc _) _ [m % 128 + 128] rfl ?r (by decide) ?c1 ?c3 ?_))
      case r => exact reads_new _ _ _ _
      case c1 => (try simp); omega
      case c3 => have := hb.size; simp; omega
      intro v' w1 ho1 hg
      go_wp2
      go_roundw
      case rel =>
        refine ⟨m / 128, done ++ [m % 128 + 128], hm.div _, rfl, ?_, ho1, ?_⟩
        · rw [HE.out, enc_big (by omega)]; simp
        · have hs := hb.size
          exact (hb.alloc (by omega) _).grown hg (by simp; omega) (fun j hj => (ho.lt j hj).1)
      case measure => simp [intOf]; omega

set_option maxHeartbeats 400000 in
set_option maxRecDepth 100000 in
theorem refText_any (tv : Value) (ts : List Nat) (w : World) (ht : Reads w .u8 tv ts) (hx : ts.length ≤ 80000000000000) :
    Calls Tryz.prog 48 #[tv] w fun e w' => ∃ v', e = .returned v' ∧ Owns w' w.heap.size 5 .u8 v' (enc ts.length ++ ts) ∧ Below w.heap.size w w' := by
  obtain ⟨ao, cap, rfl, h1, h2, h3⟩ := ht.val
  have HT := Lib.hid ht; clear ht h3
  have hu : U64 ts.length := u64_of_le (by omega)
  have hl := enc_len10 hu
  go_enter Tryz.func48, Tryz.ntmps48
  go_wp2_with fail
  refine (refBytes_any ts.length _ hu).mono ?_
  rintro e w1 ⟨v1, rfl, ho, hb⟩
  go_wp2_with (at_builtin; go_must (refine wpList_app _ rfl _ _ 61 rfl w.heap.size 5 (.int .u8 0) 1 Tryz.underlying61 Tryz.info5 rfl .u8 _ (enc ts.length) rfl ho _ ts rfl (HT.out.below hb (Nat.le_refl _)) (by decide) ?c1 ?c3 ?_))
  case c1 => (try simp); omega
  case c3 => exact hb.size
  intro v' w2 ho2 hg
  go_wp2
  go_ret
  exact ⟨_, rfl, ho2, hb.grown hg hb.size (fun j hj => (ho.lt j hj).1)⟩

end Go.Proofs.YtgnalcobcdgnkaaGreatDoor

namespace Go.Proofs.YtgnalcobcdgnkaaGreatDoor
open Go.RowKit

end Go.Proofs.YtgnalcobcdgnkaaGreatDoor

namespace Go.Proofs.YtgnalcobcdgnkaaGreatDoor
open Go.RowKit

/-- 64 bits of a number (kept behind a name). -/
def lo64 (n : Nat) : Nat := n % 18446744073709551616
end Go.Proofs.YtgnalcobcdgnkaaGreatDoor
