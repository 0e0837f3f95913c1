/- The contracts of what puts numbers: putGroups, bytes.Clone, Put, PutText, PutList. · The contracts of the document's own bytes (the reference package), and of the comparison of bytes. · The contracts of Take and of the document's Take. · The contract of the document's own Take. -/
import Derived.Test.YtpebmmhokigglaaGreatDoorRows
import Derived.Test.YtpebmmhokigglaaGreatDoorBase
import Derived.Test.YtpebmmhokigglaaGreatDoorEnP
import Derived.Test.YtpebmmhokigglaaGreatDoorDaP
import Derived.WalkSpells
import Derived.Deep.QuietTactic
import Derived.BigQuiet
import Derived.Deep.RegionWith
namespace Go.Proofs.YtpebmmhokigglaaGreatDoor
open Go.RowKit

set_option maxHeartbeats 400000 in
set_option maxRecDepth 100000 in
theorem putGroups_any (base : Nat) (v : Value) (xs : List Nat) (n : Nat) (w : World) (hown : Owns w base 5 .u8 v xs) (hbase : base ≤ w.heap.size)
    (hn : U64 n) (hx : xs.length ≤ 100000000000000) :
    Calls Tryz.prog 62 #[v, .int .u64 (n : Int)] w fun e w' => ∃ v', e = .returned v' ∧ Owns w' base 5 .u8 v' (xs ++ enc n) ∧ Below base w w' := by
  go_enter Tryz.func62, Tryz.ntmps62
  go_wp2
  go_loopw [0, 1] (fun v i wr => ∃ (m : Nat) (done : List Nat), U64 m ∧ i = .int .u64 (m : Int) ∧ enc n = done ++ enc m ∧ Owns wr base 5 .u8 v (xs ++ done) ∧ Below base w wr)
    (fun _ i _ => (intOf i).toNat)
  case atStart => exact ⟨n, [], hn, rfl, rfl, by simpa using hown, Below.refl _ _⟩
  case round =>
    obtain ⟨m, done, hm, rfl, he, ho, hb⟩ := hrel
    have HE := Lib.hid he; clear he
    by_cases hlt : 128 ≤ (m : Int)
    · have hlen := enc_len10 hn
      have hdl : done.length < 10 := by have := congrArg List.length HE.out; have := enc_pos m; simp at *; omega
      go_wp2_with (at_builtin; go_must (refine wpList_app _ rfl _ _ 29 rfl base 5 (.int .u8 0) 1 Tryz.underlying29 Tryz.info5 rfl .u8 _ (xs ++ done) rfl (ho.alloc _) _ [m % 128 + 128] rfl ?r (by decide) ?c1 ?c3 ?_))
      case r => rw [or128]; exact reads_new _ _ _ _
      case c1 => (try simp); omega
      case c3 => have := hb.size; simp; omega
      intro v' w1 ho1 hg
      go_wp2
      go_roundw
      case rel =>
        refine ⟨m / 128, done ++ [m % 128 + 128], hm.div _, rfl, ?_, ?_, ?_⟩
        · rw [HE.out, enc_big (by omega)]; simp
        · exact ho1
        · have hs := hb.size
          exact (hb.alloc (by omega) _).grown hg (by simp; omega) (fun j hj => (ho.lt j hj).1)
      case measure => simp [intOf]; omega
    · have hlen := enc_len10 hn
      have hdl : done.length < 10 := by have := congrArg List.length HE.out; have := enc_pos m; simp at *; omega
      have hmm : (m : Int) % 256 = (m : Int) := by omega
      go_wp2_with (at_builtin; go_must (refine wpList_app _ rfl _ _ 29 rfl base 5 (.int .u8 0) 1 Tryz.underlying29 Tryz.info5 rfl .u8 _ (xs ++ done) rfl (ho.alloc _) _ [m] rfl ?r (by decide) ?c1 ?c3 ?_))
      case r => exact reads_new _ _ _ _
      case c1 => (try simp); omega
      case c3 => have := hb.size; simp; omega
      intro v' w1 ho1 hg
      go_wp2
      go_ret
      refine ⟨_, rfl, ?_, ?_⟩
      · rw [HE.out, enc_small (by omega)]; exact ho1
      · have hs := hb.size
        exact (hb.alloc (by omega) _).grown hg (by simp; omega) (fun j hj => (ho.lt j hj).1)

set_option maxHeartbeats 400000 in
set_option maxRecDepth 100000 in
theorem put_any (v nv : Value) (xs ns : List Nat) (w : World) (hr : Reads w .u8 v xs) (hn : Reads w .u64 nv ns) (hu : ∀ n ∈ ns, U64 n) (hx : xs.length + 10 * ns.length ≤ 90000000000000) :
    Calls Tryz.prog 32 #[v, nv] w fun e w' => ∃ v', e = .returned v' ∧ Owns w' w.heap.size 5 .u8 v' (xs ++ encs ns) ∧ Below w.heap.size w w' := by
  obtain ⟨ao, cap, rfl, h1, h2, h3⟩ := hn.val
  have HN := Lib.hid hn; clear hn h3
  go_enter Tryz.func32, Tryz.ntmps32
  go_wp2_with fail
  refine (clone_any v xs w hr (by omega)).mono ?_
  rintro e w1 ⟨v1, rfl, ho, hb⟩
  go_wp2
  go_loopw [5, 6, 11] (fun v j i wr => ∃ k : Nat, k ≤ ns.length ∧ i = .int .i64 (k : Int) ∧ Owns wr w.heap.size 5 .u8 v (xs ++ encs (ns.take k)) ∧ Below w.heap.size w wr)
    (fun _ _ i _ => ns.length - (intOf i).toNat)
  case atStart => exact ⟨0, Nat.zero_le _, rfl, by simpa [encs] using ho, hb⟩
  case round =>
    obtain ⟨k, hk, rfl, ho1, hb1⟩ := hrel
    by_cases hlt : k < ns.length
    · obtain ⟨b, off, rfl, hbl, hc⟩ := HN.out.at hlt
      have hcc := (hb1.cell (p := ⟨b, off + k, none⟩) hbl).trans (hc k hlt)
      have hts := take_snoc ns k hlt
      have hxm := hu _ (getD_mem ns k hlt)
      have hel := encs_len (l := ns.take k) fun n hn => hu n (List.mem_of_mem_take hn)
      have hel2 : (ns.take k).length ≤ k := List.length_take_le _ _
      generalize ns.getD k 0 = x at hcc hts hxm
      have HT := Lib.hid hts
      clear hts hc
      go_wp2_with fail
      refine (putGroups_any w.heap.size _ _ x _ ho1 hb1.size hxm (by simp; omega)).mono ?_
      rintro e w2 ⟨v2, rfl, ho2, hb2⟩
      go_wp2
      go_roundw
      case rel => exact ⟨k + 1, by omega, by go_num, by rw [HT.out, encs_snoc, ← List.append_assoc]; exact ho2, hb1.trans hb2⟩
      case measure => simp [intOf]; omega
    · go_wp2
      go_ret
      obtain rfl : k = ns.length := by omega
      exact ⟨_, rfl, by simpa using ho1, hb1⟩

/-- One number, in a row that the call has just made. -/
theorem reads_lit (w : World) (k : IntKind) (e : TypeId) (n : Nat) : Reads (w.alloc (.cells #[.int k (n : Int)] e)) k (.slice (some ⟨w.heap.size, 0, none⟩) 1 1) [n] := reads_new w k e n

theorem u64_of_le {n : Nat} (h : n ≤ 100000000000000) : U64 n := by unfold U64; omega

set_option maxHeartbeats 400000 in
set_option maxRecDepth 100000 in
theorem putText_any (v tv : Value) (xs ts : List Nat) (w : World) (hr : Reads w .u8 v xs) (ht : Reads w .u8 tv ts) (hx : xs.length + ts.length ≤ 80000000000000) :
    Calls Tryz.prog 100 #[v, tv] w fun e w' => ∃ v', e = .returned v' ∧ Owns w' w.heap.size 5 .u8 v' (xs ++ enc ts.length ++ ts) ∧ Below w.heap.size w w' := by
  obtain ⟨ao, cap, rfl, h1, h2, h3⟩ := ht.val
  have HT := Lib.hid ht; clear ht h3
  have hu : U64 ts.length := u64_of_le (by omega)
  have hl := enc_len10 hu
  go_enter Tryz.func100, Tryz.ntmps100
  go_wp2_with fail
  refine (put_any v _ xs [ts.length] _ (hr.below ((Below.refl _ _).alloc (Nat.le_refl _) _) (Nat.le_refl _)) (reads_lit _ _ _ _) (by simpa using hu) (by simp; omega)).mono ?_
  rintro e w1 ⟨v1, rfl, ho, hb⟩
  simp only [World.size_alloc] at ho hb
  have hb0 : Below w.heap.size w w1 := ((Below.refl _ _).alloc (Nat.le_refl _) _).trans (hb.mono (by simp))
  have ho' : Owns w1 w.heap.size 5 .u8 v1 (xs ++ enc ts.length) := by have := ho.mono (base' := w.heap.size) (by simp); simpa [encs] using this
  go_wp2_with (at_builtin; go_must (refine wpList_app _ rfl _ _ 29 rfl w.heap.size 5 (.int .u8 0) 1 Tryz.underlying29 Tryz.info5 rfl .u8 _ (xs ++ enc ts.length) rfl ho' _ ts rfl (HT.out.below hb0 (Nat.le_refl _)) (by decide) ?c1 ?c3 ?_))
  case c1 => (try simp); omega
  case c3 => exact hb0.size
  intro v' w2 ho2 hg
  go_wp2
  go_ret
  exact ⟨_, rfl, by simpa using ho2, hb0.grown hg hb0.size (fun j hj => (ho'.lt j hj).1)⟩


end Go.Proofs.YtpebmmhokigglaaGreatDoor

namespace Go.Proofs.YtpebmmhokigglaaGreatDoor
open Go.RowKit

theorem U64.int {n : Nat} (h : U64 n) : (n : Int) ≤ 18446744073709551615 := by unfold U64 at h; omega

set_option maxHeartbeats 400000 in
set_option maxRecDepth 100000 in
theorem refBytes_any (n : Nat) (w : World) (hn : U64 n) :
    Calls Tryz.prog 50 #[.int .u64 (n : Int)] w fun e w' => ∃ v', e = .returned v' ∧ Owns w' w.heap.size 5 .u8 v' (enc n) ∧ Below w.heap.size w w' := by
  have hlen := enc_len10 hn
  go_enter Tryz.func50, Tryz.ntmps50
  go_wp2
  go_loopw [0, 3, 4] (fun i v g wr => ∃ (m : Nat) (done : List Nat), U64 m ∧ i = .int .u64 (m : Int) ∧ enc n = done ++ enc m ∧ Owns wr w.heap.size 5 .u8 v done ∧ Below w.heap.size w wr)
    (fun i _ _ _ => (intOf i).toNat)
  case atStart => exact ⟨n, [], hn, rfl, rfl, owns_empty _ _ _ _ (Nat.le_refl _), (Below.refl _ _).alloc (Nat.le_refl _) _⟩
  case round =>
    obtain ⟨m, done, hm, rfl, he, ho, hb⟩ := hrel
    have HE := Lib.hid he; clear he
    have hdl : done.length < 10 := by have := congrArg List.length HE.out; have := enc_pos m; simp at *; omega
    have hmi := hm.int
    by_cases hlt : (m : Int) < 128
    · have hz : ((m : Int) / 128 == 0) = true := by rw [beq_iff_eq]; omega
      go_wp2_with (at_builtin; go_must (refine wpList_app _ rfl _ _ 29 rfl w.heap.size 5 (.int .u8 0) 1 Tryz.underlying29 Tryz.info5 rfl .u8 _ done rfl (ho.alloc _) _ [m] rfl ?r (by decide) ?c1 ?c3 ?_))
      case r => rw [show (m : Int) % 128 = (m : Int) from by omega]; exact reads_new _ _ _ _
      case c1 => (try simp); omega
      case c3 => have := hb.size; simp; omega
      intro v' w1 ho1 hg
      go_wp2
      go_ret
      refine ⟨_, rfl, ?_, ?_⟩
      · rw [HE.out, enc_small (by omega)]; exact ho1
      · have hs := hb.size
        exact (hb.alloc (by omega) _).grown hg (by simp; omega) (fun j hj => (ho.lt j hj).1)
    · have hz : ((m : Int) / 128 == 0) = false := by rw [beq_eq_false_iff_ne]; omega
      go_wp2_with (at_builtin; go_must (refine wpList_app _ rfl _ _ 29 rfl w.heap.size 5 (.int .u8 0) 1 Tryz.underlying29 Tryz.info5 rfl .u8 _ done rfl (ho.alloc _) _ [m % 128 + 128] rfl ?r (by decide) ?c1 ?c3 ?_))
      case r => exact reads_new _ _ _ _
      case c1 => (try simp); omega
      case c3 => have := hb.size; simp; omega
      intro v' w1 ho1 hg
      go_wp2
      go_roundw
      case rel =>
        refine ⟨m / 128, done ++ [m % 128 + 128], hm.div _, rfl, ?_, ho1, ?_⟩
        · rw [HE.out, enc_big (by omega)]; simp
        · have hs := hb.size
          exact (hb.alloc (by omega) _).grown hg (by simp; omega) (fun j hj => (ho.lt j hj).1)
      case measure => simp [intOf]; omega

set_option maxHeartbeats 400000 in
set_option maxRecDepth 100000 in
theorem refText_any (tv : Value) (ts : List Nat) (w : World) (ht : Reads w .u8 tv ts) (hx : ts.length ≤ 80000000000000) :
    Calls Tryz.prog 87 #[tv] w fun e w' => ∃ v', e = .returned v' ∧ Owns w' w.heap.size 5 .u8 v' (enc ts.length ++ ts) ∧ Below w.heap.size w w' := by
  obtain ⟨ao, cap, rfl, h1, h2, h3⟩ := ht.val
  have HT := Lib.hid ht; clear ht h3
  have hu : U64 ts.length := u64_of_le (by omega)
  have hl := enc_len10 hu
  go_enter Tryz.func87, Tryz.ntmps87
  go_wp2_with fail
  refine (refBytes_any ts.length _ hu).mono ?_
  rintro e w1 ⟨v1, rfl, ho, hb⟩
  go_wp2_with (at_builtin; go_must (refine wpList_app _ rfl _ _ 29 rfl w.heap.size 5 (.int .u8 0) 1 Tryz.underlying29 Tryz.info5 rfl .u8 _ (enc ts.length) rfl ho _ ts rfl (HT.out.below hb (Nat.le_refl _)) (by decide) ?c1 ?c3 ?_))
  case c1 => (try simp); omega
  case c3 => exact hb.size
  intro v' w2 ho2 hg
  go_wp2
  go_ret
  exact ⟨_, rfl, ho2, hb.grown hg hb.size (fun j hj => (ho.lt j hj).1)⟩

end Go.Proofs.YtpebmmhokigglaaGreatDoor

namespace Go.Proofs.YtpebmmhokigglaaGreatDoor
open Go.RowKit

set_option maxHeartbeats 400000 in
set_option maxRecDepth 100000 in
theorem ends_yes (k x : Nat) (w : World) (h1 : k = 0 ∨ x ≠ 0) (h2 : k = 9 → x ≤ 1) :
    Calls Tryz.prog 116 #[.int .i64 (k : Int), .int .u8 (x : Int)] w fun e w' => e = .returned (.bool true) ∧ w = w' := by
  by_cases h9 : k = 9
  · have hx := h2 h9
    obtain rfl : x = 1 := by omega
    subst h9
    go_enter Tryz.func116, Tryz.ntmps116
    go_wp2
    go_ret
    exact ⟨rfl, rfl⟩
  · have t1 : ((k : Int) == 9) = false := by rw [beq_eq_false_iff_ne]; omega
    clear h2
    by_cases h0 : k = 0
    · subst h0
      go_enter Tryz.func116, Tryz.ntmps116
      go_wp2
      go_ret
      exact ⟨rfl, rfl⟩
    · have t2 : ((k : Int) == 0) = false := by rw [beq_eq_false_iff_ne]; omega
      have t3 : ((x : Int) != 0) = true := by rw [bne_iff_ne]; omega
      clear h1
      go_enter Tryz.func116, Tryz.ntmps116
      go_wp2
      go_ret
      exact ⟨rfl, rfl⟩

set_option maxHeartbeats 400000 in
set_option maxRecDepth 100000 in
theorem ends_no (k x : Nat) (w : World) (h : ¬ ((k = 0 ∨ x ≠ 0) ∧ (k = 9 → x ≤ 1))) :
    Calls Tryz.prog 116 #[.int .i64 (k : Int), .int .u8 (x : Int)] w fun e w' => e = .returned (.bool false) ∧ w = w' := by
  by_cases h9 : k = 9 ∧ 1 < x
  · obtain ⟨rfl, hx⟩ := h9
    go_enter Tryz.func116, Tryz.ntmps116
    go_wp2
    go_ret
    exact ⟨rfl, rfl⟩
  · have hx0 : x = 0 := by omega
    have hk0 : ((k : Int) == 0) = false := by rw [beq_eq_false_iff_ne]; omega
    subst hx0
    clear h h9
    by_cases h9 : k = 9
    · subst h9
      go_enter Tryz.func116, Tryz.ntmps116
      go_wp2
      go_ret
      exact ⟨rfl, rfl⟩
    · have t1 : ((k : Int) == 9) = false := by rw [beq_eq_false_iff_ne]; omega
      go_enter Tryz.func116, Tryz.ntmps116
      go_wp2
      go_ret
      exact ⟨rfl, rfl⟩

/-- What Take hands back beside the number and its size. -/
def formIf (ok : Bool) : Value := if ok then .nilIface else .iface 68 (.int .i64 2)

/-- What Take hands back. -/
def Took (b : List Nat) (w : World) (e : Ending) (w' : World) : Prop :=
  ∃ (n k : Nat) (ok : Bool), e = .returned (.tuple #[.int .u64 (n : Int), .int .i64 (k : Int), formIf ok]) ∧ Taken b n k (ok = true) ∧ w = w'

set_option maxHeartbeats 1000000 in
set_option maxRecDepth 100000 in
theorem take_any (v : Value) (b : List Nat) (w : World) (hr : Reads w .u8 v b) (hb : ∀ y ∈ b, y < 256) :
    Calls Tryz.prog 103 #[v] w (Took b w) := by
  obtain ⟨ao, cap, rfl, h1, h2, h3⟩ := hr.val
  have HR := Lib.hid hr; clear hr h3
  have hbl : b.length ≤ 9223372036854775807 := by unfold maxLen at h2; omega
  clear h1 h2
  go_enter Tryz.func103, Tryz.ntmps103
  go_wp2
  all_goals
    go_loop [5, 6, 10] (fun a j i => ∃ (k : Nat) (acc : Int), k ≤ min b.length 10 ∧ i = .int .i64 (k : Int) ∧ a = .int .u64 acc ∧ (k ≤ 9 → acc = (val (b.take k) : Nat)) ∧ ∀ j, j < k → 128 ≤ b.getD j 0)
      (fun _ _ i => min b.length 10 - (intOf i).toNat)
    case atStart => exact ⟨0, 0, Nat.zero_le _, rfl, rfl, fun _ => rfl, by omega⟩
    case round =>
      obtain ⟨k, acc, hk, rfl, rfl, ha, hge⟩ := hrel
      by_cases hlt : k < min b.length 10
      · obtain ⟨bl, off, rfl, hbw, hc⟩ := HR.out.at (i := k) (by omega)
        have hcc := hc k (by omega)
        have hx256 := hb _ (getD_mem b k (by omega))
        generalize hxe : b.getD k 0 = x at hcc hx256
        have HA := Lib.hid ha
        have HG := Lib.hid hge
        have HX := Lib.hid hxe
        clear ha hge hc hxe
        have hor := fun (hk9 : k ≤ 9) (h9 : k = 9 → x ≤ 1) => or_step k x (val (b.take k)) hk9 hx256 (by have := val_lt (b.take k); rwa [List.length_take, Nat.min_eq_left (by omega)] at this) h9
        have HO := Lib.hid hor
        clear hor
        have hts : ∀ (h : k < b.length), val (b.take (k + 1)) = val (b.take k) + 128 ^ k * (x % 128) := fun h => by rw [take_snoc b k h, val_snoc, HX.out, List.length_take, Nat.min_eq_left (by omega)]
        have HT := Lib.hid hts
        clear hts
        by_cases hx : (128 : Int) ≤ (x : Int)
        · go_wp2_with fail
          go_round
          case rel =>
            refine ⟨k + 1, _, by omega, by go_num, rfl, ?_, ?_⟩
            · intro h9
              rw [HA.out (by omega), HO.out (by omega) (by omega), HT.out (by omega)]
            · intro j hj
              rcases Nat.lt_or_ge j k with h | h
              · exact HG.out j h
              · obtain rfl : j = k := by omega
                rw [HX.out]; omega
          case measure => simp [intOf]; omega
        · have hst := taken_stop (b := b) (k := k) (by omega) (by omega) HG.out hb (by rw [HX.out]; omega)
          rw [HX.out] at hst
          have HS := Lib.hid hst
          clear hst
          by_cases hends : (k = 0 ∨ x ≠ 0) ∧ (k = 9 → x ≤ 1)
          · have HE := Lib.hid hends
            clear hends
            go_wp2_with (go_at_call 116; refine (ends_yes k x _ HE.out.1 HE.out.2).mono ?_; rintro e w' ⟨rfl, rfl⟩)
            go_ret3
            obtain ⟨s1, s2, s3⟩ := HS.out.1 HE.out
            refine ⟨_, k + 1, true, ?_, .inl ⟨rfl, s1, s2, s3.symm⟩, rfl⟩
            rw [HA.out (by omega)]
            rw [HT.out (by omega), ← HO.out (by omega) (HE.out.2)]
            rfl
          · have HE := Lib.hid hends
            clear hends
            go_wp2_with (go_at_call 116; refine (ends_no k x _ HE.out).mono ?_; rintro e w' ⟨rfl, rfl⟩)
            go_ret3
            exact ⟨0, 0, false, rfl, .inr ⟨by simp, rfl, rfl, HS.out.2 HE.out⟩, rfl⟩
      · have HG := Lib.hid hge
        clear hge ha
        go_wp2
        go_ret3
        exact ⟨0, 0, false, rfl, .inr ⟨by simp, rfl, rfl, taken_none (by omega) HG.out⟩, rfl⟩
end Go.Proofs.YtpebmmhokigglaaGreatDoor

namespace Go.Proofs.YtpebmmhokigglaaGreatDoor
open Go.RowKit

/-- 64 bits of a number (kept behind a name). -/
def lo64 (n : Nat) : Nat := n % 18446744073709551616
theorem lo64_u64 (n : Nat) : U64 (lo64 n) := Nat.mod_lt _ (by decide)
theorem lo64_eq {n : Nat} (h : U64 n) : lo64 n = n := Nat.mod_eq_of_lt h
theorem lo64_step (v x : Nat) : IntKind.u64.wrap (IntKind.u64.wrap ((lo64 v : Nat) * 128 : Int) + ((x : Int) % 128)) = ((lo64 (x % 128 + 128 * v) : Nat) : Int) := by
  unfold lo64
  rw [IntKind.wrap_u64, IntKind.wrap_u64]
  omega

theorem val_drop (b : List Nat) (k m : Nat) (hm : 1 ≤ m) (hk : m ≤ k) (hl : k ≤ b.length) : val ((b.take k).drop (m - 1)) = b.getD (m - 1) 0 % 128 + 128 * val ((b.take k).drop m) := by
  have h1 : m - 1 < (b.take k).length := by simp; omega
  rw [List.drop_eq_getElem_cons h1, show m - 1 + 1 = m from by omega, val]
  simp [List.getD, List.getElem?_eq_getElem (show m - 1 < b.length by omega)]

/-- Where the first byte below 128 is the k-th: the k bytes are a number's just where they are those of the number that they say, cut to 64 bits. -/
theorem lo64_taken {b : List Nat} {k : Nat} (hk1 : 1 ≤ k) (hk : k ≤ min b.length 10) (hge : ∀ j, j + 1 < k → 128 ≤ b.getD j 0) (hb : ∀ y ∈ b, y < 256) (hx : b.getD (k - 1) 0 < 128) :
    (enc (lo64 (val (b.take k))) = b.take k → enc (lo64 (val (b.take k))) <+: b ∧ k = (enc (lo64 (val (b.take k)))).length) ∧
    (enc (lo64 (val (b.take k))) ≠ b.take k → ∀ m, U64 m → ¬ enc m <+: b) := by
  constructor
  · intro h
    rw [h]
    exact ⟨List.take_prefix _ _, by rw [List.length_take]; omega⟩
  · intro h
    obtain ⟨k', rfl⟩ : ∃ k', k = k' + 1 := ⟨k - 1, by omega⟩
    have hst := taken_stop (b := b) (k := k') (by omega) (by omega) (fun j hj => hge j (by omega)) hb (by simpa using hx)
    by_cases hc : (k' = 0 ∨ b.getD k' 0 ≠ 0) ∧ (k' = 9 → b.getD k' 0 ≤ 1)
    · obtain ⟨s1, s2, s3⟩ := hst.1 hc
      exfalso
      apply h
      rw [lo64_eq s1]
      have h1 := List.prefix_iff_eq_take.1 s2
      rw [s3] at h1
      exact h1
    · exact hst.2 hc

/-- What the document's Take hands back. -/
def RefTook (b : List Nat) (w : World) (e : Ending) (w' : World) : Prop :=
  ∃ (n k : Nat) (ok : Bool), e = .returned (.tuple #[.int .u64 (n : Int), .int .i64 (k : Int), .int .i64 (if ok then 0 else 2)]) ∧ Taken b n k (ok = true) ∧ Below w.heap.size w w'

set_option maxHeartbeats 1000000 in
set_option maxRecDepth 100000 in
theorem refTake_any (v : Value) (b : List Nat) (w : World) (hr : Reads w .u8 v b) (hb : ∀ y ∈ b, y < 256) :
    Calls Tryz.prog 93 #[v] w (RefTook b w) := by
  obtain ⟨ao, cap, rfl, h1, h2, h3⟩ := hr.val
  have HR := Lib.hid hr; clear hr h3
  have hbl : b.length ≤ 9223372036854775807 := by unfold maxLen at h2; omega
  have HC := Lib.hid h2
  clear h2
  go_enter Tryz.func93, Tryz.ntmps93
  go_wp2
  go_loop [5, 6, 7] (fun i _ _ => ∃ (k : Nat), 1 ≤ k ∧ k ≤ min b.length 10 + 1 ∧ i = .int .i64 (k : Int) ∧ (∀ j, j + 1 < k → 128 ≤ b.getD j 0))
    (fun i _ _ => min b.length 10 + 1 - (intOf i).toNat)
  case atStart => exact ⟨1, by omega, by omega, rfl, by omega⟩
  case round =>
    obtain ⟨k, hk1, hk, rfl, hge⟩ := hrel
    by_cases hlt : k ≤ min b.length 10
    · obtain ⟨bl, off, rfl, hbw, hc⟩ := HR.out.at (i := k - 1) (by omega)
      have t1 : decide ((k : Int) ≤ 10) = true := by rw [decide_eq_true_iff]; omega
      have t2 : decide ((k : Int) ≤ (b.length : Int)) = true := by rw [decide_eq_true_iff]; omega
      have hcc := hc (k - 1) (by omega)
      have hx256 := hb _ (getD_mem b (k - 1) (by omega))
      generalize hxe : b.getD (k - 1) 0 = x at hcc hx256
      have HG := Lib.hid hge
      have HX := Lib.hid hxe
      have HCC := Lib.hid hc
      clear hge hc hxe
      have ek : ((k : Int) - 1).toNat = k - 1 := by omega
      by_cases hx : (128 : Int) ≤ (x : Int)
      · go_wp2_with fail
        go_round
        case rel =>
          refine ⟨k + 1, by omega, by omega, by go_num, ?_⟩
          intro j hj
          rcases Nat.lt_or_ge (j + 1) k with h | h
          · exact HG.out j h
          · obtain rfl : j = k - 1 := by omega
            rw [HX.out]; omega
        case measure => simp [intOf]; omega
      · go_wp2_with fail
        go_loop [6, 7] (fun n i => ∃ (m : Nat), m ≤ k ∧ i = .int .i64 ((m : Int) - 1) ∧ n = .int .u64 ((lo64 (val ((b.take k).drop m)) : Nat) : Int))
          (fun _ i => (intOf i + 1).toNat)
        case atStart => exact ⟨k, Nat.le_refl _, rfl, by rw [List.drop_of_length_le (by rw [List.length_take]; omega)]; rfl⟩
        case round =>
          obtain ⟨m, hm, rfl, rfl⟩ := hrel
          by_cases hm0 : 1 ≤ m
          · have hcm := HCC.out (m - 1) (by omega)
            have hv := val_drop b k m hm0 hm (by omega)
            generalize b.getD (m - 1) 0 = y at hcm hv
            generalize val ((b.take k).drop m) = vm at hv
            have HV := Lib.hid hv
            clear hv
            go_wp2_with fail
            go_round
            case rel => exact ⟨m - 1, by omega, by congr 1; omega, by rw [HV.out, ← lo64_step]⟩
            case measure => simp [intOf]; omega
          · obtain rfl : m = 0 := by omega
            have hu := lo64_u64 (val (b.take k))
            have hfin := lo64_taken (b := b) (k := k) hk1 (by omega) HG.out hb (by rw [HX.out]; omega)
            simp only [List.drop_zero]
            generalize lo64 (val (b.take k)) = n at hu hfin
            have HFIN := Lib.hid hfin
            clear hfin
            have hrk : ∀ W, Below w.heap.size w W → Reads W .u8 (.slice (some ⟨bl, off, none⟩) k cap) (b.take k) := fun W hW => by
              have hlen : (b.take k).length = k := by rw [List.length_take]; omega
              refine ⟨_, cap, by rw [hlen], by omega, HC.out, by simp, .inr ⟨bl, off, rfl, Nat.lt_of_lt_of_le hbw hW.size, fun i hi => ?_⟩⟩
              rw [hlen] at hi
              rw [hW.cell (p := ⟨bl, off + i, none⟩) hbw, HCC.out i (by omega)]
              simp [List.getD, hi]
            have hcvB := fun W hW => conv_reads _ _ W (hrk W hW)
            clear hrk
            have hsq := str_beq (enc_u64 hu) (fun y hy => hb y (List.mem_of_mem_take (i := k) hy))
            generalize hsbe : strOfNums ((b.take k).map (fun n : Nat => (n : Int))) = sb at hcvB hsq
            generalize hsae : strOfNums ((enc n).map (fun n : Nat => (n : Int))) = sa at hsq
            have HSA := Lib.hid hsae
            have HSQ := Lib.hid hsq
            clear hsae hsbe hsq
            have hB0 := Below.refl w.heap.size w
            have hBd : ∀ W, Below w.heap.size w W → Below w.heap.size w W.drew := fun W h => h.drew
            go_wp2_with fail
            go_region_with (first
              | (go_at_call 50; refine (refBytes_any n _ hu).mono ?_; rintro e w1 ⟨v1, rfl, ho, hb1⟩
                 have hb2 : Below w.heap.size w w1 := (Below.refl _ _).drew.trans hb1
                 have hcvA := fun W (hW : Below w1.heap.size w1 W) => conv_reads v1 (enc n) W (ho.reads.below hW (Nat.le_refl _))
                 have hC0 := Below.refl w1.heap.size w1
                 have hCd : ∀ W, Below w1.heap.size w1 W → Below w1.heap.size w1 W.drew := fun W h => h.drew
                 rw [HSA.out] at hcvA
                 clear ho hb1))
            all_goals
              have hbel : Below w.heap.size w w1 := hb2
              have HB := Lib.hid hbel
              clear hbel hb2 hC0 hCd hB0 hBd hcvA hcvB
              cases hq : (sa.toList == sb.toList)
              · have HQ := Lib.hid hq
                go_wp2
                go_ret3
                refine ⟨0, 0, false, rfl, .inr ⟨by simp, rfl, rfl, HFIN.out.2 (by have := HSQ.out; rw [HQ.out] at this; simpa using this.symm)⟩, ?_⟩
                exact HB.out
              · have HQ := Lib.hid hq
                go_wp2
                go_ret3
                refine ⟨n, k, true, rfl, .inl ⟨rfl, hu, HFIN.out.1 (by have := HSQ.out; rw [HQ.out] at this; simpa using this.symm)⟩, ?_⟩
                exact HB.out
    · have HG := Lib.hid hge
      clear hge
      by_cases h10 : 10 ≤ b.length
      · have t1 : decide ((k : Int) ≤ 10) = false := by rw [decide_eq_false_iff_not]; omega
        go_wp2
        go_ret3
        exact ⟨0, 0, false, rfl, .inr ⟨by simp, rfl, rfl, taken_none (k := k - 1) (by omega) (fun j hj => HG.out j (by omega))⟩, Below.refl _ _⟩
      · have t1 : decide ((k : Int) ≤ 10) = true := by rw [decide_eq_true_iff]; omega
        have t2 : decide ((k : Int) ≤ (b.length : Int)) = false := by rw [decide_eq_false_iff_not]; omega
        go_wp2
        go_ret3
        exact ⟨0, 0, false, rfl, .inr ⟨by simp, rfl, rfl, taken_none (k := k - 1) (by omega) (fun j hj => HG.out j (by omega))⟩, Below.refl _ _⟩
end Go.Proofs.YtpebmmhokigglaaGreatDoor
