/- The contract of package frame's Put. -/
import Derived.Test.YtjbodokligpcaaaGreatFrD
import Derived.Test.YtjbodokligpcaaaGreatGrowA
namespace Go.Proofs.YtjbodokligpcaaaGreat
open Go.RowKit

theorem txs_one' {w w1 : World} {e : TypeId} {v : Value} {l : List Nat} (h : Reads w .u8 v l) (hw : w1 = w.alloc (.cells #[v] e)) : Txs w1 (fun _ => True) (.slice (some ⟨w.heap.size, 0, none⟩) 1 1) [l] := hw ▸ txs_one w e v l h

set_option maxHeartbeats 1000000 in
set_option maxRecDepth 100000 in
theorem put_good (bv tv : Value) (b t : List Nat) (w : World) (hb : Reads w .u8 bv b) (ht : Reads w .u8 tv t) (h8 : ∀ y ∈ t, y < 256) (hl : t.length ≤ 65536) (hx : b.length ≤ 70000000000000) :
    Calls Tryz.prog 42 #[bv, tv] w fun e w' => ∃ v', e = .returned (.tuple #[v', .nilIface]) ∧ Owns w' w.heap.size 5 .u8 v' (b ++ fr t) ∧ Below w.heap.size w w' := by
  obtain ⟨aob, capb, rfl, _, _, _⟩ := hb.val
  obtain ⟨aot, capt, rfl, _, _, _⟩ := ht.val
  have hfs : fsize t ≤ 65600 := by have := enc_len10 (u64_small hl); unfold fsize; omega
  have hge := fsize_ge t
  have HB := Lib.hid hb; clear hb
  go_enter Tryz.func42, Tryz.ntmps42
  go_wp2_with fail
  refine (join_any _ [t] _ _ (txs_one w _ _ t ht) (by simpa using ⟨hl, h8⟩) (by simp) (by rw [frs_one, fr_length]; omega)).mono ?_
  rintro e w1 ⟨v1, rfl, ho1, hb1⟩
  rw [frs_one] at ho1
  obtain ⟨ao1, cap1, rfl, _, _, _⟩ := ho1.reads.val
  have hb1' : Below w.heap.size w w1 := ((Below.refl _ _).alloc (Nat.le_refl _) _).trans (hb1.mono (by simp))
  have HB1 := Lib.hid hb1'
  have HR1 := Lib.hid ho1.reads
  have HBR := Lib.hid (HB.out.new hb1')
  clear ho1 hb1 hb1'
  have HC : Hid (Below w1.heap.size w1 (w1.alloc (.cells #[.slice aob b.length capb, .slice ao1 (fr t).length cap1] 22))) := Lib.hid ((Below.refl _ _).alloc (Nat.le_refl _) _)
  go_wp2_with fail
  refine (concat_any _ [b, fr t] (b ++ fr t) _ _ (txs_two w1 _ _ _ b (fr t) HBR.out HR1.out) (by simp) (by rw [List.length_append, fr_length]; omega) (by rw [List.length_append, fr_length]; omega) (by simp)).mono ?_
  rintro e w2 ⟨v2, rfl, ho2, hb2⟩
  have HO2 : Hid (Owns w2 w.heap.size 5 .u8 v2 (b ++ fr t)) := Lib.hid (ho2.mono (by have := HB1.out.size; simp; omega))
  have HB2 : Hid (Below w.heap.size w w2) := Lib.hid ((HB1.out.alloc HB1.out.size _).trans (hb2.mono (by have := HB1.out.size; simp; omega)))
  clear ho2 hb2
  go_wp2
  go_ret2
  exact ⟨_, rfl, HO2.out, HB2.out⟩

set_option maxHeartbeats 1000000 in
set_option maxRecDepth 100000 in
theorem put_long (bv tv : Value) (b t : List Nat) (w : World) (hb : Reads w .u8 bv b) (ht : Reads w .u8 tv t) (h8 : ∀ y ∈ t, y < 256) (hl : 65536 < t.length) (hx : t.length ≤ 70000000000000) :
    Calls Tryz.prog 42 #[bv, tv] w fun e w' => e = .returned (.tuple #[.slice none 0 0, errV 3]) ∧ Below w.heap.size w w' := by
  obtain ⟨aob, capb, rfl, _, _, _⟩ := hb.val
  obtain ⟨aot, capt, rfl, _, _, _⟩ := ht.val
  have hu : U64 t.length := by unfold U64; omega
  have hfs : fsize t ≤ t.length + 14 := by have := enc_len10 hu; unfold fsize; omega
  go_enter Tryz.func42, Tryz.ntmps42
  go_wp2_with fail
  refine (join_long _ [t] _ _ (txs_one w _ _ t ht) (by simpa using h8) ⟨t, by simp, hl⟩ (by simp) (by rw [frs_one, fr_length]; omega)).mono ?_
  rintro e w1 ⟨rfl, hb1⟩
  have hb1' : Below w.heap.size w w1 := ((Below.refl _ _).alloc (Nat.le_refl _) _).trans (hb1.mono (by simp))
  have HB1 := Lib.hid hb1'
  clear hb1 hb1'
  rw [errV_pos (by decide)]
  go_wp2
  go_ret2
  exact ⟨rfl, HB1.out⟩

end Go.Proofs.YtjbodokligpcaaaGreat
