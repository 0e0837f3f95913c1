/- The contract of package cell's Put; the fixed fact at the head of the cell statements. -/
import Derived.Test.YtbihammpdjkonaaCelI
import Derived.Test.YtbihammpdjkonaaPutA
import Derived.Test.YtbihammpdjkonaaGrowA
namespace Go.Proofs.Ytbihammpdjkonaa
open Go.RowKit

theorem reads_none (w : World) (k : IntKind) : Reads w k (.slice none 0 0) [] := ⟨none, 0, rfl, by simp, by simp [maxLen], by simp, .inl rfl⟩

/-- What Put answers. -/
def CPut (b : List Nat) (k : Int) (d : List Nat) (w : World) (e : Ending) (w' : World) : Prop :=
  ∃ v' out, e = .returned (.tuple #[v', errV (chk k d.length)]) ∧ Owns w' w.heap.size 5 .u8 v' out ∧ out = (if chk k d.length = 0 then b ++ cbytes (k.toNat, d) else []) ∧ Below w.heap.size w w'

theorem cbytes_pos (c : CC) : 0 < (cbytes c).length := by
  unfold cbytes
  split
  · rw [List.length_append]; have := enc_pos 1; omega
  · exact enc_pos _

set_option maxHeartbeats 1000000 in
set_option maxRecDepth 100000 in
theorem cput_any (bv v : Value) (b : List Nat) (k : Int) (d : List Nat) (w : World) (hb : Reads w .u8 bv b) (hr : Reads w .u8 v d) (hx : b.length ≤ 60000000000000) :
    Calls Try.prog 20 #[bv, .agg #[.int .i64 k, v]] w (CPut b k d w) := by
  obtain ⟨ao, cap, rfl, _, _, _⟩ := hr.val
  obtain ⟨aob, capb, rfl, _, _, _⟩ := hb.val
  have hb0 : Below w.heap.size w (w.alloc (.cells #[.int .i64 k, .slice ao d.length cap] 24)) := (Below.refl _ _).alloc (Nat.le_refl _) _
  have hx0 := heap_alloc_new w (.cells #[.int .i64 k, .slice ao d.length cap] 24)
  obtain ⟨W0, hW0⟩ : ∃ W0, W0 = w.alloc (.cells #[.int .i64 k, .slice ao d.length cap] 24) := ⟨_, rfl⟩
  rw [← hW0] at hb0 hx0
  have HR := Lib.hid (hr.new hb0)
  have HRB := Lib.hid (hb.new hb0)
  have HB0 := Lib.hid hb0
  have HX0 := Lib.hid hx0
  clear hb hr hb0 hx0
  go_enter Try.func20, Try.ntmps20
  go_wp2_with fail
  rw [← hW0]
  refine (check_any k _ d W0 HR.out).mono ?_
  rintro e w1 ⟨rfl, hb1⟩
  have HB1 : Hid (Below w.heap.size w w1) := Lib.hid (HB0.out.trans (hb1.mono HB0.out.size))
  have HX1 := Lib.hid ((hb1.block _ (Array.getElem?_eq_some_iff.1 HX0.out).1).trans HX0.out)
  have HR1 := Lib.hid (HR.out.new hb1)
  have HRB1 := Lib.hid (HRB.out.new hb1)
  clear hb1 HX0 HB0 HR HRB hW0
  obtain ⟨a0, a1, _, _⟩ := blk2 HX1.out
  by_cases hc : chk k d.length = 0
  · obtain ⟨k0, k3, hd64, hk1⟩ := chk_zero hc
    obtain ⟨n, rfl⟩ : ∃ n : Nat, k = (n : Int) := ⟨k.toNat, by omega⟩
    have hwr : IntKind.u64.wrap (n : Int) = (n : Int) := by
      have : n = 0 ∨ n = 1 ∨ n = 2 ∨ n = 3 := by omega
      rcases this with rfl | rfl | rfl | rfl <;> rfl
    rw [hc, errV_zero]
    have hun : ∀ x ∈ [n], U64 x := by
      intro x hx
      rw [List.mem_singleton.1 hx]
      unfold U64; omega
    have HC := Lib.hid hc
    have HK1 := Lib.hid hk1
    clear hc hk1
    go_wp2_with fail
    refine (put_any _ _ [] [n] _ (reads_none _ _) (reads_new w1 .u64 75 n) hun (by simp)).mono ?_
    rintro e w2 ⟨v2, rfl, ho2, hb2⟩
    have hb2' : Below w1.heap.size w1 w2 := ((Below.refl _ _).alloc (Nat.le_refl _) _).trans (hb2.mono (by simp))
    have HB2 : Hid (Below w.heap.size w w2) := Lib.hid (HB1.out.trans (hb2'.mono HB1.out.size))
    have HX2 := Lib.hid ((hb2'.block _ (Array.getElem?_eq_some_iff.1 HX1.out).1).trans HX1.out)
    have HR2 := Lib.hid (HR1.out.new hb2')
    have HRB2 := Lib.hid (HRB1.out.new hb2')
    have HO2 : Hid (Owns w2 (w1.heap.size + 1) 5 .u8 v2 (enc n)) := Lib.hid (by simpa [encs] using ho2)
    clear hb2 hb2' ho2 HB1 HX1 HR1 HRB1 a0 a1
    obtain ⟨a0, a1, _, _⟩ := blk2 HX2.out
    by_cases hn1 : n = 1
    · subst hn1
      go_wp2_with fail
      refine (putText_any v2 _ (enc 1) d w2 HO2.out.reads HR2.out (by have := enc_len10 (n := 1) (by unfold U64; omega); omega)).mono ?_
      rintro e w3 ⟨v3, rfl, ho3, hb3⟩
      have hcb : enc 1 ++ enc d.length ++ d = cbytes (1, d) := by unfold cbytes; rw [if_pos rfl, List.append_assoc]
      rw [hcb] at ho3
      obtain ⟨ao3, cap3, rfl, _, _, _⟩ := ho3.reads.val
      have HO3 := Lib.hid ho3.reads
      have HRB3 := Lib.hid (HRB2.out.new hb3)
      have HB3 := Lib.hid (HB2.out.trans (hb3.mono HB2.out.size))
      have hcl : (cbytes (1, d)).length ≤ 1000 := by
        have h1 := enc_len10 (n := 1) (by unfold U64; omega)
        have h2 := enc_len10 (n := d.length) (by unfold U64; omega)
        have e : (cbytes (1, d)).length = (enc 1).length + ((enc d.length).length + d.length) := by unfold cbytes; rw [if_pos rfl, List.length_append, List.length_append]
        omega
      clear ho3 hb3 HR2 HRB2 HO2 HX2 HB2 a0 a1
      have hpos := cbytes_pos (1, d)
      generalize hcbs : cbytes (1, d) = cb at hcl hpos HO3
      have HCB := Lib.hid hcbs
      clear hcbs hcb
      go_wp2_with fail
      refine (concat_any _ [b, cb] (b ++ cb) _ _ (txs_two w3 _ _ _ b cb HRB3.out HO3.out) (by simp) (by rw [List.length_append]; omega) (by rw [List.length_append]; omega) (by simp)).mono ?_
      rintro e w4 ⟨v4, rfl, ho4, hb4⟩
      have HO4 : Hid (Owns w4 w.heap.size 5 .u8 v4 (b ++ cb)) := Lib.hid (ho4.mono (by have := HB3.out.size; simp; omega))
      have HB4 : Hid (Below w.heap.size w w4) := Lib.hid ((HB3.out.alloc HB3.out.size _).trans (hb4.mono (by have := HB3.out.size; simp; omega)))
      clear ho4 hb4
      go_wp2
      go_ret2
      exact ⟨_, b ++ cb, by rw [HC.out]; rfl, HO4.out, by rw [if_pos HC.out, ← HCB.out]; rfl, HB4.out⟩
    · have hn1i : ((n : Int) == 1) = false := by rw [beq_eq_false_iff_ne]; omega
      have hcb : enc n = cbytes (n, d) := by unfold cbytes; rw [if_neg hn1]
      obtain ⟨ao3, cap3, rfl, _, _, _⟩ := HO2.out.reads.val
      have HO3 : Hid (Reads w2 .u8 (.slice ao3 (enc n).length cap3) (enc n)) := Lib.hid HO2.out.reads
      have hcl : (enc n).length ≤ 1000 := by have := enc_len10 (n := n) (by unfold U64; omega); omega
      have hpos := enc_pos n
      clear HR2 HO2 HX2
      generalize hcbs : enc n = cb at hcl hpos HO3 hcb
      have HCB := Lib.hid hcb
      clear hcbs hcb hn1
      go_wp2_with fail
      refine (concat_any _ [b, cb] (b ++ cb) _ _ (txs_two w2 _ _ _ b cb HRB2.out HO3.out) (by simp) (by rw [List.length_append]; omega) (by rw [List.length_append]; omega) (by simp)).mono ?_
      rintro e w4 ⟨v4, rfl, ho4, hb4⟩
      have HO4 : Hid (Owns w4 w.heap.size 5 .u8 v4 (b ++ cb)) := Lib.hid (ho4.mono (by have := HB2.out.size; simp; omega))
      have HB4 : Hid (Below w.heap.size w w4) := Lib.hid ((HB2.out.alloc HB2.out.size _).trans (hb4.mono (by have := HB2.out.size; simp; omega)))
      clear ho4 hb4
      go_wp2
      go_ret2
      exact ⟨_, b ++ cb, by rw [HC.out]; rfl, HO4.out, by rw [if_pos HC.out, HCB.out]; rfl, HB4.out⟩
  · have HC := Lib.hid hc
    have he := errV_pos hc
    rw [he]
    go_wp2
    go_ret2
    exact ⟨_, [], by rw [he]; rfl, owns_nil _ _ _ _, by rw [if_neg HC.out], HB1.out⟩

end Go.Proofs.Ytbihammpdjkonaa
