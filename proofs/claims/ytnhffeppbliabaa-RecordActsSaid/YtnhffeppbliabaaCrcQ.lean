/- What is sealed, and opened, by a maker. -/
import Derived.Test.YtnhffeppbliabaaCrcC
import Derived.Test.YtnhffeppbliabaaCloneA
import Derived.Test.YtnhffeppbliabaaNumA
namespace Go.Proofs.Ytnhffeppbliabaa
open Go.RowKit

theorem below_all {w w' : World} (h : Below w.heap.size w w') (row : Option Nat) : w.grownBy w' row := ⟨h.os, h.tape, h.output, h.size, fun k hk _ => h.block k hk⟩

theorem Mk.new {w w' : World} {p n : Nat} (h : Mk w p n) (hb : Below w.heap.size w w') : Mk w' p n := h.below hb h.lt

set_option maxHeartbeats 400000 in
set_option maxRecDepth 100000 in
theorem equalC_any (v1 v2 : Value) (a b : List Nat) (w : World) (h1 : Reads w .u8 v1 a) (h2 : Reads w .u8 v2 b) (ha : ∀ x ∈ a, x < 256) (hb : ∀ x ∈ b, x < 256) :
    Calls Try.prog 58 #[v1, v2] w fun e w' => e = .returned (.bool (decide (a = b))) ∧ w = w' := by
  have c1 := conv_reads v1 a w h1
  have c2 := conv_reads v2 b w h2
  have hs := str_beq ha hb
  generalize strOfNums (a.map (fun n : Nat => (n : Int))) = sa at c1 hs
  generalize strOfNums (b.map (fun n : Nat => (n : Int))) = sb at c2 hs
  have HS := Lib.hid hs; clear hs
  go_enter Try.func58, Try.ntmps58
  go_wp2
  go_ret
  exact ⟨congrArg (fun b => Ending.returned (Value.bool b)) HS.out, rfl⟩

set_option maxHeartbeats 400000 in
set_option maxRecDepth 100000 in
theorem seal_any (p n : Nat) (v : Value) (l : List Nat) (w : World) (hm : Mk w p n) (hr : Reads w .u8 v l) (hl : ∀ y ∈ l, y < 256) (hx : l.length ≤ 90000000000000) :
    Calls Try.prog 125 #[.pointer (some ⟨p, 0, none⟩), v] w fun e w' => ∃ v', e = .returned v' ∧ Owns w' w.heap.size 5 .u8 v' (l ++ four (crcx 0 l)) ∧ Mk w' p n ∧ w.grownBy w' (some p) := by
  have hs32 : U32 (crcx 0 l) := crcx_lt (by decide) hl
  have HF : ∀ (W : World), Reads (W.alloc (.cells #[.int .u8 ((crcx 0 l : Nat) / 16777216 % 256 : Int), .int .u8 ((crcx 0 l : Nat) / 65536 % 256 : Int), .int .u8 ((crcx 0 l : Nat) / 256 % 256 : Int), .int .u8 ((crcx 0 l : Nat) % 256 : Int)] 5)) .u8 (.slice (some ⟨W.heap.size, 0, none⟩) 4 4) (four (crcx 0 l)) :=
    fun W => (owns_lit W 0 5 .u8 (four (crcx 0 l)) _ (four_vals (crcx 0 l)) (Nat.zero_le _) (by simp [four, maxLen])).reads
  go_enter Try.func125, Try.ntmps125
  go_wp2_with fail
  refine (ext_any p n 0 v l w hm (by unfold U32; decide) hr hl).mono ?_
  rintro e w1 ⟨rfl, hm1, hg1⟩
  have hr1 := reads_kept hm hr hg1
  generalize hsg : crcx 0 l = s at hs32 HF
  have HSG := Lib.hid hsg; clear hsg
  have HFF := Lib.hid HF; clear HF
  go_wp2_with fail
  refine (clone_any v l w1 hr1 (by omega)).mono ?_
  rintro e w2 ⟨v2, rfl, ho2, hb2⟩
  have HO := Lib.hid ho2
  have HB := Lib.hid hb2
  have HM1 := Lib.hid hm1
  have HG1 := Lib.hid hg1
  clear ho2 hb2 hm1 hg1 hr1
  have hcap : (l.length + (four s).length) * 1 ≤ 140737488355328 := by simp [four]; omega
  go_wp2_with (at_builtin; go_must (refine wpList_app _ rfl _ _ 29 rfl w1.heap.size 5 (.int .u8 0) 1 Try.underlying29 Try.info5 rfl .u8 _ l rfl (HO.out.alloc _) _ (four s) rfl (HFF.out w2) (by decide) hcap ?c3 ?_))
  case c3 => have := HB.out.size; simp; omega
  intro v3 w3 ho3 hg3
  have hb3 : Below w1.heap.size w1 w3 := (HB.out.alloc HB.out.size _).grown hg3 (by have := HB.out.size; simp; omega) (fun j hj => (HO.out.lt j hj).1)
  go_wp2
  go_ret
  exact ⟨_, rfl, by rw [HSG.out]; exact ho3.mono HG1.out.size, HM1.out.new hb3, HG1.out.trans (below_all hb3 _)⟩

set_option maxHeartbeats 400000 in
set_option maxRecDepth 100000 in
theorem sealed_any (p n : Nat) (v : Value) (l : List Nat) (w : World) (hm : Mk w p n) (hn : n < 1000000) (hr : Reads w .u8 v l) (hl : ∀ y ∈ l, y < 256) (hx : l.length ≤ 90000000000000) :
    Calls Try.prog 106 #[.pointer (some ⟨p, 0, none⟩), v] w fun e w' => ∃ v', e = .returned v' ∧ Owns w' w.heap.size 5 .u8 v' (l ++ four (crcx 0 l)) ∧ Mk w' p (n + 1) ∧ w.grownBy w' (some p) := by
  go_enter Try.func106, Try.ntmps106
  go_wp2_with fail
  refine (count_any p n w hm hn).mono ?_
  rintro e w1 ⟨rfl, hm1, hg1⟩
  have hr1 := reads_kept hm hr hg1
  go_wp2_with fail
  refine (seal_any p (n + 1) v l w1 hm1 hr1 hl hx).mono ?_
  rintro e w2 ⟨v2, rfl, ho2, hm2, hg2⟩
  go_wp2
  go_ret
  exact ⟨_, rfl, ho2.mono hg1.size, hm2, hg1.trans hg2⟩

/-- What 'opened' answers: the bytes ahead of the sum, and the error's number. -/
def openC (l : List Nat) : Nat := if l.length < 4 then 2 else if l.take (l.length - 4) ++ four (crcx 0 (l.take (l.length - 4))) = l then 0 else 11
def openL (l : List Nat) : List Nat := if openC l = 0 then l.take (l.length - 4) else []

theorem four_length (x : Nat) : (four x).length = 4 := rfl

set_option maxHeartbeats 400000 in
set_option maxRecDepth 100000 in
theorem opened_any (p n : Nat) (v : Value) (l : List Nat) (w : World) (hm : Mk w p n) (hn : n < 1000000) (hr : Reads w .u8 v l) (hl : ∀ y ∈ l, y < 256) (hx : l.length ≤ 90000000000000) :
    Calls Try.prog 133 #[.pointer (some ⟨p, 0, none⟩), v] w fun e w' => ∃ v', e = .returned (.tuple #[v', errV (openC l)]) ∧ Owns w' w.heap.size 5 .u8 v' (openL l) ∧ Mk w' p (n + 1) ∧ w.grownBy w' (some p) := by
  obtain ⟨ao, cap, rfl, h1, h2, h3⟩ := hr.val
  have HR := Lib.hid hr; clear hr h3
  go_enter Try.func133, Try.ntmps133
  go_wp2_with fail
  refine (count_any p n w hm hn).mono ?_
  rintro e w1 ⟨rfl, hm1, hg1⟩
  have HR1 := Lib.hid (reads_kept hm HR.out hg1)
  have HG1 := Lib.hid hg1
  by_cases h4 : (l.length : Int) < 4
  · have hC : openC l = 2 := by unfold openC; rw [if_pos (by omega)]
    have hL : openL l = [] := by unfold openL; rw [hC]; rfl
    clear hg1
    have HM1 := Lib.hid hm1; clear hm1
    have HC := Lib.hid hC
    have HL := Lib.hid hL
    clear hC hL
    go_wp2
    go_ret2
    exact ⟨_, by rw [HC.out]; rfl, by rw [HL.out]; exact owns_nil _ _ _ _, HM1.out, HG1.out⟩
  · obtain ⟨m, hm4⟩ : ∃ m, l.length = m + 4 := ⟨l.length - 4, by omega⟩
    have hsl := fun w => slice_head w ao l.length cap m (by omega)
    have hsub : (l.length : Int) - 4 = (m : Int) := by omega
    have HB : Hid (Reads w1 .u8 (.slice ao m cap) (l.take m)) := Lib.hid (HR1.out.head (by omega))
    have hbl : ∀ y ∈ l.take m, y < 256 := fun y hy => hl y (List.mem_of_mem_take hy)
    have HM1 := Lib.hid hm1
    clear hg1 hm1
    go_wp2_with fail
    have hm4' := Lib.hid hm4
    refine (seal_any p (n + 1) _ (l.take m) w1 HM1.out HB.out hbl (by simp; omega)).mono ?_
    rintro e w2 ⟨v2, rfl, ho2, hm2, hg2⟩
    have HM2 := Lib.hid hm2
    have HG2 := Lib.hid hg2
    have HO2 := Lib.hid ho2.reads
    have hr2 := reads_kept HM1.out HR1.out hg2
    rw [hm4] at hr2
    have HR2 := Lib.hid hr2
    have hb4 : ∀ y ∈ l.take m ++ four (crcx 0 (l.take m)), y < 256 := fun y hy => (List.mem_append.1 hy).elim (hbl y) (four_byte _ y)
    have HBT := Lib.hid (reads_kept HM1.out HB.out hg2)
    clear hm2 hg2 ho2 hr2
    have hOC : openC l = if l.take m ++ four (crcx 0 (l.take m)) = l then 0 else 11 := by unfold openC; rw [if_neg (by omega), show l.length - 4 = m from by omega]
    have hOL : openL l = if openC l = 0 then l.take m else [] := by unfold openL; rw [show l.length - 4 = m from by omega]
    go_wp2_with fail
    refine (equalC_any _ _ (l.take m ++ four (crcx 0 (l.take m))) l w2 HO2.out HR2.out hb4 hl).mono ?_
    rintro e w3 ⟨rfl, rfl⟩
    by_cases heq : l.take m ++ four (crcx 0 (l.take m)) = l
    · rw [if_pos heq] at hOC
      rw [hOC] at hOL
      have HOC := Lib.hid hOC
      have HOL := Lib.hid hOL
      have hd : decide (l.take m ++ four (crcx 0 (l.take m)) = l) = true := decide_eq_true heq
      clear hOC hOL heq
      go_wp2_with fail
      refine (clone_any _ (l.take m) w2 HBT.out (by simp; omega)).mono ?_
      rintro e w4 ⟨v4, rfl, ho4, hb4⟩
      have HO4 := Lib.hid ho4
      have HB4 := Lib.hid hb4
      clear ho4 hb4
      go_wp2
      go_ret2
      exact ⟨_, by rw [HOC.out]; rfl, by rw [HOL.out]; exact HO4.out.mono (Nat.le_trans HG1.out.size HG2.out.size), HM2.out.new HB4.out, HG1.out.trans (HG2.out.trans (below_all HB4.out _))⟩
    · rw [if_neg heq] at hOC
      rw [hOC] at hOL
      have HOC := Lib.hid hOC
      have HOL := Lib.hid hOL
      have hd : decide (l.take m ++ four (crcx 0 (l.take m)) = l) = false := decide_eq_false heq
      clear hOC hOL heq
      go_wp2
      go_ret2
      exact ⟨_, by rw [HOC.out]; rfl, by rw [HOL.out]; exact owns_nil _ _ _ _, HM2.out, HG1.out.trans HG2.out⟩

theorem open_sealed (l : List Nat) : openC (l ++ four (crcx 0 l)) = 0 ∧ openL (l ++ four (crcx 0 l)) = l := by
  have hl : (l ++ four (crcx 0 l)).length - 4 = l.length := by rw [List.length_append, four_length]; omega
  have hC : openC (l ++ four (crcx 0 l)) = 0 := by
    unfold openC
    rw [if_neg (by rw [List.length_append, four_length]; omega), hl, List.take_left, if_pos rfl]
  refine ⟨hC, ?_⟩
  unfold openL
  rw [hC, if_pos rfl, hl, List.take_left]

theorem Parts.drew {w : World} {v : Value} {ls : List (List Nat)} (h : Parts w v ls) : Parts w.drew v ls := h

end Go.Proofs.Ytnhffeppbliabaa
