/- The contracts of package cell's Copy, Later, Word. -/
import Derived.Test.YtbihammpdjkonaaCelG
import Derived.Deep.RegionHeld3
namespace Go.Proofs.Ytbihammpdjkonaa
open Go.RowKit

set_option maxHeartbeats 1000000 in
set_option maxRecDepth 100000 in
theorem copy_any (k : Int) (v : Value) (d : List Nat) (w : World) (hr : Reads w .u8 v d) (hx : d.length ≤ 100000000000000) :
    Calls Try.prog 21 #[.agg #[.int .i64 k, v]] w fun e w' => ∃ v', e = .returned (.agg #[.int .i64 k, v']) ∧ Owns w' w.heap.size 5 .u8 v' d ∧ Below w.heap.size w w' := by
  obtain ⟨ao, cap, rfl, _, _, _⟩ := hr.val
  obtain ⟨hb0, hx1, hx2⟩ := two_boxes w (.slice ao d.length cap) (.slice none 0 0) k 0
  obtain ⟨W0, hW0⟩ : ∃ W0, W0 = (w.alloc (.cells #[.int .i64 k, .slice ao d.length cap] 24)).alloc (.cells #[.int .i64 0, .slice none 0 0] 24) := ⟨_, rfl⟩
  rw [← hW0] at hb0 hx1 hx2
  have HR := Lib.hid (hr.new hb0)
  have HB0 := Lib.hid hb0
  have HX2 := Lib.hid hx2
  have HX1 := Lib.hid hx1
  obtain ⟨a0, a1, _, _⟩ := blk2 hx1
  obtain ⟨b0, b1, b2, b3⟩ := blk2 hx2
  have hsz : w.heap.size + 1 < W0.heap.size := (Array.getElem?_eq_some_iff.1 hx2).1
  have HSZ := Lib.hid hsz
  clear hx1 hx2 hb0 hr hsz
  go_enter Try.func21, Try.ntmps21
  go_wp2_with fail
  rw [← hW0]
  have HW0 := Lib.hid hW0
  clear hW0
  go_region_held3 (fun w' => w'.cell? ⟨w.heap.size, 0, none⟩ = some (.int .i64 k) ∧ w'.cell? ⟨w.heap.size, 1, none⟩ = some (.slice ao d.length cap)) (go_keep) (first
    | (go_at_call 41; refine (clone_any _ d _ (by first | exact HR.out | exact HR.out.drewN 1) hx).mono ?_; rintro e w1 ⟨v1, rfl, ho1, hb1⟩
       obtain ⟨ao1, cap1, rfl, _, _, _⟩ := ho1.reads.val
       have HO1 : Hid (Owns w1 W0.heap.size 5 .u8 (.slice ao1 d.length cap1) d) := Lib.hid ho1
       have HB1 : Hid (Below W0.heap.size W0 w1) := Lib.hid (by first | exact hb1 | exact ⟨hb1.os, hb1.tape, hb1.output, hb1.size, hb1.block⟩)
       have c2 := (HB1.out.block _ HSZ.out).trans HX2.out
       obtain ⟨f0, f1, f2, f3⟩ := blk2 c2
       have c1 := (HB1.out.block _ (Nat.lt_of_succ_lt HSZ.out)).trans HX1.out
       obtain ⟨m0, m1, _, _⟩ := blk2 c1
       clear ho1 hb1))
  all_goals
    have hz := set2 (x := .int .i64 k) (y := .slice ao1 d.length cap1) c2
    obtain ⟨q0, q1, _, _⟩ := blk2 hz
    go_wp2
    exact bodyPost_ret (v := .agg #[.int .i64 k, .slice ao1 d.length cap1]) (by simp [results, Try.results21, go_sem, q0, q1]) rfl ⟨_, rfl, (HO1.out.mono HB0.out.size).grown (row := some (w.heap.size + 1)) ⟨rfl, rfl, rfl, by simp, fun j _ hj => by rw [heap_setCell_other _ _ _ _ (fun e => hj (by rw [e])), heap_setCell_other _ _ _ _ (fun e => hj (by rw [e]))]⟩ (by cases hv : (Value.slice ao1 d.length cap1).ownBlock with
        | none => exact .inl rfl
        | some j => exact .inr fun he => by have := (HO1.out.lt j hv).1; have := Option.some.inj he; have := HSZ.out; omega), ((HB0.out.trans (HB1.out.mono HB0.out.size)).setCell (by simp) _).setCell (by simp) _⟩

/-- The one that the other may become. -/
def laterC (k1 : Int) (d1 : List Nat) (k2 : Int) (d2 : List Nat) : Int × List Nat × Bool :=
  if mayC k1 d1 k2 d2 = true then (k2, d2, true) else if mayC k2 d2 k1 d1 = true then (k1, d1, true) else (0, [], false)

/-- What is owned stays so where a block that isn't its own is written. -/
theorem Owns.set2 {w : World} {base : Nat} {e : TypeId} {k : IntKind} {v : Value} {l : List Nat} (h : Owns w base e k v l) {p : Nat} (hp : ∀ j, v.ownBlock = some j → j ≠ p) (x y : Value) : Owns ((w.setCell ⟨p, 0, none⟩ x).setCell ⟨p, 1, none⟩ y) base e k v l :=
  h.grown (row := some p) ⟨rfl, rfl, rfl, by simp, fun j _ hj => by rw [heap_setCell_other _ _ _ _ (fun e => hj (by rw [e])), heap_setCell_other _ _ _ _ (fun e => hj (by rw [e]))]⟩ (by
    cases hv : v.ownBlock with
    | none => exact .inl rfl
    | some j => exact .inr fun he => hp j hv (Option.some.inj he))

/-- Three boxes of cells, made one behind the other. -/
theorem three_boxes (w : World) (x y z : Value) (k1 k2 k3 : Int) :
    Below w.heap.size w (((w.alloc (.cells #[.int .i64 k1, x] 24)).alloc (.cells #[.int .i64 k2, y] 24)).alloc (.cells #[.int .i64 k3, z] 24)) ∧
    (((w.alloc (.cells #[.int .i64 k1, x] 24)).alloc (.cells #[.int .i64 k2, y] 24)).alloc (.cells #[.int .i64 k3, z] 24)).heap[w.heap.size]? = some (.cells #[.int .i64 k1, x] 24 (0, 0)) ∧
    (((w.alloc (.cells #[.int .i64 k1, x] 24)).alloc (.cells #[.int .i64 k2, y] 24)).alloc (.cells #[.int .i64 k3, z] 24)).heap[w.heap.size + 1]? = some (.cells #[.int .i64 k2, y] 24 (0, 0)) ∧
    (((w.alloc (.cells #[.int .i64 k1, x] 24)).alloc (.cells #[.int .i64 k2, y] 24)).alloc (.cells #[.int .i64 k3, z] 24)).heap[w.heap.size + 1 + 1]? = some (.cells #[.int .i64 k3, z] 24 (0, 0)) := by
  obtain ⟨h1, h2, h3⟩ := two_boxes w x y k1 k2
  refine ⟨h1.alloc (by simp; omega) _, ?_, ?_, ?_⟩
  · rw [Below.heap_alloc _ _ _ (by simp; omega)]; exact h2
  · rw [Below.heap_alloc _ _ _ (by simp)]; exact h3
  · have := heap_alloc_new ((w.alloc (.cells #[.int .i64 k1, x] 24)).alloc (.cells #[.int .i64 k2, y] 24)) (.cells #[.int .i64 k3, z] 24)
    simpa using this

/-- What Later answers. -/
def LaterPost (k1 : Int) (d1 : List Nat) (k2 : Int) (d2 : List Nat) (w : World) (e : Ending) (w' : World) : Prop :=
  ∃ k d ok v', (k, d, ok) = laterC k1 d1 k2 d2 ∧ e = .returned (.tuple #[.agg #[.int .i64 k, v'], .bool ok]) ∧ Owns w' w.heap.size 5 .u8 v' d ∧ Below w.heap.size w w'

set_option maxHeartbeats 1000000 in
set_option maxRecDepth 100000 in
theorem later_any (k1 k2 : Int) (v1 v2 : Value) (d1 d2 : List Nat) (w : World) (h1 : Reads w .u8 v1 d1) (h2 : Reads w .u8 v2 d2) (ha : ∀ x ∈ d1, x < 256) (hb : ∀ x ∈ d2, x < 256) (hl1 : d1.length ≤ 100000000000000) (hl2 : d2.length ≤ 100000000000000) :
    Calls Try.prog 19 #[.agg #[.int .i64 k1, v1], .agg #[.int .i64 k2, v2]] w (LaterPost k1 d1 k2 d2 w) := by
  obtain ⟨ao1, cap1, rfl, _, _, _⟩ := h1.val
  obtain ⟨ao2, cap2, rfl, _, _, _⟩ := h2.val
  obtain ⟨hb0, hx1, hx2, hx3⟩ := three_boxes w (.slice ao1 d1.length cap1) (.slice ao2 d2.length cap2) (.slice none 0 0) k1 k2 0
  obtain ⟨W0, hW0⟩ : ∃ W0, W0 = ((w.alloc (.cells #[.int .i64 k1, .slice ao1 d1.length cap1] 24)).alloc (.cells #[.int .i64 k2, .slice ao2 d2.length cap2] 24)).alloc (.cells #[.int .i64 0, .slice none 0 0] 24) := ⟨_, rfl⟩
  rw [← hW0] at hb0 hx1 hx2 hx3
  have HR1 := Lib.hid (h1.new hb0)
  have HR2 := Lib.hid (h2.new hb0)
  have HA := Lib.hid ha
  have HB := Lib.hid hb
  have HB0 := Lib.hid hb0
  have HX1 := Lib.hid hx1
  have HX2 := Lib.hid hx2
  have HX3 := Lib.hid hx3
  clear hx1 hx2 hx3 hb0 h1 h2 ha hb
  go_enter Try.func19, Try.ntmps19
  go_wp2_with fail
  rw [← hW0]
  refine (may_any k1 k2 _ _ d1 d2 W0 HR1.out HR2.out HA.out HB.out).mono ?_
  rintro e w1 ⟨rfl, hb1⟩
  have HB1 : Hid (Below w.heap.size w w1) := Lib.hid (HB0.out.trans (hb1.mono HB0.out.size))
  have HY1 := Lib.hid ((hb1.block _ (Array.getElem?_eq_some_iff.1 HX1.out).1).trans HX1.out)
  have HY2 := Lib.hid ((hb1.block _ (Array.getElem?_eq_some_iff.1 HX2.out).1).trans HX2.out)
  have HY3 := Lib.hid ((hb1.block _ (Array.getElem?_eq_some_iff.1 HX3.out).1).trans HX3.out)
  have HS1 := Lib.hid (HR1.out.new hb1)
  have HS2 := Lib.hid (HR2.out.new hb1)
  clear hb1 HX1 HX2 HX3 HB0 HR1 HR2 hW0
  obtain ⟨a0, a1, a2, a3⟩ := blk2 HY1.out
  obtain ⟨b0, b1, b2, b3⟩ := blk2 HY2.out
  cases hm : mayC k1 d1 k2 d2
  · go_wp2_with fail
    refine (may_any k2 k1 _ _ d2 d1 w1 HS2.out HS1.out HB.out HA.out).mono ?_
    rintro e w2 ⟨rfl, hb2⟩
    have HB2 : Hid (Below w.heap.size w w2) := Lib.hid (HB1.out.trans (hb2.mono HB1.out.size))
    have HZ1 := Lib.hid ((hb2.block _ (Array.getElem?_eq_some_iff.1 HY1.out).1).trans HY1.out)
    have HZ3 := Lib.hid ((hb2.block _ (Array.getElem?_eq_some_iff.1 HY3.out).1).trans HY3.out)
    have HT1 := Lib.hid (HS1.out.new hb2)
    clear hb2 HB1 HY1 HY2 HY3 HS1 HS2 a0 a1 a2 a3 b0 b1 b2 b3
    obtain ⟨a0, a1, a2, a3⟩ := blk2 HZ1.out
    cases hm2 : mayC k2 d2 k1 d1
    · obtain ⟨c0, c1, c2, c3⟩ := blk2 HZ3.out
      have hz := set2 (x := .int .i64 0) (y := .slice none 0 0) HZ3.out
      obtain ⟨q0, q1, _, _⟩ := blk2 hz
      clear hz
      go_wp2
      exact bodyPost_ret (v := .tuple #[.agg #[.int .i64 0, .slice none 0 0], .bool false]) (by simp [results, Try.results19, go_sem, q0, q1]) rfl ⟨0, [], false, _, by unfold laterC; rw [if_neg (by simp [hm]), if_neg (by simp [hm2])], rfl, owns_nil _ _ _ _, (HB2.out.setCell (by simp; omega) _).setCell (by simp; omega) _⟩
    · go_wp2_with fail
      refine (copy_any k1 _ d1 w2 HT1.out hl1).mono ?_
      rintro e w3 ⟨v3, rfl, ho3, hb3⟩
      obtain ⟨ao3, cap3, rfl, _, _, _⟩ := ho3.reads.val
      have HB3 : Hid (Below w.heap.size w w3) := Lib.hid (HB2.out.trans (hb3.mono HB2.out.size))
      have HU3 := Lib.hid ((hb3.block _ (Array.getElem?_eq_some_iff.1 HZ3.out).1).trans HZ3.out)
      have HO3 := Lib.hid ho3
      have HSZ : Hid (w.heap.size + 1 + 1 < w2.heap.size) := Lib.hid (Array.getElem?_eq_some_iff.1 HZ3.out).1
      clear hb3 ho3 HB2 HZ1 HZ3 a0 a1 a2 a3
      obtain ⟨c0, c1, c2, c3⟩ := blk2 HU3.out
      have hz := set2 (x := .int .i64 k1) (y := .slice ao3 d1.length cap3) HU3.out
      obtain ⟨q0, q1, _, _⟩ := blk2 hz
      clear hz
      go_wp2
      exact bodyPost_ret (v := .tuple #[.agg #[.int .i64 k1, .slice ao3 d1.length cap3], .bool true]) (by simp [results, Try.results19, go_sem, q0, q1]) rfl ⟨k1, d1, true, _, by unfold laterC; rw [if_neg (by simp [hm]), if_pos hm2], rfl, (HO3.out.mono (by have := HSZ.out; omega)).set2 (fun j hj => by have := (HO3.out.lt j hj).1; have := HSZ.out; omega) _ _, (HB3.out.setCell (by simp; omega) _).setCell (by simp; omega) _⟩
  · go_wp2_with fail
    refine (copy_any k2 _ d2 w1 HS2.out hl2).mono ?_
    rintro e w3 ⟨v3, rfl, ho3, hb3⟩
    obtain ⟨ao3, cap3, rfl, _, _, _⟩ := ho3.reads.val
    have HB3 : Hid (Below w.heap.size w w3) := Lib.hid (HB1.out.trans (hb3.mono HB1.out.size))
    have HU3 := Lib.hid ((hb3.block _ (Array.getElem?_eq_some_iff.1 HY3.out).1).trans HY3.out)
    have HO3 := Lib.hid ho3
    have HSZ : Hid (w.heap.size + 1 + 1 < w1.heap.size) := Lib.hid (Array.getElem?_eq_some_iff.1 HY3.out).1
    clear hb3 ho3 HB1 HY1 HY2 HY3 a0 a1 a2 a3 b0 b1 b2 b3
    obtain ⟨c0, c1, c2, c3⟩ := blk2 HU3.out
    have hz := set2 (x := .int .i64 k2) (y := .slice ao3 d2.length cap3) HU3.out
    obtain ⟨q0, q1, _, _⟩ := blk2 hz
    clear hz
    go_wp2
    exact bodyPost_ret (v := .tuple #[.agg #[.int .i64 k2, .slice ao3 d2.length cap3], .bool true]) (by simp [results, Try.results19, go_sem, q0, q1]) rfl ⟨k2, d2, true, _, by unfold laterC; rw [if_pos hm], rfl, (HO3.out.mono (by have := HSZ.out; omega)).set2 (fun j hj => by have := (HO3.out.lt j hj).1; have := HSZ.out; omega) _ _, (HB3.out.setCell (by simp; omega) _).setCell (by simp; omega) _⟩

/-- A kind's word. -/
def wordB (kind : Int) : ByteArray := if kind = 0 then { data := #[101, 109, 112, 116, 121] } else if kind = 1 then { data := #[100, 97, 116, 97] } else if kind = 2 then { data := #[104, 111, 108, 101] } else if kind = 3 then { data := #[116, 114, 105, 109, 109, 101, 100] } else { data := #[] }

set_option maxHeartbeats 400000 in
set_option maxRecDepth 100000 in
theorem word_any (kind : Int) (w : World) : Calls Try.prog 18 #[.int .i64 kind] w fun e w' => e = .returned (.string (wordB kind)) ∧ w = w' := by
  unfold wordB
  by_cases h0 : kind = 0
  · subst h0
    go_enter Try.func18, Try.ntmps18
    go_wp2
    go_ret
    exact ⟨rfl, rfl⟩
  by_cases h1 : kind = 1
  · subst h1
    go_enter Try.func18, Try.ntmps18
    go_wp2
    go_ret
    exact ⟨rfl, rfl⟩
  by_cases h2 : kind = 2
  · subst h2
    go_enter Try.func18, Try.ntmps18
    go_wp2
    go_ret
    exact ⟨rfl, rfl⟩
  by_cases h3 : kind = 3
  · subst h3
    go_enter Try.func18, Try.ntmps18
    go_wp2
    go_ret
    exact ⟨rfl, rfl⟩
  have b0 : (kind == 0) = false := by rw [beq_eq_false_iff_ne]; exact h0
  have b1 : (kind == 1) = false := by rw [beq_eq_false_iff_ne]; exact h1
  have b2 : (kind == 2) = false := by rw [beq_eq_false_iff_ne]; exact h2
  have b3 : (kind == 3) = false := by rw [beq_eq_false_iff_ne]; exact h3
  rw [if_neg h0, if_neg h1, if_neg h2, if_neg h3]
  clear h0 h1 h2 h3
  go_enter Try.func18, Try.ntmps18
  go_wp2
  go_ret
  exact ⟨rfl, rfl⟩

end Go.Proofs.Ytbihammpdjkonaa
