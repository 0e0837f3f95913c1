/- The contracts of package cell's Copy, Later, Word. -/
import Derived.Test.YtnhffeppbliabaaCelG
import Derived.Deep.RegionHeld3
namespace Go.Proofs.Ytnhffeppbliabaa
open Go.RowKit

set_option maxHeartbeats 1000000 in
set_option maxRecDepth 100000 in
theorem copy_any (k : Int) (v : Value) (d : List Nat) (w : World) (hr : Reads w .u8 v d) (hx : d.length ≤ 100000000000000) :
    Calls Try.prog 52 #[.agg #[.int .i64 k, v]] w fun e w' => ∃ v', e = .returned (.agg #[.int .i64 k, v']) ∧ Owns w' w.heap.size 5 .u8 v' d ∧ Below w.heap.size w w' := by
  obtain ⟨ao, cap, rfl, _, _, _⟩ := hr.val
  obtain ⟨hb0, hx1, hx2⟩ := two_boxes w (.slice ao d.length cap) (.slice none 0 0) k 0
  obtain ⟨W0, hW0⟩ : ∃ W0, W0 = (w.alloc (.cells #[.int .i64 k, .slice ao d.length cap] 49)).alloc (.cells #[.int .i64 0, .slice none 0 0] 49) := ⟨_, rfl⟩
  rw [← hW0] at hb0 hx1 hx2
  have HR := Lib.hid (hr.new hb0)
  have HB0 := Lib.hid hb0
  have HX2 := Lib.hid hx2
  have HX1 := Lib.hid hx1
  obtain ⟨a0, a1, _, _⟩ := blk2 hx1
  obtain ⟨b0, b1, b2, b3⟩ := blk2 hx2
  have hsz : w.heap.size + 1 < W0.heap.size := (Array.getElem?_eq_some_iff.1 hx2).1
  have HSZ := Lib.hid hsz
  clear hx1 hx2 hb0 hr hsz
  go_enter Try.func52, Try.ntmps52
  go_wp2_with fail
  rw [← hW0]
  have HW0 := Lib.hid hW0
  clear hW0
  go_region_held3 (fun w' => w'.cell? ⟨w.heap.size, 0, none⟩ = some (.int .i64 k) ∧ w'.cell? ⟨w.heap.size, 1, none⟩ = some (.slice ao d.length cap)) (go_keep) (first
    | (go_at_call 78; refine (clone_any _ d _ (by first | exact HR.out | exact HR.out.drewN 1) hx).mono ?_; rintro e w1 ⟨v1, rfl, ho1, hb1⟩
       obtain ⟨ao1, cap1, rfl, _, _, _⟩ := ho1.reads.val
       have HO1 : Hid (Owns w1 W0.heap.size 5 .u8 (.slice ao1 d.length cap1) d) := Lib.hid ho1
       have HB1 : Hid (Below W0.heap.size W0 w1) := Lib.hid (by first | exact hb1 | exact ⟨hb1.os, hb1.tape, hb1.output, hb1.size, hb1.block⟩)
       have c2 := (HB1.out.block _ HSZ.out).trans HX2.out
       obtain ⟨f0, f1, f2, f3⟩ := blk2 c2
       have c1 := (HB1.out.block _ (Nat.lt_of_succ_lt HSZ.out)).trans HX1.out
       obtain ⟨m0, m1, _, _⟩ := blk2 c1
       clear ho1 hb1))
  all_goals
    have hz := set2 (x := .int .i64 k) (y := .slice ao1 d.length cap1) c2
    obtain ⟨q0, q1, _, _⟩ := blk2 hz
    go_wp2
    exact bodyPost_ret (v := .agg #[.int .i64 k, .slice ao1 d.length cap1]) (by simp [results, Try.results52, go_sem, q0, q1]) rfl ⟨_, rfl, (HO1.out.mono HB0.out.size).grown (row := some (w.heap.size + 1)) ⟨rfl, rfl, rfl, by simp, fun j _ hj => by rw [heap_setCell_other _ _ _ _ (fun e => hj (by rw [e])), heap_setCell_other _ _ _ _ (fun e => hj (by rw [e]))]⟩ (by cases hv : (Value.slice ao1 d.length cap1).ownBlock with
        | none => exact .inl rfl
        | some j => exact .inr fun he => by have := (HO1.out.lt j hv).1; have := Option.some.inj he; have := HSZ.out; omega), ((HB0.out.trans (HB1.out.mono HB0.out.size)).setCell (by simp) _).setCell (by simp) _⟩

/-- The one that the other may become. -/
def laterC (k1 : Int) (d1 : List Nat) (k2 : Int) (d2 : List Nat) : Int × List Nat × Bool :=
  if mayC k1 d1 k2 d2 = true then (k2, d2, true) else if mayC k2 d2 k1 d1 = true then (k1, d1, true) else (0, [], false)

/-- What is owned stays so where a block that isn't its own is written. -/
theorem Owns.set2 {w : World} {base : Nat} {e : TypeId} {k : IntKind} {v : Value} {l : List Nat} (h : Owns w base e k v l) {p : Nat} (hp : ∀ j, v.ownBlock = some j → j ≠ p) (x y : Value) : Owns ((w.setCell ⟨p, 0, none⟩ x).setCell ⟨p, 1, none⟩ y) base e k v l :=
  h.grown (row := some p) ⟨rfl, rfl, rfl, by simp, fun j _ hj => by rw [heap_setCell_other _ _ _ _ (fun e => hj (by rw [e])), heap_setCell_other _ _ _ _ (fun e => hj (by rw [e]))]⟩ (by
    cases hv : v.ownBlock with
    | none => exact .inl rfl
    | some j => exact .inr fun he => hp j hv (Option.some.inj he))

/-- Three boxes of cells, made one behind the other. -/
theorem three_boxes (w : World) (x y z : Value) (k1 k2 k3 : Int) :
    Below w.heap.size w (((w.alloc (.cells #[.int .i64 k1, x] 49)).alloc (.cells #[.int .i64 k2, y] 49)).alloc (.cells #[.int .i64 k3, z] 49)) ∧
    (((w.alloc (.cells #[.int .i64 k1, x] 49)).alloc (.cells #[.int .i64 k2, y] 49)).alloc (.cells #[.int .i64 k3, z] 49)).heap[w.heap.size]? = some (.cells #[.int .i64 k1, x] 49 (0, 0)) ∧
    (((w.alloc (.cells #[.int .i64 k1, x] 49)).alloc (.cells #[.int .i64 k2, y] 49)).alloc (.cells #[.int .i64 k3, z] 49)).heap[w.heap.size + 1]? = some (.cells #[.int .i64 k2, y] 49 (0, 0)) ∧
    (((w.alloc (.cells #[.int .i64 k1, x] 49)).alloc (.cells #[.int .i64 k2, y] 49)).alloc (.cells #[.int .i64 k3, z] 49)).heap[w.heap.size + 1 + 1]? = some (.cells #[.int .i64 k3, z] 49 (0, 0)) := by
  obtain ⟨h1, h2, h3⟩ := two_boxes w x y k1 k2
  refine ⟨h1.alloc (by simp; omega) _, ?_, ?_, ?_⟩
  · rw [Below.heap_alloc _ _ _ (by simp; omega)]; exact h2
  · rw [Below.heap_alloc _ _ _ (by simp)]; exact h3
  · have := heap_alloc_new ((w.alloc (.cells #[.int .i64 k1, x] 49)).alloc (.cells #[.int .i64 k2, y] 49)) (.cells #[.int .i64 k3, z] 49)
    simpa using this

/-- What Later answers. -/
def LaterPost (k1 : Int) (d1 : List Nat) (k2 : Int) (d2 : List Nat) (w : World) (e : Ending) (w' : World) : Prop :=
  ∃ k d ok v', (k, d, ok) = laterC k1 d1 k2 d2 ∧ e = .returned (.tuple #[.agg #[.int .i64 k, v'], .bool ok]) ∧ Owns w' w.heap.size 5 .u8 v' d ∧ Below w.heap.size w w'

/-- A kind's word. -/
def wordB (kind : Int) : ByteArray := if kind = 0 then { data := #[101, 109, 112, 116, 121] } else if kind = 1 then { data := #[100, 97, 116, 97] } else if kind = 2 then { data := #[104, 111, 108, 101] } else if kind = 3 then { data := #[116, 114, 105, 109, 109, 101, 100] } else { data := #[] }

end Go.Proofs.Ytnhffeppbliabaa
