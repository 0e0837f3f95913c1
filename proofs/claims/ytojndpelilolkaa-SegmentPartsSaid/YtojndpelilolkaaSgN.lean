/- The document's own segments: Document, Check, Same, Put; alive. -/
import Derived.Test.YtojndpelilolkaaSgE
import Derived.Test.YtojndpelilolkaaRecB
import Derived.Deep.RegionHeld3
namespace Go.Proofs.Ytojndpelilolkaa
open Go.RowKit

/-- A cell of the document's, its values. -/
def drow (c : IC) : List Value := [.int .i64 c.1, .string (S8 c.2)]
theorem drow_flat (l : List IC) : (l.map drow).flatten = dvals l := by
  induction l with
  | nil => rfl
  | cons x r ih => simp only [List.map_cons, List.flatten_cons, ih]; rfl
theorem ownsD_rec {w : World} {base : Nat} {v : Value} {l : List IC} : OwnsD w base v l ↔ RecOwn w base 45 2 v (l.map drow) := by
  unfold OwnsD RecOwn
  rw [List.length_map, drow_flat]
  exact ⟨fun h => ⟨fun r hr => by obtain ⟨x, _, rfl⟩ := List.mem_map.1 hr; rfl, h⟩, fun h => h.2⟩
/-- A row of the document's cells that reads. -/
def Dc (w : World) (B : Nat → Prop) (v : Value) (cs : List IC) : Prop := RecAt w B 2 v (cs.map drow)
theorem OwnsD.dc {w : World} {base : Nat} {v : Value} {cs : List IC} (h : OwnsD w base v cs) : Dc w (fun j => base ≤ j) v cs := (ownsD_rec.1 h).at'.mono fun _ _ h => h.2
theorem Dc.keep {w w' : World} {B : Nat → Prop} {v : Value} {cs : List IC} (h : Dc w B v cs) (hk : Kept B w w') : Dc w' B v cs := RecAt.keep h hk
theorem Dc.old {w w' : World} {B : Nat → Prop} {v : Value} {cs : List IC} (h : Dc w B v cs) (hb : Below w.heap.size w w') : Dc w' B v cs := h.keep (kept_new hb B)
theorem Dc.mono {w : World} {B C : Nat → Prop} {v : Value} {cs : List IC} (h : Dc w B v cs) (hc : ∀ j, j < w.heap.size → B j → C j) : Dc w C v cs := RecAt.mono h hc
theorem Dc.val {w : World} {B : Nat → Prop} {v : Value} {cs : List IC} (h : Dc w B v cs) : ∃ ao cap, v = .slice ao cs.length cap ∧ cs.length ≤ cap ∧ cap ≤ maxLen ∧ (ao = none → cap = 0) := by
  obtain ⟨ao, cap, h1, h2, h3, h4⟩ := RecAt.val h
  rw [List.length_map] at h1 h2
  exact ⟨ao, cap, h1, h2, h3, h4⟩
theorem Dc.at {w : World} {B : Nat → Prop} {ao : Option Addr} {n cap : Nat} {cs : List IC} (h : Dc w B (.slice ao n cap) cs) {i : Nat} (hi : i < cs.length) :
    ∃ b off, ao = some ⟨b, off, none⟩ ∧ b < w.heap.size ∧ B b ∧ w.cell? ⟨b, off + i * 2, none⟩ = some (.int .i64 (cs.getD i (0, [])).1) ∧ w.cell? ⟨b, off + i * 2 + 1, none⟩ = some (.string (S8 (cs.getD i (0, [])).2)) := by
  obtain ⟨ao', cap', hv, h1, h2, h3, h4⟩ := h
  cases hv
  rcases h4 with h4 | ⟨b, off, ha, hb, hB, hc⟩
  · rw [List.map_eq_nil_iff] at h4
    subst h4
    simp at hi
  · have hr : (cs.map drow)[i]? = some (drow (cs.getD i (0, []))) := by
      rw [List.getElem?_map, List.getD_eq_getElem?_getD, List.getElem?_eq_getElem hi]; rfl
    exact ⟨b, off, ha, hb, hB, hc i _ hr 0 _ rfl, hc i _ hr 1 _ rfl⟩

/-- A box of the document's segment. -/
def SdB (w : World) (q : Nat) (x y : Value) : Prop := w.heap[q]? = some (.cells #[x, y] 29 (0, 0))
theorem SdB.lt {w : World} {q : Nat} {x y : Value} (h : SdB w q x y) : q < w.heap.size := (Array.getElem?_eq_some_iff.1 h).1
theorem SdB.low {w w' : World} {B q : Nat} {x y : Value} (h : SdB w q x y) (hb : Below B w w') (hq : q < B) : SdB w' q x y := (hb.block _ hq).trans h
theorem SdB.old {w w' : World} {q : Nat} {x y : Value} (h : SdB w q x y) (hb : Below w.heap.size w w') : SdB w' q x y := h.low hb h.lt
theorem SdB.x {w : World} {q : Nat} {x y : Value} (h : SdB w q x y) : w.cell? ⟨q, 0, none⟩ = some x ∧ w.cell? ⟨q, 1, none⟩ = some y ∧ w.frozen? ⟨q, 0, none⟩ = false ∧ w.frozen? ⟨q, 1, none⟩ = false := blk2 h
theorem sdb_new (w : World) (x y : Value) : SdB (w.alloc (.cells #[x, y] 29)) w.heap.size x y := heap_alloc_new _ _
theorem SdB.set {w : World} {q : Nat} {x y : Value} (h : SdB w q x y) (a b : Value) : SdB ((w.setCell ⟨q, 0, none⟩ a).setCell ⟨q, 1, none⟩ b) q a b := by
  unfold SdB at h ⊢
  rw [heap_setCell_same _ _ 1 _ _ _ (heap_setCell_same _ _ 0 _ _ _ h)]
  rfl
/-- A block ahead of what is owned is written. -/
theorem OwnsD.set {w : World} {base : Nat} {v : Value} {cs : List IC} (h : OwnsD w base v cs) {q : Nat} (hq : q < base) (i : Nat) (x : Value) : OwnsD (w.setCell ⟨q, i, none⟩ x) base v cs := by
  refine h.grown (grown_set w q i x) ?_
  cases hv : v.ownBlock with
  | none => exact .inl rfl
  | some j => exact .inr fun e => by have := (h.lt j hv).1; cases e; omega

set_option maxHeartbeats 2000000 in
set_option maxRecDepth 100000 in
theorem document14_any (f : Int) (v : Value) (cs : List IC) (w : World) (B : Nat → Prop) (h : CellsAt w B v cs) (hl : cs.length ≤ 1000000) :
    Calls Try.prog 8 #[.agg #[.int .i64 f, v]] w fun e w' => ∃ v', e = .returned (.agg #[.int .i64 f, v']) ∧ OwnsD w' w.heap.size v' cs ∧ Below w.heap.size w w' := by
  obtain ⟨ao, cap, rfl, l1, m1, _⟩ := h.val
  obtain ⟨W1, hW1⟩ : ∃ W1, W1 = (w.alloc (.cells #[.int .i64 f, .slice ao cs.length cap] 24)).alloc (.cells #[.int .i64 0, .slice none 0 0] 29) := ⟨_, rfl⟩
  have hb1 : Below w.heap.size w W1 := by rw [hW1]; exact ((Below.refl _ _).alloc (Nat.le_refl _) _).alloc (by simp) _
  have hx1 : SgB W1 w.heap.size (.int .i64 f) (.slice ao cs.length cap) := by rw [hW1]; exact (sgb_new _ _ _).old ((Below.refl _ _).alloc (Nat.le_refl _) _)
  have hz1 : SdB W1 (w.heap.size + 1) (.int .i64 0) (.slice none 0 0) := by
    have := sdb_new (w.alloc (.cells #[.int .i64 f, .slice ao cs.length cap] 24)) (.int .i64 0) (.slice none 0 0)
    rw [hW1]; simpa using this
  have HX1 := Lib.hid hx1
  have HZ1 := Lib.hid hz1
  have HB1 := Lib.hid hb1
  obtain ⟨n, hn⟩ : ∃ n, n = cs.length := ⟨_, rfl⟩
  have HDO : Hid (∀ W, Below W1.heap.size W1 W → Calls Try.prog 26 #[.slice ao n cap] W fun e w' => ∃ v', e = .returned v' ∧ OwnsD w' W.heap.size v' cs ∧ Below W.heap.size W w') := Lib.hid fun W hW => by
    rw [hn]; exact documents_any _ cs W B ((h.old hb1).old hW) hl
  rw [← hn] at HX1 hW1 ⊢
  have HN := Lib.hid hn
  have HX : Hid (∀ W, Below W1.heap.size W1 W → (W.cell? ⟨w.heap.size, 0, none⟩ = some (.int .i64 f) ∧ W.cell? ⟨w.heap.size, 1, none⟩ = some (.slice ao n cap)) ∧
      W.cell? ⟨w.heap.size + 1, 0, none⟩ = some (.int .i64 0) ∧ W.cell? ⟨w.heap.size + 1, 1, none⟩ = some (.slice none 0 0) ∧ W.frozen? ⟨w.heap.size + 1, 0, none⟩ = false ∧ W.frozen? ⟨w.heap.size + 1, 1, none⟩ = false) := Lib.hid fun W hb => by
    obtain ⟨p0, p1, _, _⟩ := (HX1.out.old hb).x
    exact ⟨⟨p0, p1⟩, (HZ1.out.old hb).x⟩
  have HW1 := Lib.hid hW1
  have HSZ : Hid (w.heap.size + 1 < W1.heap.size) := Lib.hid hz1.lt
  obtain ⟨⟨x0, x1⟩, z0, z1, f0, f1⟩ := HX.out W1 (Below.refl _ _)
  rw [HW1.out] at x0 x1 z0 z1 f0 f1
  clear h hb1 l1 m1 hx1 hz1 hn hW1
  go_enter Try.func8, Try.ntmps8
  go_upto_region 1 with fail
  rw [← HW1.out]
  rw [← HW1.out] at x0 x1 z0 z1 f0 f1
  have HSELF : Hid (Below W1.heap.size W1 W1) := Lib.hid (Below.refl _ _)
  go_region_held3 (fun w' => w'.cell? ⟨w.heap.size, 0, none⟩ = some (.int .i64 f) ∧ w'.cell? ⟨w.heap.size, 1, none⟩ = some (.slice ao n cap)) (go_keep) (first
    | (go_at_call 26
       refine (HDO.out _ ?hb).mono ?_
       case hb => first | exact Below.refl _ _ | exact (Below.refl _ _).drew
       rintro r wp ⟨vp, rfl, hop, hbp⟩
       have HBP : Hid (Below W1.heap.size W1 wp) := Lib.hid (by first | exact hbp | exact ⟨hbp.os, hbp.tape, hbp.output, hbp.size, hbp.block⟩)
       have HOP : Hid (OwnsD wp W1.heap.size vp cs) := Lib.hid hop
       obtain ⟨aop, capp, hv⟩ := hop.form
       rw [← HN.out] at hv
       subst hv
       obtain ⟨⟨x0, x1⟩, z0, z1, f0, f1⟩ := HX.out wp HBP.out
       clear hop hbp))
  all_goals
    go_wp2
    refine bodyPost_ret (v := .agg #[.int .i64 f, .slice aop n capp]) (by simp [results, Try.results8, go_sem, z0, z1]) rfl ⟨_, rfl, ?_, ?_⟩
    · exact ((HOP.out.set HSZ.out _ _).set HSZ.out _ _).mono HB1.out.size
    · refine ((HB1.out.trans (HBP.out.mono HB1.out.size)).setCell ?_ _).setCell ?_ _ <;> (show w.heap.size ≤ w.heap.size + 1; omega)

end Go.Proofs.Ytojndpelilolkaa
