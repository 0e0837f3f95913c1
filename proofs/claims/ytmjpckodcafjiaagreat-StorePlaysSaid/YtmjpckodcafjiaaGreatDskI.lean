/- A disk in memory: the contracts of writing, apart, lose. -/
import Derived.Test.YtmjpckodcafjiaaGreatDskH
import Derived.Shelf.SlMaps.Clone
namespace Go.Proofs.YtmjpckodcafjiaaGreat
open Go.RowKit

theorem set2w {w : World} {p : Nat} {x0 x1 : Value} {e : TypeId} (h : w.heap[p]? = some (.cells #[x0, x1] e (0, 0))) (a b : Value) : ((w.setCell ⟨p, 0, none⟩ a).setCell ⟨p, 1, none⟩ b).heap[p]? = some (.cells #[a, b] e (0, 0)) :=
  heap_setCell_same _ p 1 _ _ _ (heap_setCell_same _ p 0 _ _ _ h)
theorem set4w {w : World} {p : Nat} {x0 x1 x2 x3 : Value} {e : TypeId} (h : w.heap[p]? = some (.cells #[x0, x1, x2, x3] e (0, 0))) (a b c d : Value) :
    ((((w.setCell ⟨p, 0, none⟩ a).setCell ⟨p, 1, none⟩ b).setCell ⟨p, 2, none⟩ c).setCell ⟨p, 3, none⟩ d).heap[p]? = some (.cells #[a, b, c, d] e (0, 0)) :=
  heap_setCell_same _ p 3 _ _ _ (heap_setCell_same _ p 2 _ _ _ (heap_setCell_same _ p 1 _ _ _ (heap_setCell_same _ p 0 _ _ _ h)))
theorem fr_set2w (w : World) (p : Nat) (a b : Value) : Fr (fun j => j = p) w ((w.setCell ⟨p, 0, none⟩ a).setCell ⟨p, 1, none⟩ b) := Fr.trans (fr_set w p 0 a) (fr_set _ p 1 b) (fun _ _ h => h) (fun _ _ h => h)
theorem fr_set4w (w : World) (p : Nat) (a b c d : Value) : Fr (fun j => j = p) w ((((w.setCell ⟨p, 0, none⟩ a).setCell ⟨p, 1, none⟩ b).setCell ⟨p, 2, none⟩ c).setCell ⟨p, 3, none⟩ d) :=
  Fr.trans (fr_set2w w p a b) (Fr.trans (fr_set _ p 2 c) (fr_set _ p 3 d) (fun _ _ h => h) (fun _ _ h => h)) (fun _ _ h => h) (fun _ _ h => h)
/-- What was made anew may be written: all that was is as it was. -/
theorem Fr.fresh {S : Nat → Prop} {a b c : World} (h : Below a.heap.size a b) (k : Fr S b c) (hs : ∀ j, S j → a.heap.size ≤ j) : Below a.heap.size a c :=
  (h.trans (k.below h.size fun j hj hS => Nat.not_le_of_lt hj (hs j hS)))

def WritingPost (n : Nm) (b : List Nat) (w : World) (e : Ending) (w' : World) : Prop :=
  ∃ v', e = .returned (chV ⟨0, n, [], b⟩ v') ∧ Owns w' w.heap.size 5 .u8 v' b ∧ Below w.heap.size w w'

set_option maxHeartbeats 1000000 in
set_option maxRecDepth 100000 in
theorem writing_any (n : Nm) (v : Value) (b : List Nat) (w : World) (hr : Reads w .u8 v b) (hx : b.length ≤ 100000000000000) :
    Calls Tryz.prog 72 #[nmV n, v] w (WritingPost n b w) := by
  obtain ⟨ao, cap, rfl, _, _, _⟩ := hr.val
  obtain ⟨W0, hW0⟩ : ∃ W0, W0 = w.alloc (.cells #[.int .i64 0, .string { data := #[] }, .string { data := #[] }, .slice none 0 0] 106) := ⟨_, rfl⟩
  have hb0 : Below w.heap.size w W0 := by rw [hW0]; exact (Below.refl _ _).alloc (Nat.le_refl _) _
  have hx0 : W0.heap[w.heap.size]? = some (.cells #[.int .i64 0, .string { data := #[] }, .string { data := #[] }, .slice none 0 0] 106 (0, 0)) := by rw [hW0]; exact heap_alloc_new _ _
  have hsz : w.heap.size < W0.heap.size := (Array.getElem?_eq_some_iff.1 hx0).1
  have HR := Lib.hid (hr.new hb0)
  have HB0 := Lib.hid hb0
  have HX0 := Lib.hid hx0
  have HSZ := Lib.hid hsz
  clear hr hb0 hx0 hsz
  unfold nmV
  obtain ⟨s, hsn⟩ : ∃ s : ByteArray, s = ⟨n.toArray⟩ := ⟨_, rfl⟩
  rw [← hsn]
  have HSN := Lib.hid hsn
  clear hsn
  go_enter Tryz.func72, Tryz.ntmps72
  go_wp2_with fail
  rw [← hW0]
  have HW0 := Lib.hid hW0
  clear hW0
  refine (clone_any _ b _ HR.out hx).mono ?_
  rintro e w1 ⟨v1, rfl, ho1, hb1⟩
  obtain ⟨ao1, cap1, rfl, _, _, _⟩ := ho1.reads.val
  have hx1 : w1.heap[w.heap.size]? = _ := (hb1.block _ HSZ.out).trans HX0.out
  have d0 : w1.cell? ⟨w.heap.size, 0, none⟩ = some (.int .i64 0) := by rw [cell_of_row _ _ 0 _ _ _ hx1]; rfl
  have d1 : w1.cell? ⟨w.heap.size, 1, none⟩ = some (.string { data := #[] }) := by rw [cell_of_row _ _ 1 _ _ _ hx1]; rfl
  have d2 : w1.cell? ⟨w.heap.size, 2, none⟩ = some (.string { data := #[] }) := by rw [cell_of_row _ _ 2 _ _ _ hx1]; rfl
  have d3 : w1.cell? ⟨w.heap.size, 3, none⟩ = some (.slice none 0 0) := by rw [cell_of_row _ _ 3 _ _ _ hx1]; rfl
  have f0 := frozen_of_row w1 w.heap.size 0 _ _ hx1
  have f1 := frozen_of_row w1 w.heap.size 1 _ _ hx1
  have f2 := frozen_of_row w1 w.heap.size 2 _ _ hx1
  have f3 := frozen_of_row w1 w.heap.size 3 _ _ hx1
  have HO1 := Lib.hid ho1
  have HB1 := Lib.hid hb1
  have HX1 := Lib.hid hx1
  clear ho1 hb1 hx1
  go_wp2
  have hz := set4w HX1.out (.int .i64 0) (.string s) (.string { data := #[] }) (.slice ao1 b.length cap1)
  have q0 := cell_of_row _ _ 0 _ _ _ hz
  have q1 := cell_of_row _ _ 1 _ _ _ hz
  have q2 := cell_of_row _ _ 2 _ _ _ hz
  have q3 := cell_of_row _ _ 3 _ _ _ hz
  have HFS := Lib.hid (fr_set4w w1 w.heap.size (.int .i64 0) (.string s) (.string { data := #[] }) (.slice ao1 b.length cap1))
  refine bodyPost_ret (v := .agg #[.int .i64 0, .string s, .string { data := #[] }, .slice ao1 b.length cap1]) (by simp [results, Tryz.results72, go_sem, q0, q1, q2, q3]) rfl ?_
  refine ⟨.slice ao1 b.length cap1, by rw [HSN.out]; rfl, ?_, ?_⟩
  · have h1 := (HO1.out.mono HB0.out.size)
    refine h1.grown (row := some w.heap.size) ⟨HFS.out.os, HFS.out.tape, HFS.out.output, HFS.out.size, fun j hj hne => HFS.out.block j hj fun e => hne (by rw [e])⟩ ?_
    cases hv : (Value.slice ao1 b.length cap1).ownBlock with
    | none => exact .inl rfl
    | some j =>
        right
        intro he
        have h2 := (HO1.out.lt j hv).1
        have h3 := Option.some.inj he
        have h4 := HSZ.out
        omega
  · exact HFS.out.fresh (HB0.out.trans (HB1.out.mono HB0.out.size)) fun j hj => by rw [hj]; exact Nat.le_refl _

/-- A record of the files, apart. -/
def ApartPost (mb : Option Nat) (z : Int) (w : World) (e : Ending) (w' : World) : Prop :=
  ∃ mb', e = .returned (.agg #[.map mb', .int .i64 z]) ∧ Below w.heap.size w w' ∧ ((mb = none ∧ mb' = none) ∨ ∃ b b' es clock, mb = some b ∧ mb' = some b' ∧ w.heap.size ≤ b' ∧ w.heap[b]? = some (.map es clock) ∧ w'.heap[b']? = some (.map es clock))

/-- maps.Clone, at this program. -/
def ClonePost (mb : Option Nat) (w : World) (e : Ending) (w' : World) : Prop :=
  (mb = none ∧ e = .returned (.map none) ∧ w' = w) ∨ ∃ b es clock, mb = some b ∧ w.heap[b]? = some (.map es clock) ∧ e = .returned (.map (some w.heap.size)) ∧ w' = w.alloc (.map es clock)

set_option maxHeartbeats 1000000 in
set_option maxRecDepth 100000 in
theorem mclone_any (mb : Option Nat) (w : World) (h : ∀ b, mb = some b → ∃ es clock, w.heap[b]? = some (.map es clock)) :
    Calls Tryz.prog 89 #[.map mb] w (ClonePost mb w) := by
  have hq := fun w => run_eql_map_nil_sl (P := Tryz.prog) w 68 _ _ mb Tryz.underlying68
  go_enter Tryz.func89, Tryz.ntmps89
  cases mb with
  | none =>
    go_wp2
    go_ret
    exact .inl ⟨rfl, rfl, rfl⟩
  | some b =>
    obtain ⟨es, clock, hb⟩ := h b rfl
    go_wp2
    rw [run_callFunc_extern Tryz.func97 (by kernel_rfl) (by kernel_rfl) (by kernel_rfl) (e := Extern.MapsClone.clone) (by kernel_rfl), run_maps_clone_sl w 68 hb]
    simp only [Result.andThen]
    rw [Oper.upon_value]
    go_wp2
    rw [run_typeAssert_map_sl _ 68 20 _ _ _ Tryz.underlying68]
    simp only [Result.andThen]
    rw [Oper.upon_value]
    go_wp2
    go_ret
    exact .inr ⟨b, es, clock, rfl, hb, rfl, rfl⟩

set_option maxHeartbeats 1000000 in
set_option maxRecDepth 100000 in
theorem apart_any {w : World} {p o : Nat} {mb : Option Nat} {cs : Array Value} {z : Int} (hp : w.heap[p]? = some (.cells cs 73 (0, 0))) (hc0 : cs[o]? = some (.map mb)) (hc1 : cs[o + 1]? = some (.int .i64 z))
    (hm : ∀ b, mb = some b → ∃ es clock, w.heap[b]? = some (.map es clock)) :
    Calls Tryz.prog 80 #[.pointer (some ⟨p, o, none⟩)] w (ApartPost mb z w) := by
  obtain ⟨W0, hW0⟩ : ∃ W0, W0 = w.alloc (.cells #[.map none, .int .i64 0] 70) := ⟨_, rfl⟩
  have hb0 : Below w.heap.size w W0 := by rw [hW0]; exact (Below.refl _ _).alloc (Nat.le_refl _) _
  have hx0 : W0.heap[w.heap.size]? = some (.cells #[.map none, .int .i64 0] 70 (0, 0)) := by rw [hW0]; exact heap_alloc_new _ _
  have hpl := (Array.getElem?_eq_some_iff.1 hp).1
  have hp0 := (hb0.block p hpl).trans hp
  have hsz : W0.heap.size = w.heap.size + 1 := by rw [hW0]; simp
  have a0 : W0.cell? ⟨p, o, none⟩ = some (.map mb) := by rw [cell_of_row W0 p o _ _ _ hp0]; exact hc0
  have a1 : W0.cell? ⟨p, o + 1, none⟩ = some (.int .i64 z) := by rw [cell_of_row W0 p (o + 1) _ _ _ hp0]; exact hc1
  have HMM : Hid (∀ b, mb = some b → ∃ es clock, W0.heap[b]? = some (.map es clock)) := Lib.hid fun b e => by
    obtain ⟨es, c, h⟩ := hm b e
    exact ⟨es, c, (hb0.block b (Array.getElem?_eq_some_iff.1 h).1).trans h⟩
  have HM0 := Lib.hid hm
  have HB0 := Lib.hid hb0
  have HX0 := Lib.hid hx0
  have HP0 := Lib.hid hp0
  have HPL := Lib.hid hpl
  have HSZ := Lib.hid hsz
  have HC0 := Lib.hid hc0
  have HC1 := Lib.hid hc1
  obtain ⟨b0, b1, g0, g1⟩ : W0.cell? ⟨w.heap.size, 0, none⟩ = some (.map none) ∧ W0.cell? ⟨w.heap.size, 1, none⟩ = some (.int .i64 0) ∧ W0.frozen? ⟨w.heap.size, 0, none⟩ = false ∧ W0.frozen? ⟨w.heap.size, 1, none⟩ = false :=
    ⟨by rw [cell_of_row _ _ 0 _ _ _ hx0]; rfl, by rw [cell_of_row _ _ 1 _ _ _ hx0]; rfl, frozen_of_row _ _ 0 _ _ hx0, frozen_of_row _ _ 1 _ _ hx0⟩
  have hne1 : ¬ p = w.heap.size := Nat.ne_of_lt hpl
  have hne2 : ¬ w.heap.size = p := Ne.symm hne1
  clear hb0 hx0 hp0 hpl hsz hm hp hc0 hc1
  go_enter Tryz.func80, Tryz.ntmps80
  go_wp2_with fail
  rw [← hW0]
  have HW0 := Lib.hid hW0
  clear hW0
  go_region_held3 (fun w' => w'.cell? ⟨p, o, none⟩ = some (.map mb) ∧ w'.cell? ⟨p, o + 1, none⟩ = some (.int .i64 z)) (go_keep) (first
    | (go_at_call 89; refine (mclone_any mb W0.drew HMM.out).mono ?_; rintro e w1 hcl
       obtain ⟨mb', he, hb1, hcase⟩ : ∃ mb', e = .returned (.map mb') ∧ Below W0.heap.size W0 w1 ∧ ((mb = none ∧ mb' = none) ∨ ∃ b es clock, mb = some b ∧ mb' = some W0.heap.size ∧ W0.heap[b]? = some (.map es clock) ∧ w1.heap[W0.heap.size]? = some (.map es clock)) := by
         rcases hcl with ⟨h1, h2, h3⟩ | ⟨b, es, clock, h1, h2, h3, h4⟩
         · exact ⟨none, h2, by rw [h3]; exact ⟨rfl, rfl, rfl, Nat.le_refl _, fun _ _ => rfl⟩, .inl ⟨h1, rfl⟩⟩
         · exact ⟨_, h3, by rw [h4]; exact (⟨rfl, rfl, rfl, Nat.le_refl _, fun _ _ => rfl⟩ : Below W0.heap.size W0 W0.drew).alloc (Nat.le_refl _) _, .inr ⟨b, es, clock, h1, rfl, h2, by rw [h4]; exact (MapKept.heap_alloc W0.drew _).1⟩⟩
       subst he
       have HB1 := Lib.hid hb1
       have HCASE := Lib.hid hcase
       have hx1 := (hb1.block w.heap.size (by rw [HSZ.out]; exact Nat.lt_succ_self _)).trans HX0.out
       have hp1 := (hb1.block p (Nat.lt_of_lt_of_le HPL.out HB0.out.size)).trans HP0.out
       have a0 : w1.cell? ⟨p, o, none⟩ = some (.map mb) := by rw [cell_of_row w1 p o _ _ _ hp1]; exact HC0.out
       have a1 : w1.cell? ⟨p, o + 1, none⟩ = some (.int .i64 z) := by rw [cell_of_row w1 p (o + 1) _ _ _ hp1]; exact HC1.out
       have b0 : w1.cell? ⟨w.heap.size, 0, none⟩ = some (.map none) := by rw [cell_of_row _ _ 0 _ _ _ hx1]; rfl
       have b1 : w1.cell? ⟨w.heap.size, 1, none⟩ = some (.int .i64 0) := by rw [cell_of_row _ _ 1 _ _ _ hx1]; rfl
       have g0 := frozen_of_row _ _ 0 _ _ hx1
       have g1 := frozen_of_row _ _ 1 _ _ hx1
       have HX1 := Lib.hid hx1
       clear hb1 hcase hcl hx1 hp1))
  go_wp2
  have hz := set2w HX1.out (.map mb') (.int .i64 z)
  have q0 := cell_of_row _ _ 0 _ _ _ hz
  have q1 := cell_of_row _ _ 1 _ _ _ hz
  have HFS := Lib.hid (fr_set2w w1 w.heap.size (.map mb') (.int .i64 z))
  refine bodyPost_ret (v := .agg #[.map mb', .int .i64 z]) (by simp [results, Tryz.results80, go_sem, q0, q1]) rfl ?_
  refine ⟨mb', rfl, HFS.out.fresh (HB0.out.trans (HB1.out.mono HB0.out.size)) fun j hj => by rw [hj]; exact Nat.le_refl _, ?_⟩
  rcases HCASE.out with ⟨h1, h2⟩ | ⟨b, es, clock, h1, h2, h3, h4⟩
  · exact .inl ⟨h1, h2⟩
  · obtain ⟨es', c', h5⟩ := HM0.out b h1
    have h6 := (HB0.out.block b (Array.getElem?_eq_some_iff.1 h5).1).symm.trans h3
    refine .inr ⟨b, W0.heap.size, es, clock, h1, h2, HB0.out.size, h6, ?_⟩
    refine (HFS.out.block _ (Array.getElem?_eq_some_iff.1 h4).1 fun e => ?_).trans h4
    have := HSZ.out
    omega

end Go.Proofs.YtmjpckodcafjiaaGreat
