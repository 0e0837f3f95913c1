/- The names of files in memory, sorted: the contracts of names. · A disk in memory: the contracts of writing, apart, lose. · A disk in memory: the contracts of lose, Start, and a change's loading. · What an operation leaves of a disk; changes one by one; the contract of Start. · A disk in memory: the contracts of Sync and Cut. · A disk in memory: the contract of Cut. · An append of one record, at a step of a region that draws its order. · A disk in memory: the contracts of change, fits, Read. · A disk in memory: the contracts of fits, Write, Rename, Remove, Read. · A disk in memory: the contracts of Rename, Remove, Read. -/
import Derived.Test.YtlckadlkgjfjcaaGreatDoorSrtK
import Derived.Test.YtlckadlkgjfjcaaGreatDoorDbP
import Derived.Shelf.SlMaps.Clone
import Derived.Deep.RegionHeldLaw
import Derived.Deep.AppendLies
import Derived.Deep.RegionLaw
import Derived.Test.YtlckadlkgjfjcaaGreatDoorStepR
namespace Go.Proofs.YtlckadlkgjfjcaaGreatDoor
open Go.RowKit Go.Maps Go.Sort Go.Shelf

/-- slices.Sort's two contracts here, at the fence that asks nothing. -/
theorem sortsA (m : Nat) : AnyZ.SortsIn Tryz.prog Tryz.sortedA_ren Fence.wide m :=
  ⟨fun blk off cap ss W hH hblk hsz => callsIn_wide.2 (AnyM.slices_Sort_string Tryz.sortA blk off cap ss W hH hblk hsz),
   fun p cap W => callsIn_wide.2 (AnyM.slices_Sort_string_none Tryz.sortA p cap W)⟩

/-- Names, as a slice of strings: sorted. -/
def srt (ns : List Nm) : List Nm := ns.mergeSort fun x y => decide (x ≤ y)
def NmsO (w : World) (base : Nat) (v : Value) (ns : List Nm) : Prop := w.ownsRow base 9 1 v ns.length (ns.map nmV)
theorem strKeys_ent (es : Fm Value) : strKeys (DataW.map (es.map ent)) = es.map (·.1) := by
  unfold strKeys
  simp only [List.map_map]
  rfl
set_option maxHeartbeats 1000000 in
set_option maxRecDepth 100000 in
theorem names_seq {w : World} {p o : Nat} {mb : Option Nat} {N : Nat} {S : List (List UInt8) → Prop} {R : List Nm} (hc : w.cell? ⟨p, o, none⟩ = some (.map mb)) (hl : N ≤ 1000000000)
    (hseq : SeqGives Fence.wide 2 Tryz.prog 288 #[.pointer (some ⟨w.heap.size, 0, none⟩)] encStr S N (w.alloc (.cells #[.map mb] 128))) (hS : ∀ ss, S ss → srt ss = R ∧ ss.length = R.length) :
    Calls Tryz.prog 184 #[.pointer (some ⟨p, o, none⟩)] w fun e w' => ∃ v, e = .returned v ∧ NmsO w' w.heap.size v R ∧ Below w.heap.size w w' := by
  refine (callsIn_wide (n := 6)).1 ?_
  have cK : ∀ mb W, CallsIn Fence.wide 5 Tryz.prog 240 #[.map mb] W fun e w' => e = .returned (.func (.func 288) #[] #[.pointer (some ⟨W.heap.size, 0, none⟩)]) ∧ w' = W.alloc (.cells #[.map mb] 128) := fun mb W => AnyZ.keys_in Tryz.keysA Fence.wide 5 trivial rfl mb W
  have cS := AnyZ.sorted_in Tryz.sortedA Fence.wide 5 trivial trivial trivial trivial rfl (by omega) (sortsA _) (enters_of Tryz.func287 (by kernel_rfl) rfl) 288 #[.pointer (some ⟨w.heap.size, 0, none⟩)] trivial (enters_of Tryz.func288 (by kernel_rfl) rfl) _ N (by simp only [maxLen]; omega) (by omega) _ hseq
  change CallsIn _ _ Tryz.prog 239 _ _ _ at cS
  have hfK : Fence.wide.fn 240 := trivial
  have hfS : Fence.wide.fn 239 := trivial
  refine callsIn_of_wp Tryz.func184 rfl trivial ?_ rfl
  simp only [Tryz.ntmps184, List.size_toArray, List.length_cons, List.length_nil, Nat.reduceAdd, Nat.reduceSub, Array.replicate_succ, Array.replicate_zero, List.push_toArray, List.append_toArray, List.nil_append, List.cons_append]
  gi_wp2_with (first
    | (gi_at_call 240; refine (cK _ _).mono ?_; rintro e w' ⟨rfl, rfl⟩)
    | (gi_at_call 239; refine cS.mono ?_; rintro e w' ⟨v, ss, rfl, hSs, hrow, hnil, hb⟩))
  go_ret
  obtain ⟨h1, h2⟩ := hS ss hSs
  refine ⟨v, rfl, ?_, ((Below.refl _ w).alloc (Nat.le_refl _) _).trans (hb.mono (by simp))⟩
  have h3 := ownsRow_base_a hrow (by simp : w.heap.size ≤ _)
  unfold NmsO
  rw [← h1, show (srt ss).length = ss.length by rw [h1, h2]]
  exact h3

theorem srt_perm {a b : List Nm} (h : a.Perm b) : srt a = srt b := mergeSort_of_perm h
theorem srt_length (a : List Nm) : (srt a).length = a.length := List.length_mergeSort a

set_option maxHeartbeats 1000000 in
set_option maxRecDepth 100000 in
theorem names_any {w : World} {p o : Nat} {mb : Option Nat} {es : Fm Value} (hc : w.cell? ⟨p, o, none⟩ = some (.map mb)) (hm : MapV w mb es) (hl : es.length ≤ 1000000000) :
    Calls Tryz.prog 184 #[.pointer (some ⟨p, o, none⟩)] w fun e w' => ∃ v, e = .returned v ∧ NmsO w' w.heap.size v (srt (es.map (·.1))) ∧ Below w.heap.size w w' := by
  cases mb with
  | none =>
    obtain rfl : es = [] := hm
    have hseq : SeqGives Fence.wide 2 Tryz.prog 288 #[.pointer (some ⟨w.heap.size, 0, none⟩)] encStr (fun ss : List (List UInt8) => ss = []) 0 (w.alloc (.cells #[.map none] 128)) :=
      AnyZ.keys_gives_nil (ρ := Tryz.keysA_ren) { Tryz.keysA with } Fence.wide _ trivial rfl w.heap.size _ (by simp) (by simp)
    exact names_seq hc (by omega) hseq fun ss h => by subst h; exact ⟨rfl, by rw [srt_length]; rfl⟩
  | some b =>
    have hm' : w.ownsMap Tryz.prog 9 hv b es.length (.map (es.map ent)) := hm
    have hbl := hm'.lt
    have hseq : SeqGives Fence.wide 2 Tryz.prog 288 #[.pointer (some ⟨w.heap.size, 0, none⟩)] encStr (fun ss => ss.Perm (strKeys (DataW.map (es.map ent)))) (Maps.size (DataW.map (es.map ent))) (w.alloc (.cells #[.map (some b)] 128)) :=
      AnyZ.keys_gives (ρ := Tryz.keysA_ren) { Tryz.keysA with } Fence.wide _ trivial rfl (by omega) w.heap.size b es.length _ _ (by simp) (by simp) (by
        obtain ⟨es', clock, hb, Ft, hs, hD⟩ := hm'
        exact ⟨es', clock, (Below.heap_alloc _ _ b hbl).trans hb, Ft, hs, hD⟩)
    refine names_seq hc (by simp only [Maps.size, List.length_map]; exact hl) hseq fun ss h => ?_
    rw [strKeys_ent] at h
    exact ⟨srt_perm h, by rw [srt_length, h.length_eq]⟩

end Go.Proofs.YtlckadlkgjfjcaaGreatDoor

namespace Go.Proofs.YtlckadlkgjfjcaaGreatDoor
open Go.RowKit

theorem set2w {w : World} {p : Nat} {x0 x1 : Value} {e : TypeId} (h : w.heap[p]? = some (.cells #[x0, x1] e (0, 0))) (a b : Value) : ((w.setCell ⟨p, 0, none⟩ a).setCell ⟨p, 1, none⟩ b).heap[p]? = some (.cells #[a, b] e (0, 0)) :=
  heap_setCell_same _ p 1 _ _ _ (heap_setCell_same _ p 0 _ _ _ h)
theorem set4w {w : World} {p : Nat} {x0 x1 x2 x3 : Value} {e : TypeId} (h : w.heap[p]? = some (.cells #[x0, x1, x2, x3] e (0, 0))) (a b c d : Value) :
    ((((w.setCell ⟨p, 0, none⟩ a).setCell ⟨p, 1, none⟩ b).setCell ⟨p, 2, none⟩ c).setCell ⟨p, 3, none⟩ d).heap[p]? = some (.cells #[a, b, c, d] e (0, 0)) :=
  heap_setCell_same _ p 3 _ _ _ (heap_setCell_same _ p 2 _ _ _ (heap_setCell_same _ p 1 _ _ _ (heap_setCell_same _ p 0 _ _ _ h)))
theorem fr_set2w (w : World) (p : Nat) (a b : Value) : Fr (fun j => j = p) w ((w.setCell ⟨p, 0, none⟩ a).setCell ⟨p, 1, none⟩ b) := Fr.trans (fr_set w p 0 a) (fr_set _ p 1 b) (fun _ _ h => h) (fun _ _ h => h)
theorem fr_set4w (w : World) (p : Nat) (a b c d : Value) : Fr (fun j => j = p) w ((((w.setCell ⟨p, 0, none⟩ a).setCell ⟨p, 1, none⟩ b).setCell ⟨p, 2, none⟩ c).setCell ⟨p, 3, none⟩ d) :=
  Fr.trans (fr_set2w w p a b) (Fr.trans (fr_set _ p 2 c) (fr_set _ p 3 d) (fun _ _ h => h) (fun _ _ h => h)) (fun _ _ h => h) (fun _ _ h => h)
/-- What was made anew may be written: all that was is as it was. -/
theorem Fr.fresh {S : Nat → Prop} {a b c : World} (h : Below a.heap.size a b) (k : Fr S b c) (hs : ∀ j, S j → a.heap.size ≤ j) : Below a.heap.size a c :=
  (h.trans (k.below h.size fun j hj hS => Nat.not_le_of_lt hj (hs j hS)))

def WritingPost (n : Nm) (b : List Nat) (w : World) (e : Ending) (w' : World) : Prop :=
  ∃ v', e = .returned (chV ⟨0, n, [], b⟩ v') ∧ Owns w' w.heap.size 5 .u8 v' b ∧ Below w.heap.size w w'

set_option maxHeartbeats 1000000 in
set_option maxRecDepth 100000 in
theorem writing_any (n : Nm) (v : Value) (b : List Nat) (w : World) (hr : Reads w .u8 v b) (hx : b.length ≤ 100000000000000) :
    Calls Tryz.prog 277 #[nmV n, v] w (WritingPost n b w) := by
  obtain ⟨ao, cap, rfl, _, _, _⟩ := hr.val
  obtain ⟨W0, hW0⟩ : ∃ W0, W0 = w.alloc (.cells #[.int .i64 0, .string { data := #[] }, .string { data := #[] }, .slice none 0 0] 135) := ⟨_, rfl⟩
  have hb0 : Below w.heap.size w W0 := by rw [hW0]; exact (Below.refl _ _).alloc (Nat.le_refl _) _
  have hx0 : W0.heap[w.heap.size]? = some (.cells #[.int .i64 0, .string { data := #[] }, .string { data := #[] }, .slice none 0 0] 135 (0, 0)) := by rw [hW0]; exact heap_alloc_new _ _
  have hsz : w.heap.size < W0.heap.size := (Array.getElem?_eq_some_iff.1 hx0).1
  have HR := Lib.hid (hr.new hb0)
  have HB0 := Lib.hid hb0
  have HX0 := Lib.hid hx0
  have HSZ := Lib.hid hsz
  clear hr hb0 hx0 hsz
  unfold nmV
  obtain ⟨s, hsn⟩ : ∃ s : ByteArray, s = ⟨n.toArray⟩ := ⟨_, rfl⟩
  rw [← hsn]
  have HSN := Lib.hid hsn
  clear hsn
  go_enter Tryz.func277, Tryz.ntmps277
  go_wp2_with fail
  rw [← hW0]
  have HW0 := Lib.hid hW0
  clear hW0
  refine (clone_any _ b _ HR.out hx).mono ?_
  rintro e w1 ⟨v1, rfl, ho1, hb1⟩
  obtain ⟨ao1, cap1, rfl, _, _, _⟩ := ho1.reads.val
  have hx1 : w1.heap[w.heap.size]? = _ := (hb1.block _ HSZ.out).trans HX0.out
  have d0 : w1.cell? ⟨w.heap.size, 0, none⟩ = some (.int .i64 0) := by rw [cell_of_row _ _ 0 _ _ _ hx1]; rfl
  have d1 : w1.cell? ⟨w.heap.size, 1, none⟩ = some (.string { data := #[] }) := by rw [cell_of_row _ _ 1 _ _ _ hx1]; rfl
  have d2 : w1.cell? ⟨w.heap.size, 2, none⟩ = some (.string { data := #[] }) := by rw [cell_of_row _ _ 2 _ _ _ hx1]; rfl
  have d3 : w1.cell? ⟨w.heap.size, 3, none⟩ = some (.slice none 0 0) := by rw [cell_of_row _ _ 3 _ _ _ hx1]; rfl
  have f0 := frozen_of_row w1 w.heap.size 0 _ _ hx1
  have f1 := frozen_of_row w1 w.heap.size 1 _ _ hx1
  have f2 := frozen_of_row w1 w.heap.size 2 _ _ hx1
  have f3 := frozen_of_row w1 w.heap.size 3 _ _ hx1
  have HO1 := Lib.hid ho1
  have HB1 := Lib.hid hb1
  have HX1 := Lib.hid hx1
  clear ho1 hb1 hx1
  go_wp2
  have hz := set4w HX1.out (.int .i64 0) (.string s) (.string { data := #[] }) (.slice ao1 b.length cap1)
  have q0 := cell_of_row _ _ 0 _ _ _ hz
  have q1 := cell_of_row _ _ 1 _ _ _ hz
  have q2 := cell_of_row _ _ 2 _ _ _ hz
  have q3 := cell_of_row _ _ 3 _ _ _ hz
  have HFS := Lib.hid (fr_set4w w1 w.heap.size (.int .i64 0) (.string s) (.string { data := #[] }) (.slice ao1 b.length cap1))
  refine bodyPost_ret (v := .agg #[.int .i64 0, .string s, .string { data := #[] }, .slice ao1 b.length cap1]) (by simp [results, Tryz.results277, go_sem, q0, q1, q2, q3]) rfl ?_
  refine ⟨.slice ao1 b.length cap1, by rw [HSN.out]; rfl, ?_, ?_⟩
  · have h1 := (HO1.out.mono HB0.out.size)
    refine h1.grown (row := some w.heap.size) ⟨HFS.out.os, HFS.out.tape, HFS.out.output, HFS.out.size, fun j hj hne => HFS.out.block j hj fun e => hne (by rw [e])⟩ ?_
    cases hv : (Value.slice ao1 b.length cap1).ownBlock with
    | none => exact .inl rfl
    | some j =>
        right
        intro he
        have h2 := (HO1.out.lt j hv).1
        have h3 := Option.some.inj he
        have h4 := HSZ.out
        omega
  · exact HFS.out.fresh (HB0.out.trans (HB1.out.mono HB0.out.size)) fun j hj => by rw [hj]; exact Nat.le_refl _

/-- A record of the files, apart. -/
def ApartPost (mb : Option Nat) (z : Int) (w : World) (e : Ending) (w' : World) : Prop :=
  ∃ mb', e = .returned (.agg #[.map mb', .int .i64 z]) ∧ Below w.heap.size w w' ∧ ((mb = none ∧ mb' = none) ∨ ∃ b b' es clock, mb = some b ∧ mb' = some b' ∧ w.heap.size ≤ b' ∧ w.heap[b]? = some (.map es clock) ∧ w'.heap[b']? = some (.map es clock))

/-- maps.Clone, at this program. -/
def ClonePost (mb : Option Nat) (w : World) (e : Ending) (w' : World) : Prop :=
  (mb = none ∧ e = .returned (.map none) ∧ w' = w) ∨ ∃ b es clock, mb = some b ∧ w.heap[b]? = some (.map es clock) ∧ e = .returned (.map (some w.heap.size)) ∧ w' = w.alloc (.map es clock)

set_option maxHeartbeats 1000000 in
set_option maxRecDepth 100000 in
theorem mclone_any (mb : Option Nat) (w : World) (h : ∀ b, mb = some b → ∃ es clock, w.heap[b]? = some (.map es clock)) :
    Calls Tryz.prog 180 #[.map mb] w (ClonePost mb w) := by
  have hq := fun w => run_eql_map_nil_sl (P := Tryz.prog) w 128 _ _ mb Tryz.underlying128
  go_enter Tryz.func180, Tryz.ntmps180
  cases mb with
  | none =>
    go_wp2
    go_ret
    exact .inl ⟨rfl, rfl, rfl⟩
  | some b =>
    obtain ⟨es, clock, hb⟩ := h b rfl
    go_wp2
    rw [run_callFunc_extern Tryz.func223 (by kernel_rfl) (by kernel_rfl) (by kernel_rfl) (e := Extern.MapsClone.clone) (by kernel_rfl), run_maps_clone_sl w 128 hb]
    simp only [Result.andThen]
    rw [Oper.upon_value]
    go_wp2
    rw [run_typeAssert_map_sl _ 128 20 _ _ _ Tryz.underlying128]
    simp only [Result.andThen]
    rw [Oper.upon_value]
    go_wp2
    go_ret
    exact .inr ⟨b, es, clock, rfl, hb, rfl, rfl⟩

set_option maxHeartbeats 1000000 in
set_option maxRecDepth 100000 in
theorem apart_any {w : World} {p o : Nat} {mb : Option Nat} {cs : Array Value} {z : Int} (hp : w.heap[p]? = some (.cells cs 133 (0, 0))) (hc0 : cs[o]? = some (.map mb)) (hc1 : cs[o + 1]? = some (.int .i64 z))
    (hm : ∀ b, mb = some b → ∃ es clock, w.heap[b]? = some (.map es clock)) :
    Calls Tryz.prog 130 #[.pointer (some ⟨p, o, none⟩)] w (ApartPost mb z w) := by
  obtain ⟨W0, hW0⟩ : ∃ W0, W0 = w.alloc (.cells #[.map none, .int .i64 0] 130) := ⟨_, rfl⟩
  have hb0 : Below w.heap.size w W0 := by rw [hW0]; exact (Below.refl _ _).alloc (Nat.le_refl _) _
  have hx0 : W0.heap[w.heap.size]? = some (.cells #[.map none, .int .i64 0] 130 (0, 0)) := by rw [hW0]; exact heap_alloc_new _ _
  have hpl := (Array.getElem?_eq_some_iff.1 hp).1
  have hp0 := (hb0.block p hpl).trans hp
  have hsz : W0.heap.size = w.heap.size + 1 := by rw [hW0]; simp
  have a0 : W0.cell? ⟨p, o, none⟩ = some (.map mb) := by rw [cell_of_row W0 p o _ _ _ hp0]; exact hc0
  have a1 : W0.cell? ⟨p, o + 1, none⟩ = some (.int .i64 z) := by rw [cell_of_row W0 p (o + 1) _ _ _ hp0]; exact hc1
  have HMM : Hid (∀ b, mb = some b → ∃ es clock, W0.heap[b]? = some (.map es clock)) := Lib.hid fun b e => by
    obtain ⟨es, c, h⟩ := hm b e
    exact ⟨es, c, (hb0.block b (Array.getElem?_eq_some_iff.1 h).1).trans h⟩
  have HM0 := Lib.hid hm
  have HB0 := Lib.hid hb0
  have HX0 := Lib.hid hx0
  have HP0 := Lib.hid hp0
  have HPL := Lib.hid hpl
  have HSZ := Lib.hid hsz
  have HC0 := Lib.hid hc0
  have HC1 := Lib.hid hc1
  obtain ⟨b0, b1, g0, g1⟩ : W0.cell? ⟨w.heap.size, 0, none⟩ = some (.map none) ∧ W0.cell? ⟨w.heap.size, 1, none⟩ = some (.int .i64 0) ∧ W0.frozen? ⟨w.heap.size, 0, none⟩ = false ∧ W0.frozen? ⟨w.heap.size, 1, none⟩ = false :=
    ⟨by rw [cell_of_row _ _ 0 _ _ _ hx0]; rfl, by rw [cell_of_row _ _ 1 _ _ _ hx0]; rfl, frozen_of_row _ _ 0 _ _ hx0, frozen_of_row _ _ 1 _ _ hx0⟩
  have hne1 : ¬ p = w.heap.size := Nat.ne_of_lt hpl
  have hne2 : ¬ w.heap.size = p := Ne.symm hne1
  clear hb0 hx0 hp0 hpl hsz hm hp hc0 hc1
  go_enter Tryz.func130, Tryz.ntmps130
  go_wp2_with fail
  rw [← hW0]
  have HW0 := Lib.hid hW0
  clear hW0
  go_region_held3 (fun w' => w'.cell? ⟨p, o, none⟩ = some (.map mb) ∧ w'.cell? ⟨p, o + 1, none⟩ = some (.int .i64 z)) (go_keep) (first
    | (go_at_call 180; refine (mclone_any mb W0.drew HMM.out).mono ?_; rintro e w1 hcl
       obtain ⟨mb', he, hb1, hcase⟩ : ∃ mb', e = .returned (.map mb') ∧ Below W0.heap.size W0 w1 ∧ ((mb = none ∧ mb' = none) ∨ ∃ b es clock, mb = some b ∧ mb' = some W0.heap.size ∧ W0.heap[b]? = some (.map es clock) ∧ w1.heap[W0.heap.size]? = some (.map es clock)) := by
         rcases hcl with ⟨h1, h2, h3⟩ | ⟨b, es, clock, h1, h2, h3, h4⟩
         · exact ⟨none, h2, by rw [h3]; exact ⟨rfl, rfl, rfl, Nat.le_refl _, fun _ _ => rfl⟩, .inl ⟨h1, rfl⟩⟩
         · exact ⟨_, h3, by rw [h4]; exact (⟨rfl, rfl, rfl, Nat.le_refl _, fun _ _ => rfl⟩ : Below W0.heap.size W0 W0.drew).alloc (Nat.le_refl _) _, .inr ⟨b, es, clock, h1, rfl, h2, by rw [h4]; exact (MapKept.heap_alloc W0.drew _).1⟩⟩
       subst he
       have HB1 := Lib.hid hb1
       have HCASE := Lib.hid hcase
       have hx1 := (hb1.block w.heap.size (by rw [HSZ.out]; exact Nat.lt_succ_self _)).trans HX0.out
       have hp1 := (hb1.block p (Nat.lt_of_lt_of_le HPL.out HB0.out.size)).trans HP0.out
       have a0 : w1.cell? ⟨p, o, none⟩ = some (.map mb) := by rw [cell_of_row w1 p o _ _ _ hp1]; exact HC0.out
       have a1 : w1.cell? ⟨p, o + 1, none⟩ = some (.int .i64 z) := by rw [cell_of_row w1 p (o + 1) _ _ _ hp1]; exact HC1.out
       have b0 : w1.cell? ⟨w.heap.size, 0, none⟩ = some (.map none) := by rw [cell_of_row _ _ 0 _ _ _ hx1]; rfl
       have b1 : w1.cell? ⟨w.heap.size, 1, none⟩ = some (.int .i64 0) := by rw [cell_of_row _ _ 1 _ _ _ hx1]; rfl
       have g0 := frozen_of_row _ _ 0 _ _ hx1
       have g1 := frozen_of_row _ _ 1 _ _ hx1
       have HX1 := Lib.hid hx1
       clear hb1 hcase hcl hx1 hp1))
  go_wp2
  have hz := set2w HX1.out (.map mb') (.int .i64 z)
  have q0 := cell_of_row _ _ 0 _ _ _ hz
  have q1 := cell_of_row _ _ 1 _ _ _ hz
  have HFS := Lib.hid (fr_set2w w1 w.heap.size (.map mb') (.int .i64 z))
  refine bodyPost_ret (v := .agg #[.map mb', .int .i64 z]) (by simp [results, Tryz.results130, go_sem, q0, q1]) rfl ?_
  refine ⟨mb', rfl, HFS.out.fresh (HB0.out.trans (HB1.out.mono HB0.out.size)) fun j hj => by rw [hj]; exact Nat.le_refl _, ?_⟩
  rcases HCASE.out with ⟨h1, h2⟩ | ⟨b, es, clock, h1, h2, h3, h4⟩
  · exact .inl ⟨h1, h2⟩
  · obtain ⟨es', c', h5⟩ := HM0.out b h1
    have h6 := (HB0.out.block b (Array.getElem?_eq_some_iff.1 h5).1).symm.trans h3
    refine .inr ⟨b, W0.heap.size, es, clock, h1, h2, HB0.out.size, h6, ?_⟩
    refine (HFS.out.block _ (Array.getElem?_eq_some_iff.1 h4).1 fun e => ?_).trans h4
    have := HSZ.out
    omega

end Go.Proofs.YtlckadlkgjfjcaaGreatDoor

namespace Go.Proofs.YtlckadlkgjfjcaaGreatDoor
open Go.RowKit

/-- What lies in a disk's block, whatever is shown. -/
def blkD (room : Int) (m1 : Option Nat) (z1 : Int) (x3 x4 x5 x6 x7 : Value) : Array Value := #[.int .i64 room, .map m1, .int .i64 z1, x3, x4, x5, x6, x7]
def LosePost (S : Nat → Prop) (p : Nat) (room : Int) (m1 : Option Nat) (l : Fm (List Nat)) (x6 x7 : Value) (w : World) (e : Ending) (w' : World) : Prop :=
  e = .returned (.tuple #[]) ∧ ∃ mb', w'.heap[p]? = some (.cells (blkD room m1 (tot l : Int) (.map mb') (.int .i64 (tot l : Int)) (.slice none 0 0) x6 x7) 133 (0, 0)) ∧
    TM w' (Ext S w w') m1 l ∧ TM w' (Ext S w w') mb' l ∧ (∀ b, m1 = some b → mb' ≠ some b) ∧ Fr (fun j => j = p) w w'

set_option maxHeartbeats 1000000 in
set_option maxRecDepth 100000 in
theorem lose_any {w : World} {S : Nat → Prop} {p : Nat} {room : Int} {m1 : Option Nat} {l : Fm (List Nat)} {x3 x4 x5 x6 x7 : Value} (hp : w.heap[p]? = some (.cells (blkD room m1 (tot l : Int) x3 x4 x5 x6 x7) 133 (0, 0)))
    (ht : TM w S m1 l) : Calls Tryz.prog 92 #[.pointer (some ⟨p, 0, none⟩)] w (LosePost S p room m1 l x6 x7 w) := by
  have c5 : w.cell? ⟨p, 5, none⟩ = some x5 := by rw [cell_of_row _ _ 5 _ _ _ hp]; rfl
  have f5 := frozen_of_row w p 5 _ _ hp
  obtain ⟨W1, hW1⟩ : ∃ W1, W1 = w.setCell ⟨p, 5, none⟩ (.slice none 0 0) := ⟨_, rfl⟩
  have hp1 : W1.heap[p]? = some (.cells (blkD room m1 (tot l : Int) x3 x4 (.slice none 0 0) x6 x7) 133 (0, 0)) := by rw [hW1]; exact heap_setCell_same w p 5 _ _ _ hp
  have hfr1 : Fr (fun j => j = p) w W1 := by rw [hW1]; exact fr_set w p 5 _
  have hpm : ∀ b, m1 = some b → b ≠ p := fun b e hb => by
    subst e hb
    obtain ⟨e, c, ho⟩ := ht.obj
    have := ho.symm.trans hp
    cases this
  have hk1 : Kept (Typ w S 5) w W1 := hfr1.kept _ fun j hj hT e => by
    subst e
    exact typ_not_other hp (by decide) hT
  have ht1 : TM W1 S m1 l := ht.keep hk1 (fun b e => hfr1.block b (by subst e; exact ht.lt) (hpm b e)) fun _ h => h
  have HAP := Lib.hid (apart_any (w := W1) (p := p) (o := 1) (mb := m1) (z := (tot l : Int)) hp1 rfl rfl (fun b e => by subst e; exact ht1.obj))
  have HP1 := Lib.hid hp1
  have HT1 := Lib.hid ht1
  have HFR1 := Lib.hid hfr1
  have HPM := Lib.hid hpm
  have HW1 := Lib.hid hW1
  clear hp hW1 hp1 hfr1 hpm hk1 ht1 ht
  go_enter Tryz.func92, Tryz.ntmps92
  go_wp2_with fail
  rw [← HW1.out]
  refine HAP.out.mono ?_
  rintro e w2 ⟨mb', rfl, hb2, hcase⟩
  have hpl := (Array.getElem?_eq_some_iff.1 HP1.out).1
  have hp2 := (hb2.block p hpl).trans HP1.out
  have c3 : w2.cell? ⟨p, 3, none⟩ = some x3 := by rw [cell_of_row _ _ 3 _ _ _ hp2]; rfl
  have c4 : w2.cell? ⟨p, 4, none⟩ = some x4 := by rw [cell_of_row _ _ 4 _ _ _ hp2]; rfl
  have f3 := frozen_of_row w2 p 3 _ _ hp2
  have f4 := frozen_of_row w2 p 4 _ _ hp2
  have HB2 := Lib.hid hb2
  have HCASE := Lib.hid hcase
  have HP2 := Lib.hid hp2
  clear hb2 hcase hp2 hpl c5 f5
  go_wp2
  first | go_end0 | (simp only [Exit.inBlock, Exit.then]; refine bodyPost_ret (results_none rfl _ _ _) rfl ?_) | refine bodyPost_ret (results_none rfl _ _ _) rfl ?_
  obtain ⟨W3, hW3⟩ : ∃ W3, W3 = (w2.setCell ⟨p, 3, none⟩ (.map mb')).setCell ⟨p, 4, none⟩ (.int .i64 (tot l : Int)) := ⟨_, rfl⟩
  rw [← hW3]
  have hp3 : W3.heap[p]? = some (.cells (blkD room m1 (tot l : Int) (.map mb') (.int .i64 (tot l : Int)) (.slice none 0 0) x6 x7) 133 (0, 0)) := by
    rw [hW3]; exact heap_setCell_same _ p 4 _ _ _ (heap_setCell_same w2 p 3 _ _ _ HP2.out)
  have hfr2 : Fr (fun j => j = p) w2 W3 := by rw [hW3]; exact Fr.trans (fr_set w2 p 3 _) (fr_set _ p 4 _) (fun _ _ h => h) (fun _ _ h => h)
  have hfr : Fr (fun j => j = p) w W3 := HFR1.out.trans ((fr_below HB2.out (fun j => j = p)).trans hfr2 (U := fun j => j = p) (fun _ _ h => h) (fun _ _ h => h)) (fun _ _ h => h) (fun _ _ h => h)
  have hfr12 : Fr (fun j => j = p) W1 W3 := (fr_below HB2.out (fun j => j = p)).trans hfr2 (fun _ _ h => h) (fun _ _ h => h)
  have hk : Kept (Typ W1 S 5) W1 W3 := hfr12.kept _ fun j hj hT e => by
    subst e
    exact typ_not_other HP1.out (by decide) hT
  refine ⟨rfl, mb', hp3, HT1.out.keep hk (fun b e => hfr12.block b (by subst e; exact HT1.out.lt) (HPM.out b e)) fun j h => .inl h, ?_, ?_, hfr⟩
  · obtain ⟨es, hm, hz, hS⟩ := HT1.out
    refine ⟨es, ?_, hz.mono fun a b h => h.typ hk fun j h => .inl h, fun b e => ?_⟩
    · rcases HCASE.out with ⟨h1, h2⟩ | ⟨b, b', es', clock, h1, h2, h3, h4, h5⟩
      · subst h1 h2; exact hm
      · subst h1 h2
        obtain ⟨e1, c1, hb, F, hsz, hD⟩ := hm
        have h6 := hb.symm.trans h4
        cases h6
        exact ⟨_, _, (hfr2.block b' (Array.getElem?_eq_some_iff.1 h5).1 fun e => by
          have := (Array.getElem?_eq_some_iff.1 HP1.out).1
          omega).trans h5, F, hsz, hD⟩
    · rcases HCASE.out with ⟨h1, h2⟩ | ⟨b1, b', es', clock, h1, h2, h3, h4, h5⟩
      · subst h2; cases e
      · subst h2
        cases e
        exact .inr ⟨Nat.le_trans HFR1.out.size h3, Nat.lt_of_lt_of_le (Array.getElem?_eq_some_iff.1 h5).1 hfr2.size⟩
  · intro b e hb
    rcases HCASE.out with ⟨h1, h2⟩ | ⟨b1, b', es', clock, h1, h2, h3, h4, h5⟩
    · rw [e] at h1; cases h1
    · rw [h2] at hb
      cases hb
      subst e
      have := HT1.out.lt
      omega

end Go.Proofs.YtlckadlkgjfjcaaGreatDoor

namespace Go.Proofs.YtlckadlkgjfjcaaGreatDoor
open Go.RowKit

/-- Behind a call: the disk, its blocks, and what was written. -/
def DPost (S : Nat → Prop) (p : Nat) (w w' : World) (d' : DS) : Prop :=
  ∃ S', Dk w' S' p d' ∧ Fr S w w' ∧ (∀ j, S j → S' j) ∧ ∀ j, S' j → S j ∨ w.heap.size ≤ j
theorem DPost.same {S : Nat → Prop} {p : Nat} {w w' : World} {d : DS} (h : Dk w' S p d) (hf : Fr S w w') : DPost S p w w' d := ⟨S, h, hf, fun _ h => h, fun _ h => .inl h⟩
theorem DPost.trans {S S1 : Nat → Prop} {p : Nat} {w w1 w2 : World} {d2 : DS} (hf : Fr S w w1) (hs : ∀ j, S j → S1 j) (ht : ∀ j, S1 j → S j ∨ w.heap.size ≤ j) (k : DPost S1 p w1 w2 d2) : DPost S p w w2 d2 := by
  obtain ⟨S2, hd, hf2, hs2, ht2⟩ := k
  refine ⟨S2, hd, hf.trans hf2 (fun _ _ h => h) (fun j hj h => ?_), fun j h => hs2 j (hs j h), fun j h => ?_⟩
  · rcases ht j h with h | h
    · exact h
    · omega
  · rcases ht2 j h with h | h
    · exact ht j h
    · exact .inr (Nat.le_trans hf.size h)

theorem RecOwn.at {w : World} {base : Nat} {e : TypeId} {k : Nat} {v : Value} {rows : List (List Value)} (h : RecOwn w base e k v rows) {i : Nat} {r : List Value} (hi : rows[i]? = some r) :
    ∃ g cap, v = .slice (some ⟨g, 0, none⟩) rows.length cap ∧ ∀ j u, r[j]? = some u → w.cell? ⟨g, i * k + j, none⟩ = some u := by
  rcases h.2.2 with ⟨rfl, hn⟩ | ⟨g, cap, cur, rfl, hb, hg, hnc, hm, hs, ht⟩
  · obtain rfl : rows = [] := List.length_eq_zero_iff.1 hn
    cases hi
  · refine ⟨g, cap, rfl, fun j u hu => ?_⟩
    have := h.2.cells (g := g) rfl (i * k + j) u (flat_get h.1 hi hu)
    rw [Addr.add_lit] at this
    simpa using this
/-- A change, at its place. -/
theorem CR.at {w : World} {S : Nat → Prop} {cv : Value} {chs : List Ch} (h : CR w S cv chs) {i : Nat} {c : Ch} (hi : chs[i]? = some c) :
    ∃ g cap v, cv = .slice (some ⟨g, 0, none⟩) chs.length cap ∧ w.cell? ⟨g, i * 4, none⟩ = some (.int .i64 (c.kind : Int)) ∧ w.cell? ⟨g, i * 4 + 1, none⟩ = some (nmV c.name) ∧ w.cell? ⟨g, i * 4 + 2, none⟩ = some (nmV c.to) ∧ w.cell? ⟨g, i * 4 + 3, none⟩ = some v ∧
      At w (Typ w S 5) .u8 v c.text := by
  obtain ⟨ps, rfl, h2, h3, h4⟩ := h
  rw [List.getElem?_map] at hi
  obtain ⟨x, hx, rfl⟩ := Option.map_eq_some_iff.1 hi
  obtain ⟨g, cap, hv, hc⟩ := h2.at (i := i) (r := chRow x) (by rw [List.getElem?_map, hx]; rfl)
  rw [List.length_map] at hv
  exact ⟨g, cap, x.2, by rw [List.length_map]; exact hv, hc 0 _ rfl, hc 1 _ rfl, hc 2 _ rfl, hc 3 _ rfl, h4 x (List.mem_of_getElem? hx)⟩

theorem FilesDone.more {S : Nat → Prop} {p o : Nat} {mb mb' : Option Nat} {cs : Array Value} {l' : Fm (List Nat)} {w w1 w2 : World} (h : FilesDone S p o mb cs l' w w1 mb') (hb : Below w1.heap.size w1 w2) : FilesDone S p o mb cs l' w w2 mb' := by
  refine ⟨(hb.block p (Array.getElem?_eq_some_iff.1 h.blk).1).trans h.blk, h.tm.keep (kept_new hb _) (fun b e => hb.block b (by subst e; exact h.tm.lt)) fun j hj => ?_, h.fr.trans (fr_below hb _) (fun _ _ h => h) (fun _ _ h => h), h.mb⟩
  rcases hj with h1 | ⟨h1, h2⟩
  · exact .inl h1
  · exact .inr ⟨h1, Nat.lt_of_lt_of_le h2 hb.size⟩

theorem picked_snoc : ∀ (cs : List Ch) (c : Ch) (l : Fm (List Nat)) (keep : List Bool), picked l (cs ++ [c]) keep = if keep[cs.length]? = some true then capply (picked l cs keep) c else picked l cs keep
  | [], c, l, [] => rfl
  | [], c, l, k :: ks => by
    cases k <;> cases ks <;> simp [picked]
  | x :: cs, c, l, [] => by simp [picked]
  | x :: cs, c, l, k :: ks => by
    have := picked_snoc cs c (if k = true then capply l x else l) ks
    simpa [picked] using this
theorem picked_length : ∀ (cs : List Ch) (l : Fm (List Nat)) (keep : List Bool), (picked l cs keep).length ≤ l.length + cs.length
  | [], l, keep => by cases keep <;> simp [picked]
  | x :: cs, l, [] => by simp [picked]
  | x :: cs, l, k :: ks => by
    have h1 := picked_length cs (if k = true then capply l x else l) ks
    have h2 := capply_length l x
    simp only [picked, List.length_cons]
    split at h1 <;> simp_all <;> omega
theorem Small.picked {m : Nat} : ∀ {cs : List Ch} (_ : ∀ c ∈ cs, c.text.length ≤ m ∧ ∀ y ∈ c.text, y < 256) {l : Fm (List Nat)} (_ : Small m l) (keep : List Bool), Small m (picked l cs keep)
  | [], _, l, h, keep => by cases keep <;> exact h
  | x :: cs, hc, l, h, [] => h
  | x :: cs, hc, l, h, k :: ks => by
    refine Small.picked (cs := cs) (fun c hc' => hc c (by simp [hc'])) ?_ ks
    cases k
    · exact h
    · exact h.apply (hc x (by simp))
theorem dtake_snoc {α : Type} {l : List α} {k : Nat} {x : α} (h : l[k]? = some x) : l.take (k + 1) = l.take k ++ [x] := by
  rw [List.take_add_one, h]; rfl

set_option maxHeartbeats 1000000 in
set_option maxRecDepth 100000 in
theorem startD_any {w : World} {S : Nat → Prop} {p : Nat} {d : DS} (h : Dk w S p d) :
    Calls Tryz.prog 51 #[.pointer (some ⟨p, 0, none⟩)] w fun e w' => e = .returned (.tuple #[]) ∧ DPost S p w w' (dstart d) := by
  obtain ⟨m1, m2, cv, h⟩ := h
  have c7 := h.c7
  have c6 := h.c6
  have f6 := h.fz 6
  have f7 := h.fz 7
  have H := Lib.hid h
  clear h
  go_enter Tryz.func51, Tryz.ntmps51
  cases hd : d.down
  · rw [hd] at c7
    have HD := Lib.hid hd
    clear hd
    go_wp2
    first | go_end0 | (simp only [Exit.inBlock, Exit.then]; refine bodyPost_ret (results_none rfl _ _ _) rfl ?_) | refine bodyPost_ret (results_none rfl _ _ _) rfl ?_
    refine ⟨rfl, ?_⟩
    have h1 := heap_setCell_same w p 7 _ _ (.bool false) H.out.blk
    have h2 := heap_setCell_same (w.setCell ⟨p, 7, none⟩ (.bool false)) p 6 _ _ (.int .i64 (-1)) h1
    have hfr : Fr (fun j => j = p) w ((w.setCell ⟨p, 7, none⟩ (.bool false)).setCell ⟨p, 6, none⟩ (.int .i64 (-1))) := Fr.trans (fr_set w p 7 _) (fr_set _ p 6 _) (fun _ _ h => h) (fun _ _ h => h)
    have e : dstart d = { d with fuse := -1, down := false } := by unfold dstart; rw [HD.out]; rfl
    rw [e]
    exact DPost.same ⟨m1, m2, cv, H.out.set hfr h2 ⟨by decide, by decide⟩⟩ (hfr.mono fun j _ hj => by rw [hj]; exact H.out.inS)
  · rw [hd] at c7
    have HD := Lib.hid hd
    clear hd
    go_wp2_with fail
    refine (lose_any (room := d.room) (x6 := .int .i64 d.fuse) (x7 := .bool d.down) H.out.blk H.out.sure).mono ?_
    rintro e w1 ⟨rfl, mb', hp1, ht1, hs1, hap, hfr⟩
    have c7 : w1.cell? ⟨p, 7, none⟩ = some (.bool d.down) := by rw [cell_of_row _ _ 7 _ _ _ hp1]; rfl
    have c6 : w1.cell? ⟨p, 6, none⟩ = some (.int .i64 d.fuse) := by rw [cell_of_row _ _ 6 _ _ _ hp1]; rfl
    have f6 := frozen_of_row w1 p 6 _ _ hp1
    have f7 := frozen_of_row w1 p 7 _ _ hp1
    have HP1 := Lib.hid hp1
    have HT1 := Lib.hid ht1
    have HS1 := Lib.hid hs1
    have HAP := Lib.hid hap
    have HFR := Lib.hid hfr
    clear hp1 ht1 hs1 hap hfr
    go_wp2
    first | go_end0 | (simp only [Exit.inBlock, Exit.then]; refine bodyPost_ret (results_none rfl _ _ _) rfl ?_) | refine bodyPost_ret (results_none rfl _ _ _) rfl ?_
    refine ⟨rfl, ?_⟩
    have hK : DkV w1 (Ext S w w1) p m1 mb' (.slice none 0 0) { d with chs := [] } := ⟨HP1.out, .inl H.out.inS, fun j hj => by
        rcases hj with h1 | ⟨h1, h2⟩
        · exact Nat.lt_of_lt_of_le (H.out.lt j h1) HFR.out.size
        · exact h2, HT1.out, HS1.out, HAP.out, cr_nil _ _, H.out.room, H.out.fuse, fun c hc => (by cases hc), H.out.small⟩
    have h1 := heap_setCell_same w1 p 7 _ _ (.bool false) hK.blk
    have h2 := heap_setCell_same (w1.setCell ⟨p, 7, none⟩ (.bool false)) p 6 _ _ (.int .i64 (-1)) h1
    have hfr : Fr (fun j => j = p) w1 ((w1.setCell ⟨p, 7, none⟩ (.bool false)).setCell ⟨p, 6, none⟩ (.int .i64 (-1))) := Fr.trans (fr_set w1 p 7 _) (fr_set _ p 6 _) (fun _ _ h => h) (fun _ _ h => h)
    have e : dstart d = { ({ d with chs := [] } : DS) with fuse := -1, down := false } := by unfold dstart; rw [HD.out]; rfl
    rw [e]
    exact DPost.trans (HFR.out.mono fun j _ hj => by rw [hj]; exact H.out.inS) (fun j h => .inl h) (fun j h => h.imp id fun h => h.1)
      (DPost.same ⟨m1, mb', _, hK.set hfr h2 ⟨by decide, by decide⟩⟩ (hfr.mono fun j _ hj => by rw [hj]; exact .inl H.out.inS))

end Go.Proofs.YtlckadlkgjfjcaaGreatDoor

namespace Go.Proofs.YtlckadlkgjfjcaaGreatDoor
open Go.RowKit

/-- The block, as its cells. -/
def dcells (d : DS) (m1 m2 : Option Nat) (cv : Value) : Array Value := #[.int .i64 (d.room : Int), .map m1, .int .i64 (tot d.sure : Int), .map m2, .int .i64 (tot d.shown : Int), cv, .int .i64 d.fuse, .bool d.down]
/-- What a loop over the changes keeps: the sure files so far are l; the shown ones and the changes are as they were. -/
structure Upto (S : Nat → Prop) (p : Nat) (m1 m2 : Option Nat) (cv : Value) (d : DS) (l : Fm (List Nat)) (w w' : World) (m : Option Nat) : Prop where
  fd : FilesDone S p 1 m1 (dcells d m1 m2 cv) l w w' m
  shown : TM w' (Ext S w w') m2 d.shown
  chs : CR w' (Ext S w w') cv d.chs
theorem Upto.start {S : Nat → Prop} {p : Nat} {m1 m2 : Option Nat} {cv : Value} {d : DS} {w : World} (h : DkV w S p m1 m2 cv d) : Upto S p m1 m2 cv d d.sure w w m1 :=
  ⟨filesDone_refl h.blk rfl rfl h.sure (Below.refl _ _), h.shown.mono fun _ h => .inl h, h.chs.keep (Kept.refl _ _) (fun _ _ => rfl) fun _ h => .inl h⟩
theorem Ext.grow {S : Nat → Prop} {w w1 w2 : World} (h : w1.heap.size ≤ w2.heap.size) {j : Nat} (hj : Ext S w w1 j) : Ext S w w2 j := hj.imp id fun h1 => ⟨h1.1, Nat.lt_of_lt_of_le h1.2 h⟩
theorem Upto.more {S : Nat → Prop} {p : Nat} {m1 m2 m : Option Nat} {cv : Value} {d : DS} {l : Fm (List Nat)} {w w1 w2 : World} (h : Upto S p m1 m2 cv d l w w1 m) (hb : Below w1.heap.size w1 w2) : Upto S p m1 m2 cv d l w w2 m :=
  ⟨h.fd.more hb, h.shown.keep (kept_new hb _) (fun b e => hb.block b (by subst e; exact h.shown.lt)) fun _ hj => hj.grow hb.size,
    h.chs.keep (kept_new hb _) (fun j hj => hb.block j (h.chs.block hj).2.1) fun _ hj => hj.grow hb.size⟩
/-- One change more is done. -/
theorem Upto.step {S : Nat → Prop} {p : Nat} {m1 m2 m m' : Option Nat} {cv : Value} {d : DS} {l l' : Fm (List Nat)} {w w1 w2 : World} (hd : DkV w S p m1 m2 cv d) (h : Upto S p m1 m2 cv d l w w1 m)
    (k : FilesDone (Ext S w w1) p 1 m (((dcells d m1 m2 cv).setIfInBounds 1 (.map m)).setIfInBounds (1 + 1) (.int .i64 (tot l : Int))) l' w1 w2 m') : Upto S p m1 m2 cv d l' w w2 m' := by
  have hpl := (Array.getElem?_eq_some_iff.1 h.fd.blk).1
  have hnm : ∀ b, m = some b → m1 = some b ∨ w.heap.size ≤ b := fun b e => by
    rcases h.fd.mb with h1 | ⟨b', h1, h2⟩
    · exact .inl (h1 ▸ e)
    · rw [h1] at e; cases e; exact .inr h2
  have hk : Kept (Typ w1 (Ext S w w1) 5) w1 w2 := k.fr.kept _ fun j hj hT => by
    rintro (rfl | e)
    · exact typ_not_other h.fd.blk (by decide) hT
    · have := h.fd.tm
      rw [e] at this
      exact typ_not_map this.obj hT
  refine ⟨h.fd.trans k, h.shown.keep hk (fun b e => k.fr.block b (by subst e; exact h.shown.lt) ?_) fun j hj => hj.grow k.fr.size, h.chs.keep hk (fun j hj => k.fr.block j (h.chs.block hj).2.1 ?_) fun j hj => hj.grow k.fr.size⟩
  · rintro (h1 | h1)
    · exact hd.pm2 b e h1
    · rcases hnm b h1 with h2 | h2
      · exact hd.apart b h2 e
      · have := hd.shown
        rw [e] at this
        have := this.lt
        omega
  · rintro (h1 | h1)
    · exact hd.pcv j hj h1
    · rcases hnm j h1 with h2 | h2
      · exact hd.m1cv j h2 hj
      · have := (hd.chs.block hj).2.1
        omega
/-- A change is done on the sure files. -/
theorem Upto.does {S : Nat → Prop} {p : Nat} {m1 m2 m : Option Nat} {cv : Value} {d : DS} {l : Fm (List Nat)} {w w1 : World} (hd : DkV w S p m1 m2 cv d) (h : Upto S p m1 m2 cv d l w w1 m) {c : Ch} (hc : ChOk c) {v : Value} (hv : At w1 (Typ w1 (Ext S w w1) 5) .u8 v c.text)
    (hl : l.length < 1099511627776) (hs : Small 65536 l) :
    Calls Tryz.prog 91 #[.pointer (some ⟨p, 1, none⟩), chV c v] w1 fun e w2 => e = .returned (.tuple #[]) ∧ ∃ m', Upto S p m1 m2 cv d (capply l c) w w2 m' := by
  refine (do_any h.fd.blk (cg0 rfl) (cg1 rfl) h.fd.tm hc hv (small_tot hs (Nat.le_refl _) hl) (by omega)).mono ?_
  rintro e w2 ⟨rfl, m', hk⟩
  exact ⟨rfl, m', h.step hd hk⟩

theorem Ext.lt {S : Nat → Prop} {w w1 : World} (hs : ∀ j, S j → j < w.heap.size) (h : w.heap.size ≤ w1.heap.size) {j : Nat} (hj : Ext S w w1 j) : j < w1.heap.size := by
  rcases hj with h1 | h1
  · exact Nat.lt_of_lt_of_le (hs j h1) h
  · exact h1.2
/-- All changes are done: they are sure. -/
theorem Upto.synced {S : Nat → Prop} {p : Nat} {m1 m2 m : Option Nat} {cv : Value} {d : DS} {w w1 : World} (hd : DkV w S p m1 m2 cv d) (h : Upto S p m1 m2 cv d d.shown w w1 m) :
    DkV (w1.setCell ⟨p, 5, none⟩ (.slice none 0 0)) (Ext S w w1) p m m2 (.slice none 0 0) { d with sure := d.shown, chs := [] } := by
  have hfr := fr_set w1 p 5 (.slice none 0 0)
  have hk : Kept (Typ w1 (Ext S w w1) 5) w1 (w1.setCell ⟨p, 5, none⟩ (.slice none 0 0)) := hfr.kept _ fun j hj hT e => by
    subst e
    exact typ_not_other h.fd.blk (by decide) hT
  have hmp : ∀ b, m = some b → b ≠ p := fun b e hb => by
    subst e hb
    obtain ⟨e, c, ho⟩ := h.fd.tm.obj
    have := ho.symm.trans h.fd.blk
    cases this
  have hmm : ∀ b, m = some b → m2 ≠ some b := fun b e e2 => by
    rcases h.fd.mb with h1 | ⟨b', h1, h2⟩
    · exact hd.apart b (h1 ▸ e) e2
    · rw [h1] at e
      cases e
      have := hd.shown
      rw [e2] at this
      have := this.lt
      omega
  exact ⟨heap_setCell_same w1 p 5 _ _ _ h.fd.blk, .inl hd.inS, fun j hj => Nat.lt_of_lt_of_le (hj.lt hd.lt h.fd.fr.size) hfr.size,
    h.fd.tm.keep hk (fun b e => hfr.block b (by subst e; exact h.fd.tm.lt) (hmp b e)) fun _ h => h,
    h.shown.keep hk (fun b e => hfr.block b (by subst e; exact h.shown.lt) (hd.pm2 b e)) fun _ h => h,
    hmm, cr_nil _ _, hd.room, hd.fuse, fun c hc => (by cases hc), hd.smallShown⟩
theorem Upto.frame {S : Nat → Prop} {p : Nat} {m1 m2 m : Option Nat} {cv : Value} {d : DS} {l : Fm (List Nat)} {w w1 : World} (hd : DkV w S p m1 m2 cv d) (h : Upto S p m1 m2 cv d l w w1 m) : Fr S w w1 :=
  h.fd.fr.mono fun j _ hj => by
    rcases hj with rfl | hj
    · exact hd.inS
    · obtain ⟨_, _, _, hs⟩ := hd.sure
      exact hs j hj
theorem inc_eq {k n : Nat} (hk : k < n) (hn : n ≤ 9223372036854775807) : Value.int .i64 (wrap64 ((k : Int) + 1)) = .int .i64 ((k + 1 : Nat) : Int) := by
  rw [w64_id (by omega) (by omega)]
  rfl
theorem inc_meas {k n : Nat} (hk : k < n) (hn : n ≤ 9223372036854775807) : n - (intOf (.int .i64 (wrap64 ((k : Int) + 1)))).toNat < n - (intOf (.int .i64 (k : Int))).toNat := by
  rw [w64_id (by omega) (by omega)]
  show n - (((k + 1 : Nat) : Int)).toNat < n - ((k : Int)).toNat
  omega
set_option maxHeartbeats 2000000 in
set_option maxRecDepth 100000 in
theorem syncD_any {w : World} {S : Nat → Prop} {p : Nat} {d : DS} (h : Dk w S p d) (hsz : d.sz < 1099511627776) :
    Calls Tryz.prog 182 #[.pointer (some ⟨p, 0, none⟩)] w fun e w' => e = .returned (errV (dsync d).2) ∧ DPost S p w w' (dsync d).1 := by
  obtain ⟨m1, m2, cv, h⟩ := h
  have HSZ := Lib.hid hsz
  have H := Lib.hid h
  clear h hsz
  go_enter Tryz.func182, Tryz.ntmps182
  go_wp2_with fail
  refine (operate_any H.out).mono ?_
  rintro e w1 ⟨rfl, hd1, hfr1⟩
  by_cases hbad : (dwork d).2 = 0
  · have HE : Hid (dsync d = ({ (dwork d).1 with sure := d.shown, chs := [] }, 0)) := Lib.hid (by unfold dsync; rw [if_neg (by simp [hbad])])
    rw [hbad, errV_zero]
    have HFR1 : Hid (Fr S w w1) := Lib.hid (hfr1.mono fun j _ hj => by rw [hj]; exact H.out.inS)
    have hsure : (dwork d).1.sure = d.sure := by unfold dwork; split <;> rfl
    have hchs : (dwork d).1.chs = d.chs := by unfold dwork; split <;> rfl
    obtain ⟨d1, hd1e⟩ : ∃ d1, d1 = (dwork d).1 := ⟨_, rfl⟩
    rw [← hd1e] at hd1 hsure hchs
    have HEQ := Lib.hid hd1e
    have HSH : Hid (d1.shown = d.shown) := Lib.hid (by unfold DS.shown; rw [hsure, hchs])
    have HL : Hid (d1.sure.length + d1.chs.length < 1099511627776) := Lib.hid (by rw [hsure, hchs]; exact HSZ.out)
    have c5 := hd1.c5
    obtain ⟨aoc, capc, rfl, _, _, _⟩ := hd1.chs.val
    have HD1 := Lib.hid hd1
    clear hbad hfr1 hsure hchs hd1e hd1
    go_wp2
    go_loopw [16] (fun i wr => ∃ (k : Nat) (m : Option Nat), k ≤ d1.chs.length ∧ i = .int .i64 (k : Int) ∧ Upto S p m1 m2 (.slice aoc d1.chs.length capc) d1 (shownOf d1.sure (d1.chs.take k)) w1 wr m)
      (fun i _ => d1.chs.length - (intOf i).toNat)
    case atStart => exact ⟨0, m1, Nat.zero_le _, rfl, Upto.start HD1.out⟩
    case round =>
      obtain ⟨k, m, hk, rfl, hup⟩ := hrel
      have HUP := Lib.hid hup
      by_cases hlt : k < d1.chs.length
      · obtain ⟨c, hc⟩ : ∃ c, d1.chs[k]? = some c := ⟨_, List.getElem?_eq_getElem hlt⟩
        obtain ⟨g, cap, v, hcv, e0, e1, e2, e3, hat⟩ := hup.chs.at hc
        have HC := Lib.hid hc
        have HK := Lib.hid hlt
        cases hcv
        obtain ⟨aot, capt, rfl, _, _, _⟩ := hat.reads.val
        have hlti : (k : Int) < d1.chs.length := by omega
        have HAT := Lib.hid hat
        obtain ⟨kind, name, to, text⟩ := c
        simp only [] at e0 e1 e2 e3
        obtain ⟨s1, hs1⟩ : ∃ s1 : ByteArray, nmV name = .string s1 := ⟨_, rfl⟩
        obtain ⟨s2, hs2⟩ : ∃ s2 : ByteArray, nmV to = .string s2 := ⟨_, rfl⟩
        rw [hs1] at e1
        rw [hs2] at e2
        have HS1 := Lib.hid hs1
        have HS2 := Lib.hid hs2
        clear hup hat hc hs1 hs2
        go_wp2_with fail
        obtain ⟨W1, hW1⟩ : ∃ W1, W1 = wr.alloc (.cells #[.int .i64 (kind : Int), .string s1, .string s2, .slice aot text.length capt] 135) := ⟨_, rfl⟩
        rw [← hW1]
        have hb1 : Below wr.heap.size wr W1 := by rw [hW1]; exact (Below.refl _ _).alloc (Nat.le_refl _) _
        have hx1 : W1.heap[wr.heap.size]? = some (.cells #[.int .i64 (kind : Int), .string s1, .string s2, .slice aot text.length capt] 135 (0, 0)) := by rw [hW1]; exact heap_alloc_new _ _
        have b0 : W1.cell? ⟨wr.heap.size, 0, none⟩ = some (.int .i64 (kind : Int)) := by rw [cell_of_row _ _ 0 _ _ _ hx1]; rfl
        have b1 : W1.cell? ⟨wr.heap.size, 1, none⟩ = some (.string s1) := by rw [cell_of_row _ _ 1 _ _ _ hx1]; rfl
        have b2 : W1.cell? ⟨wr.heap.size, 2, none⟩ = some (.string s2) := by rw [cell_of_row _ _ 2 _ _ _ hx1]; rfl
        have b3 : W1.cell? ⟨wr.heap.size, 3, none⟩ = some (.slice aot text.length capt) := by rw [cell_of_row _ _ 3 _ _ _ hx1]; rfl
        have hbd : Below wr.heap.size wr W1.drew := ⟨hb1.os, hb1.tape, hb1.output, hb1.size, hb1.block⟩
        have hcall := Upto.does HD1.out (HUP.out.more hbd) (c := ⟨kind, name, to, text⟩) (HD1.out.ok _ (List.mem_of_getElem? HC.out)) (v := .slice aot text.length capt) (HAT.out.typ (kept_new hbd _) fun j hj => hj.grow hbd.size)
          (Nat.lt_of_le_of_lt (Nat.le_trans (shownOf_length _ _) (Nat.add_le_add_left (by rw [List.length_take]; exact Nat.min_le_right _ _) _)) HL.out)
          (HD1.out.small.shown fun c hc => ⟨(HD1.out.ok c (List.mem_of_mem_take hc)).text, (HD1.out.ok c (List.mem_of_mem_take hc)).byte⟩)
        unfold chV at hcall
        simp only [] at hcall
        rw [HS1.out, HS2.out] at hcall
        have HCALL := Lib.hid hcall
        clear hW1 hb1 hx1 hbd hcall e0 e1 e2 e3
        refine wp_region_still_tail 4 (by kernel_rfl) (by kernel_rfl) ?_
        simp only [List.take_succ_cons, List.take_zero, List.drop_succ_cons, List.drop_zero]
        repeat still_step
        refine wpStill_nil ?_
        go_wp2_with fail
        refine HCALL.out.mono ?_
        rintro e w2 ⟨rfl, m', hup2⟩
        have HUP2 : Hid (Upto S p m1 m2 (.slice (some ⟨g, 0, none⟩) d1.chs.length capc) d1 (shownOf d1.sure (d1.chs.take (k + 1))) w1 w2 m') := Lib.hid (by rw [dtake_snoc HC.out, shownOf_snoc]; exact hup2)
        clear hup2 b0 b1 b2 b3
        go_wp2
        go_roundw
        case rel => exact ⟨k + 1, m', HK.out, inc_eq HK.out (by have := HL.out; omega), HUP2.out⟩
        case measure => exact inc_meas HK.out (by have := HL.out; omega)
      · obtain rfl : k = d1.chs.length := by omega
        have hk1 := hup.fd.blk
        have c5 : wr.cell? ⟨p, 5, none⟩ = some (.slice aoc d1.chs.length capc) := by rw [cell_of_row _ _ 5 _ _ _ hk1]; rfl
        have f5 := frozen_of_row wr p 5 _ _ hk1
        have HFIN : Hid (DPost S p w1 (wr.setCell ⟨p, 5, none⟩ (.slice none 0 0)) { d1 with sure := d1.shown, chs := [] }) := Lib.hid (by
          rw [List.take_of_length_le (Nat.le_refl _)] at hup
          exact ⟨_, ⟨m, m2, _, Upto.synced HD1.out hup⟩, (Upto.frame HD1.out hup).trans (fr_set wr p 5 _) (fun _ _ h => h) (fun j _ hj => by rw [hj]; exact H.out.inS), fun _ h => .inl h, fun _ h => h.imp id fun h => h.1⟩)
        clear hup hk1
        go_wp2
        go_ret
        refine ⟨by rw [HE.out]; rfl, ?_⟩
        rw [HE.out, ← HSH.out]
        have := DPost.trans HFR1.out (fun _ h => h) (fun _ h => .inl h) HFIN.out
        rw [HEQ.out] at this ⊢
        exact this
  · have HE : Hid (dsync d = dwork d) := Lib.hid (by unfold dsync; rw [if_pos hbad])
    have HP : Hid (errV (dwork d).2 = .iface 41 (.int .i64 ((dwork d).2 : Int))) := Lib.hid (errV_pos hbad)
    have HD := Lib.hid (DPost.same (S := S) ⟨m1, m2, cv, hd1⟩ (hfr1.mono fun j _ hj => by rw [hj]; exact H.out.inS))
    clear hbad hd1 hfr1
    rw [HP.out]
    go_wp2
    go_ret
    exact ⟨by rw [HE.out, HP.out]; rfl, by rw [HE.out]; exact HD.out⟩

end Go.Proofs.YtlckadlkgjfjcaaGreatDoor

namespace Go.Proofs.YtlckadlkgjfjcaaGreatDoor
open Go.RowKit

set_option maxHeartbeats 2000000 in
set_option maxRecDepth 100000 in
theorem cutD_any {w : World} {S : Nat → Prop} {p : Nat} {d : DS} (h : Dk w S p d) (hsz : d.sz < 1099511627776) {kv : Value} {ks : List Bool} (hkv : RowV w (fun j => ¬ S j) kv (ks.map Value.bool)) :
    Calls Tryz.prog 49 #[.pointer (some ⟨p, 0, none⟩), kv] w fun e w' => e = .returned (.tuple #[]) ∧ DPost S p w w' (dcut d ks) := by
  obtain ⟨m1, m2, cv, h⟩ := h
  have c5 := h.c5
  obtain ⟨aoc, capc, rfl, _, _, _⟩ := h.chs.val
  have HL : Hid (d.sure.length + d.chs.length < 1099511627776) := Lib.hid hsz
  obtain ⟨aok, capk, rfl, _, _, _⟩ := id hkv
  have HKV := Lib.hid hkv
  have hkl : (ks.map Value.bool).length = ks.length := List.length_map _
  rw [hkl] at HKV ⊢
  have H := Lib.hid h
  clear h hsz hkv hkl
  go_enter Tryz.func49, Tryz.ntmps49
  go_wp2
  go_loopw [13] (fun i wr => ∃ (k : Nat) (m : Option Nat), k ≤ d.chs.length ∧ i = .int .i64 (k : Int) ∧ Upto S p m1 m2 (.slice aoc d.chs.length capc) d (picked d.sure (d.chs.take k) ks) w wr m)
    (fun i _ => d.chs.length - (intOf i).toNat)
  case atStart => exact ⟨0, m1, Nat.zero_le _, rfl, by have := Upto.start H.out; exact this⟩
  case round =>
    obtain ⟨k, m, hk, rfl, hup⟩ := hrel
    have HUP := Lib.hid hup
    by_cases hlt : k < d.chs.length
    · obtain ⟨c, hc⟩ : ∃ c, d.chs[k]? = some c := ⟨_, List.getElem?_eq_getElem hlt⟩
      obtain ⟨g, cap, v, hcv, e0, e1, e2, e3, hat⟩ := hup.chs.at hc
      have HC := Lib.hid hc
      have HK := Lib.hid hlt
      cases hcv
      obtain ⟨aot, capt, rfl, _, _, _⟩ := hat.reads.val
      have hlti : (k : Int) < d.chs.length := by omega
      have HAT := Lib.hid hat
      obtain ⟨kind, name, to, text⟩ := c
      simp only [] at e0 e1 e2 e3
      obtain ⟨s1, hs1⟩ : ∃ s1 : ByteArray, nmV name = .string s1 := ⟨_, rfl⟩
      obtain ⟨s2, hs2⟩ : ∃ s2 : ByteArray, nmV to = .string s2 := ⟨_, rfl⟩
      rw [hs1] at e1
      rw [hs2] at e2
      have HS1 := Lib.hid hs1
      have HS2 := Lib.hid hs2
      have HTK : Hid ((d.chs.take k).length = k) := Lib.hid (by rw [List.length_take]; omega)
      have HKR := Lib.hid (HKV.out.keep ((Upto.frame H.out hup).kept _ fun j _ h => h))
      clear hup hat hc hs1 hs2
      obtain ⟨W1, hW1⟩ : ∃ W1, W1 = wr.alloc (.cells #[.int .i64 (kind : Int), .string s1, .string s2, .slice aot text.length capt] 135) := ⟨_, rfl⟩
      have hb1 : Below wr.heap.size wr W1 := by rw [hW1]; exact (Below.refl _ _).alloc (Nat.le_refl _) _
      have hx1 : W1.heap[wr.heap.size]? = some (.cells #[.int .i64 (kind : Int), .string s1, .string s2, .slice aot text.length capt] 135 (0, 0)) := by rw [hW1]; exact heap_alloc_new _ _
      have b0 : W1.cell? ⟨wr.heap.size, 0, none⟩ = some (.int .i64 (kind : Int)) := by rw [cell_of_row _ _ 0 _ _ _ hx1]; rfl
      have b1 : W1.cell? ⟨wr.heap.size, 1, none⟩ = some (.string s1) := by rw [cell_of_row _ _ 1 _ _ _ hx1]; rfl
      have b2 : W1.cell? ⟨wr.heap.size, 2, none⟩ = some (.string s2) := by rw [cell_of_row _ _ 2 _ _ _ hx1]; rfl
      have b3 : W1.cell? ⟨wr.heap.size, 3, none⟩ = some (.slice aot text.length capt) := by rw [cell_of_row _ _ 3 _ _ _ hx1]; rfl
      have hbd : Below wr.heap.size wr W1.drew := ⟨hb1.os, hb1.tape, hb1.output, hb1.size, hb1.block⟩
      have hcall := Upto.does H.out (HUP.out.more hbd) (c := ⟨kind, name, to, text⟩) (H.out.ok _ (List.mem_of_getElem? HC.out)) (v := .slice aot text.length capt) (HAT.out.typ (kept_new hbd _) fun j hj => hj.grow hbd.size)
        (Nat.lt_of_le_of_lt (Nat.le_trans (picked_length _ _ _) (Nat.add_le_add_left (by rw [List.length_take]; exact Nat.min_le_right _ _) _)) HL.out)
        (Small.picked (fun c hc => ⟨(H.out.ok c (List.mem_of_mem_take hc)).text, (H.out.ok c (List.mem_of_mem_take hc)).byte⟩) H.out.small ks)
      unfold chV at hcall
      simp only [] at hcall
      rw [HS1.out, HS2.out] at hcall
      have HCALL := Lib.hid hcall
      have HKW := Lib.hid (HKR.out.keep (kept_new hb1 _))
      have HUP1 := Lib.hid (HUP.out.more hb1)
      have HW1 := Lib.hid hW1
      clear hW1 hb1 hx1 hbd hcall
      by_cases hik : k < ks.length
      · have hiki : (k : Int) < ks.length := by omega
        obtain ⟨kb, off, rfl, _, _, hcell⟩ := HKW.out.at (i := k) (by rw [List.length_map]; exact hik)
        have hck := hcell k (by rw [List.length_map]; exact hik)
        rw [List.getElem?_map, List.getElem?_eq_getElem hik, Option.map_some] at hck
        have HPS : Hid (ks[(d.chs.take k).length]? = some ks[k]) := Lib.hid (by rw [HTK.out, List.getElem?_eq_getElem hik])
        generalize ks[k] = kb1 at hck HPS
        have hckw := hck
        rw [HW1.out] at hckw
        clear hcell
        cases kb1
        · have HUP2 : Hid (Upto S p m1 m2 (.slice (some ⟨g, 0, none⟩) d.chs.length capc) d (picked d.sure (d.chs.take (k + 1)) ks) w W1 m) := Lib.hid (by
            rw [dtake_snoc HC.out, picked_snoc, HPS.out, if_neg (by decide)]; exact HUP1.out)
          clear b0 b1 b2 b3
          go_wp2
          rw [← HW1.out]
          go_roundw
          case rel => exact ⟨k + 1, m, HK.out, inc_eq HK.out (by have := HL.out; omega), HUP2.out⟩
          case measure => exact inc_meas HK.out (by have := HL.out; omega)
        · go_wp2_with fail
          rw [← HW1.out]
          refine wp_region_still_tail 4 (by kernel_rfl) (by kernel_rfl) ?_
          simp only [List.take_succ_cons, List.take_zero, List.drop_succ_cons, List.drop_zero]
          repeat still_step
          refine wpStill_nil ?_
          go_wp2_with fail
          refine HCALL.out.mono ?_
          rintro e w2 ⟨rfl, m', hup2⟩
          have HUP2 : Hid (Upto S p m1 m2 (.slice (some ⟨g, 0, none⟩) d.chs.length capc) d (picked d.sure (d.chs.take (k + 1)) ks) w w2 m') := Lib.hid (by
            rw [dtake_snoc HC.out, picked_snoc, HPS.out, if_pos rfl]; exact hup2)
          clear hup2 b0 b1 b2 b3 hck hckw e0 e1 e2 e3
          go_wp2
          go_roundw
          case rel => exact ⟨k + 1, m', HK.out, inc_eq HK.out (by have := HL.out; omega), HUP2.out⟩
          case measure => exact inc_meas HK.out (by have := HL.out; omega)
      · have hiki : ¬ (k : Int) < ks.length := by omega
        have HUP2 : Hid (Upto S p m1 m2 (.slice (some ⟨g, 0, none⟩) d.chs.length capc) d (picked d.sure (d.chs.take (k + 1)) ks) w W1 m) := Lib.hid (by
          rw [dtake_snoc HC.out, picked_snoc, List.getElem?_eq_none (by rw [HTK.out]; omega), if_neg (by simp)]; exact HUP1.out)
        clear b0 b1 b2 b3
        go_wp2
        rw [← HW1.out]
        go_roundw
        case rel => exact ⟨k + 1, m, HK.out, inc_eq HK.out (by have := HL.out; omega), HUP2.out⟩
        case measure => exact inc_meas HK.out (by have := HL.out; omega)
    · obtain rfl : k = d.chs.length := by omega
      rw [List.take_of_length_le (Nat.le_refl _)] at hup HUP
      have HLOSE := Lib.hid (lose_any (w := wr) (S := Ext S w wr) (p := p) (room := d.room) (m1 := m) (l := picked d.sure d.chs ks) (x3 := .map m2) (x4 := .int .i64 (tot d.shown : Int)) (x5 := .slice aoc d.chs.length capc) (x6 := .int .i64 d.fuse) (x7 := .bool d.down) hup.fd.blk hup.fd.tm)
      clear hup
      go_wp2_with fail
      refine HLOSE.out.mono ?_
      rintro e w2 ⟨rfl, mb', hp2, ht2, hs2, hap2, hfr2⟩
      have c7 : w2.cell? ⟨p, 7, none⟩ = some (.bool d.down) := by rw [cell_of_row _ _ 7 _ _ _ hp2]; rfl
      have f7 := frozen_of_row w2 p 7 _ _ hp2
      have hK : DkV w2 (Ext (Ext S w wr) wr w2) p m mb' (.slice none 0 0) { d with sure := picked d.sure d.chs ks, chs := [] } := ⟨hp2, .inl (.inl H.out.inS), fun j hj => hj.lt (fun j hj => hj.lt H.out.lt HUP.out.fd.fr.size) hfr2.size, ht2, hs2, hap2, cr_nil _ _, H.out.room, H.out.fuse, fun c hc => (by cases hc),
        Small.picked (fun c hc => ⟨(H.out.ok c hc).text, (H.out.ok c hc).byte⟩) H.out.small ks⟩
      have HK2 := Lib.hid hK
      have HFR2 := Lib.hid hfr2
      clear hp2 ht2 hs2 hap2 hfr2 hK
      go_wp2
      first | go_end0 | (simp only [Exit.inBlock, Exit.then]; refine bodyPost_ret (results_none rfl _ _ _) rfl ?_) | refine bodyPost_ret (results_none rfl _ _ _) rfl ?_
      refine ⟨rfl, ?_⟩
      have h1 := HK2.out.set (fr_set w2 p 7 (.bool true)) (f := d.fuse) (dn := true) (heap_setCell_same w2 p 7 _ _ (.bool true) HK2.out.blk) H.out.fuse
      refine ⟨_, ⟨m, mb', _, h1⟩, ?_, fun j hj => .inl (.inl hj), fun j hj => ?_⟩
      · refine ((Upto.frame H.out HUP.out).trans HFR2.out (U := S) (fun _ _ h => h) (fun j _ hj => by rw [hj]; exact H.out.inS)).trans (fr_set w2 p 7 _) (fun _ _ h => h) (fun j _ hj => by rw [hj]; exact H.out.inS)
      · exact (hj.mid HUP.out.fd.fr.size HFR2.out.size).imp id fun h => h.1

end Go.Proofs.YtlckadlkgjfjcaaGreatDoor



namespace Go.Proofs.YtlckadlkgjfjcaaGreatDoor
open Go.RowKit

theorem Tryz.infoCh : (Tryz.prog.info? 135).map (fun i => (i.zero, i.size, i.bytes)) = some (some (.agg #[.int .i64 0, .string { data := #[] }, .string { data := #[] }, .slice none 0 0]), 4, 64) := by kernel_rfl

theorem dadd_shown (d : DS) (c : Ch) : (dadd d c).shown = capply d.shown c := shownOf_snoc _ _ _

theorem fr_undrew {S : Nat → Prop} {w w' : World} (h : Fr S w.drew w') : Fr S w w' := ⟨h.os, h.tape, h.output, h.size, h.block⟩

/-- One change more stands behind the others. -/
structure Pushed (S : Nat → Prop) (p : Nat) (m1 m2 : Option Nat) (cv' : Value) (d : DS) (c : Ch) (w w' : World) : Prop where
  blk : w'.heap[p]? = some (.cells (dcells d m1 m2 cv') 133 (0, 0))
  chs : CR w' (Ext S w w') cv' (d.chs ++ [c])
  sure : TM w' (Ext S w w') m1 d.sure
  shown : TM w' (Ext S w w') m2 d.shown
  fr : Fr S w w'
  txt : ∀ v t, At w (Typ w S 5) .u8 v t → At w' (Typ w' (Ext S w w') 5) .u8 v t

theorem pushed {S : Nat → Prop} {p g cap n : Nat} {m1 m2 : Option Nat} {cv : Value} {d : DS} {c : Ch} {v : Value} {w w2 : World} (hd : DkV w S p m1 m2 cv d) (hfr : Fr (fun j => cv.ownBlock = some j) w w2) {ps : List (Ch × Value)} (hps : ps.map (·.1) = d.chs)
    (hat : ∀ x ∈ ps, At w (Typ w S 5) .u8 x.2 x.1.text) (hv : At w (Typ w S 5) .u8 v c.text) (ho : RecOwn w2 0 135 4 (.slice (some ⟨g, 0, none⟩) n cap) (ps.map chRow ++ [chRow (c, v)]))
    (hloc : cv.ownBlock = some g ∨ w.heap.size ≤ g) : Pushed S p m1 m2 (.slice (some ⟨g, 0, none⟩) n cap) d c w (w2.setCell ⟨p, 5, none⟩ (.slice (some ⟨g, 0, none⟩) n cap)) := by
  have hp2 : w2.heap[p]? = _ := (hfr.block p hd.plt fun e => hd.pcv p e rfl).trans hd.blk
  have hs5 := fr_set w2 p 5 (.slice (some ⟨g, 0, none⟩) n cap)
  have hfr3 : Fr (fun j => cv.ownBlock = some j ∨ j = p) w (w2.setCell ⟨p, 5, none⟩ (.slice (some ⟨g, 0, none⟩) n cap)) := hfr.trans hs5 (fun _ _ h => .inl h) (fun _ _ h => .inr h)
  have hk : Kept (Typ w S 5) w (w2.setCell ⟨p, 5, none⟩ (.slice (some ⟨g, 0, none⟩) n cap)) := hfr3.kept _ fun j hj hT => by
    rintro (h | rfl)
    · obtain ⟨_, _, cs, hc⟩ := hd.chs.block h
      exact typ_not_other hc (by decide) hT
    · exact typ_not_other hd.blk (by decide) hT
  have hgp : g ≠ p := by
    rcases hloc with h | h
    · exact hd.pcv g h
    · have := hd.plt; omega
  have hgb := (ho.block (j := g) rfl).2.1
  refine ⟨heap_setCell_same w2 p 5 _ _ _ hp2, ?_, hd.sure.keep hk (fun b e => hfr3.block b (by subst e; exact hd.sure.lt) ?_) (fun _ h => .inl h), hd.shown.keep hk (fun b e => hfr3.block b (by subst e; exact hd.shown.lt) ?_) (fun _ h => .inl h),
    hfr3.mono ?_, fun v t h => h.typ hk fun _ h => .inl h⟩
  · refine ⟨ps ++ [(c, v)], by simp [hps], ?_, ?_, ?_⟩
    · rw [List.map_append]
      exact ho.keep fun j hj => hs5.block j (ho.block hj).2.1 (by cases hj; exact hgp)
    · intro j hj
      cases hj
      rcases hloc with h | h
      · exact .inl (hd.chs.block h).1
      · exact .inr ⟨h, by simpa using hgb⟩
    · intro x hx
      rcases List.mem_append.1 hx with hx | hx
      · exact (hat x hx).typ hk fun _ h => .inl h
      · obtain rfl : x = (c, v) := by simpa using hx
        exact hv.typ hk fun _ h => .inl h
  · rintro (h | h)
    · exact hd.m1cv b e h
    · exact hd.pm1 b e h
  · rintro (h | h)
    · exact hd.m2cv b e h
    · exact hd.pm2 b e h
  · intro j _ hj
    rcases hj with h | rfl
    · exact (hd.chs.block h).1
    · exact hd.inS

/-- The change is done on what is shown. -/
theorem Pushed.does {S : Nat → Prop} {p : Nat} {m1 m2 m' : Option Nat} {cv cv' : Value} {d : DS} {c : Ch} {w w1 w2 : World} (hd : DkV w S p m1 m2 cv d) (hc : ChOk c) (h : Pushed S p m1 m2 cv' d c w w1) (k : FilesDone (Ext S w w1) p 3 m2 (dcells d m1 m2 cv') (capply d.shown c) w1 w2 m')
    (hcp : ∀ j, cv'.ownBlock = some j → j ≠ p) (hcm : ∀ b, m2 = some b → cv'.ownBlock ≠ some b) : DPost S p w w2 (dadd d c) := by
  have hk : Kept (Typ w1 (Ext S w w1) 5) w1 w2 := k.fr.kept _ fun j hj hT => by
    rintro (rfl | h2)
    · exact typ_not_other h.blk (by decide) hT
    · have := h.shown
      rw [h2] at this
      exact typ_not_map this.obj hT
  have hnew : ∀ b, m1 = some b → m' ≠ some b := fun b e e2 => by
    rcases k.mb with h1 | ⟨b', h1, h2⟩
    · exact hd.apart b e (h1 ▸ e2)
    · rw [h1] at e2
      cases e2
      have := h.sure
      rw [e] at this
      have := this.lt
      omega
  have hsure2 : TM w2 (Ext S w w2) m1 d.sure := h.sure.keep hk (fun b e => k.fr.block b (by subst e; exact h.sure.lt) (by
    rintro (h1 | h1)
    · exact hd.pm1 b e h1
    · exact hd.apart b e h1)) fun _ hj => hj.grow k.fr.size
  have hchs2 : CR w2 (Ext S w w2) cv' (d.chs ++ [c]) := h.chs.keep hk (fun j hj => k.fr.block j (h.chs.block hj).2.1 (by
    rintro (h1 | h1)
    · exact hcp j hj h1
    · exact hcm j h1 hj)) fun _ hj => hj.grow k.fr.size
  refine ⟨Ext S w w2, ⟨m1, m', cv', ?_⟩, h.fr.trans k.fr (fun _ _ h => h) (fun j _ hj => ?_), fun _ h => .inl h, fun _ h => h.imp id fun h => h.1⟩
  · refine ⟨k.blk.trans ?_, .inl hd.inS, fun j hj => hj.lt hd.lt (Nat.le_trans h.fr.size k.fr.size), hsure2, ?_, hnew, hchs2, hd.room, hd.fuse, ?_, hd.small⟩
    · rw [dadd_shown]; rfl
    · rw [dadd_shown]; exact k.tm.mono fun _ hj => hj.mid h.fr.size k.fr.size
    · intro x hx
      rcases List.mem_append.1 hx with hx | hx
      · exact hd.ok x hx
      · obtain rfl : x = c := by simpa using hx
        exact hc
  · rcases hj with rfl | hj
    · exact hd.inS
    · obtain ⟨_, _, _, hs⟩ := hd.shown
      exact hs j hj

set_option maxHeartbeats 2000000 in
set_option maxRecDepth 100000 in
theorem change_any {w : World} {S : Nat → Prop} {p : Nat} {d : DS} (h : Dk w S p d) (hsz : d.sz < 1099511627776) {c : Ch} (hc : ChOk c) {v : Value} (hv : At w (Typ w S 5) .u8 v c.text) :
    Calls Tryz.prog 238 #[.pointer (some ⟨p, 0, none⟩), chV c v] w fun e w' => e = .returned (.tuple #[]) ∧ DPost S p w w' (dadd d c) := by
  obtain ⟨m1, m2, cv, h⟩ := h
  obtain ⟨aoc, capc, rfl, _, _, _⟩ := h.chs.val
  have HL : Hid (d.sure.length + d.chs.length < 1099511627776) := Lib.hid hsz
  obtain ⟨aot, capt, rfl, _, _, _⟩ := hv.reads.val
  have H := Lib.hid h
  have HV := Lib.hid hv
  have HC := Lib.hid hc
  obtain ⟨kind, name, to, text⟩ := c
  obtain ⟨s1, hs1⟩ : ∃ s1 : ByteArray, nmV name = .string s1 := ⟨_, rfl⟩
  obtain ⟨s2, hs2⟩ : ∃ s2 : ByteArray, nmV to = .string s2 := ⟨_, rfl⟩
  have HS1 := Lib.hid hs1
  have HS2 := Lib.hid hs2
  unfold chV
  simp only []
  rw [hs1, hs2]
  obtain ⟨zk, hzk⟩ : ∃ zk : Int, zk = (kind : Int) := ⟨_, rfl⟩
  rw [← hzk]
  have HZK := Lib.hid hzk
  obtain ⟨W1, hW1⟩ : ∃ W1, W1 = w.alloc (.cells #[.int .i64 zk, .string s1, .string s2, .slice aot text.length capt] 135) := ⟨_, rfl⟩
  have hb1 : Below w.heap.size w W1 := by rw [hW1]; exact (Below.refl _ _).alloc (Nat.le_refl _) _
  have hx1 : W1.heap[w.heap.size]? = some (.cells #[.int .i64 zk, .string s1, .string s2, .slice aot text.length capt] 135 (0, 0)) := by rw [hW1]; exact heap_alloc_new _ _
  have b0 : W1.cell? ⟨w.heap.size, 0, none⟩ = some (.int .i64 zk) := by rw [cell_of_row _ _ 0 _ _ _ hx1]; rfl
  have b1 : W1.cell? ⟨w.heap.size, 1, none⟩ = some (.string s1) := by rw [cell_of_row _ _ 1 _ _ _ hx1]; rfl
  have b2 : W1.cell? ⟨w.heap.size, 2, none⟩ = some (.string s2) := by rw [cell_of_row _ _ 2 _ _ _ hx1]; rfl
  have b3 : W1.cell? ⟨w.heap.size, 3, none⟩ = some (.slice aot text.length capt) := by rw [cell_of_row _ _ 3 _ _ _ hx1]; rfl
  have hd1 := h.keep (kept_new hb1 S)
  have c5 := hd1.c5
  have f5 := hd1.fz 5
  have HD1 := Lib.hid hd1
  have HB1 := Lib.hid hb1
  have HX1 := Lib.hid hx1
  have HW1 := Lib.hid hW1
  clear h hsz hv hc hs1 hs2 hzk hW1 hb1 hx1 hd1
  go_enter Tryz.func238, Tryz.ntmps238
  go_wp2_with fail
  rw [← HW1.out]
  obtain ⟨ps, hps, hro, hrs, hrt⟩ := HD1.out.chs
  have hpl : (ps.map chRow).length = d.chs.length := by rw [List.length_map, ← hps, List.length_map]
  have HRO := Lib.hid hro
  have HPS := Lib.hid hps
  have HPLN := Lib.hid hpl
  have HRS := Lib.hid hrs
  have HRT := Lib.hid hrt
  have HNE : Hid (∀ j, (Value.slice aoc d.chs.length capc).ownBlock = some j → j ≠ p) := Lib.hid HD1.out.pcv
  have HPP := Lib.hid HD1.out.plt
  have HBX : Hid ((Value.slice aoc d.chs.length capc).ownBlock ≠ some w.heap.size) := Lib.hid fun e => by
    have := H.out.chs.block e
    omega
  have hne1 : ¬ p = w.heap.size := fun e => by have := H.out.plt; omega
  have hne2 : ¬ w.heap.size = p := fun e => by have := H.out.plt; omega
  clear hro hps hpl hrs hrt
  have c5a : ∀ o, (W1.alloc o).cell? ⟨p, 5, none⟩ = some (.slice aoc d.chs.length capc) := fun o => (World.cell?_of_block (Below.heap_alloc _ _ _ HPP.out)).trans c5
  have c5b : ∀ o, (W1.drew.alloc o).cell? ⟨p, 5, none⟩ = some (.slice aoc d.chs.length capc) := fun o => (World.cell?_of_block (Below.heap_alloc _ _ _ HPP.out)).trans c5
  go_region_law
    ((refine step_appRec (by rfl) _ _ _ (by rfl) 0 135 _ 4 64 Tryz.underlying131 Tryz.infoCh rfl (by decide) _ (ps.map chRow) (by rfl) (by first | exact HRO.out.alloc _ | exact HRO.out.drew.alloc _ | exact HRO.out) [.int .i64 zk, .string s1, .string s2, .slice aot text.length capt] rfl (by simp [Value.oneCell']) ⟨W1.heap.size, 0, none⟩ (by rfl) (by first | exact rec_cell W1 [.int .i64 zk, .string s1, .string s2, .slice aot text.length capt] _ | exact rec_cell W1.drew [.int .i64 zk, .string s1, .string s2, .slice aot text.length capt] _) (by have := HL.out; rw [HPLN.out]; simp only [maxLen]; omega) (by have := HL.out; rw [HPLN.out]; omega) (Nat.zero_le _) ?_
      intro g cap w2 ho2 hg2 hloc2
      have hfr2 : Fr (fun j => (Value.slice aoc d.chs.length capc).ownBlock = some j) W1 w2 := (by
        first
          | exact (fr_alloc W1 _ _).trans (fr_grown hg2) (fun _ _ h => h) (fun _ _ h => h.symm)
          | exact fr_undrew ((fr_alloc W1.drew _ _).trans (fr_grown hg2) (fun _ _ h => h) (fun _ _ h => h.symm)))
      have hloc3 : (Value.slice aoc d.chs.length capc).ownBlock = some g ∨ W1.heap.size ≤ g := hloc2.imp id (fun h => by rw [h]; simp)
      have hp3 := (hfr2.block p HPP.out (fun e => HNE.out p e rfl)).trans HD1.out.blk
      have s5 : w2.cell? ⟨p, 5, none⟩ = some (.slice aoc d.chs.length capc) := by rw [cell_of_row _ _ 5 _ _ _ hp3]; rfl
      have g5 : w2.frozen? ⟨p, 5, none⟩ = false := frozen_of_row _ _ 5 _ _ hp3
      have hx2 : w2.heap[w.heap.size]? = some (.cells #[.int .i64 zk, .string s1, .string s2, .slice aot text.length capt] 135 (0, 0)) := (hfr2.block _ (Array.getElem?_eq_some_iff.1 HX1.out).1 HBX.out).trans HX1.out
      have HO2 := Lib.hid ho2
      have HFR2 := Lib.hid hfr2
      have HLOC := Lib.hid hloc3
      have HX2 := Lib.hid hx2
      clear ho2 hg2 hloc2 hfr2 hloc3 hp3 hx2))
  all_goals
    have hpu : Pushed S p m1 m2 _ d ⟨kind, name, to, text⟩ W1 (w2.setCell ⟨p, 5, none⟩ (.slice (some ⟨g, 0, none⟩) (ps.length + 1) cap)) := pushed HD1.out HFR2.out HPS.out HRT.out (v := .slice aot text.length capt) (HV.out.typ (kept_new HB1.out _) fun _ h => h) (by
      unfold chRow
      simp only []
      rw [HS1.out, HS2.out, ← HZK.out]
      have := HO2.out
      rw [List.length_map] at this
      exact this) HLOC.out
    obtain ⟨W3, hW3⟩ : ∃ W3, W3 = w2.setCell ⟨p, 5, none⟩ (.slice (some ⟨g, 0, none⟩) (ps.length + 1) cap) := ⟨_, rfl⟩
    rw [← hW3] at hpu ⊢
    have hx3 : W3.heap[w.heap.size]? = some (.cells #[.int .i64 zk, .string s1, .string s2, .slice aot text.length capt] 135 (0, 0)) := by
      rw [hW3, heap_setCell_other _ _ _ _ (fun e => hne2 e)]; exact HX2.out
    have t0 : W3.cell? ⟨w.heap.size, 0, none⟩ = some (.int .i64 zk) := by rw [cell_of_row _ _ 0 _ _ _ hx3]; rfl
    have t1 : W3.cell? ⟨w.heap.size, 1, none⟩ = some (.string s1) := by rw [cell_of_row _ _ 1 _ _ _ hx3]; rfl
    have t2 : W3.cell? ⟨w.heap.size, 2, none⟩ = some (.string s2) := by rw [cell_of_row _ _ 2 _ _ _ hx3]; rfl
    have t3 : W3.cell? ⟨w.heap.size, 3, none⟩ = some (.slice aot text.length capt) := by rw [cell_of_row _ _ 3 _ _ _ hx3]; rfl
    have hcall := do_any (w := W3.drew) (S := Ext S W1 W3) (o := 3) (l := d.shown) (mb := m2) hpu.blk rfl rfl (hpu.shown.keep ⟨Nat.le_refl _, fun _ _ _ => rfl⟩ (fun _ _ => rfl) fun _ h => h) (c := ⟨kind, name, to, text⟩) HC.out (v := .slice aot text.length capt)
      ((hpu.txt _ _ (HV.out.typ (kept_new HB1.out _) fun _ h => h)).typ ⟨Nat.le_refl _, fun _ _ _ => rfl⟩ fun _ h => h) (H.out.totShown HL.out) (by have := lenShown d; have := HL.out; unfold DS.sz at *; omega)
    unfold chV at hcall
    simp only [] at hcall
    rw [HS1.out, HS2.out, ← HZK.out] at hcall
    have HCALL := Lib.hid hcall
    have HPU := Lib.hid hpu
    have HGP : Hid (g ≠ p) := Lib.hid (by
      rcases HLOC.out with h | h
      · exact HNE.out g h
      · have := HPP.out; omega)
    have HGM : Hid (∀ b, m2 = some b → (Value.slice (some ⟨g, 0, none⟩) (ps.length + 1) cap).ownBlock ≠ some b) := Lib.hid fun b e e2 => by
      cases e2
      rcases HLOC.out with h | h
      · exact HD1.out.m2cv g e h
      · have := HD1.out.shown
        rw [e] at this
        exact absurd this.lt (Nat.not_lt.2 h)
    clear hW3 hx3 hcall hpu s5 g5 b0 b1 b2 b3 c5 f5
    go_wp2_with fail
    refine wp_region_still_tail 4 (by kernel_rfl) (by kernel_rfl) ?_
    simp only [List.take_succ_cons, List.take_zero, List.drop_succ_cons, List.drop_zero]
    repeat still_step
    refine wpStill_nil ?_
    go_wp2_with fail
    refine HCALL.out.mono ?_
    rintro e w4 ⟨rfl, m', hfd⟩
    have HFD : Hid (FilesDone (Ext S W1 W3) p 3 m2 (dcells d m1 m2 (.slice (some ⟨g, 0, none⟩) (ps.length + 1) cap)) (capply d.shown ⟨kind, name, to, text⟩) W3 w4 m') := Lib.hid ⟨hfd.blk, hfd.tm, ⟨hfd.fr.os, hfd.fr.tape, hfd.fr.output, hfd.fr.size, hfd.fr.block⟩, hfd.mb⟩
    clear hfd t0 t1 t2 t3
    go_wp2
    first | go_end0 | (simp only [Exit.inBlock, Exit.then]; refine bodyPost_ret (results_none rfl _ _ _) rfl ?_) | refine bodyPost_ret (results_none rfl _ _ _) rfl ?_
    exact ⟨rfl, DPost.trans (fr_below HB1.out S) (fun _ h => h) (fun _ h => .inl h) (HPU.out.does HD1.out HC.out HFD.out (fun j hj => by cases hj; exact HGP.out) HGM.out)⟩

end Go.Proofs.YtlckadlkgjfjcaaGreatDoor

namespace Go.Proofs.YtlckadlkgjfjcaaGreatDoor
open Go.RowKit

def fitsD (d : DS) (n : Nm) (s : Nat) : Bool := decide ((if fhas d.shown n then d.shown.length else d.shown.length + 1) ≤ 512) && decide (tot d.shown - fsz d.shown n + s ≤ d.room)

set_option maxHeartbeats 1000000 in
set_option maxRecDepth 100000 in
theorem fits_any {w : World} {S : Nat → Prop} {p : Nat} {d : DS} (h : Dk w S p d) (hsz : d.sz < 1099511627776) {n : Nm} (hn : n.length ≤ 1000) (s : Nat) (hs : s ≤ 65536) :
    Calls Tryz.prog 276 #[.pointer (some ⟨p, 0, none⟩), nmV n, .int .i64 (s : Int)] w fun e w' => e = .returned (.bool (fitsD d n s)) ∧ ∃ q, w' = w.drewN q := by
  obtain ⟨m1, m2, cv, h⟩ := h
  have c0 := h.c0
  have c3 := h.c3
  have c4 := h.c4
  have htot := h.totShown hsz
  have hap := h.shown.apart
  have hlen := lenShown d
  have hfl := fsz_tot hap n
  have hroom := h.room
  obtain ⟨es, hm, hz, _⟩ := h.shown
  have hel := hz.length
  have hhas := hz.has n
  have HM := Lib.hid hm
  have HZ := Lib.hid hz
  have HN := Lib.hid (maxLen_1000 hn)
  have HR : Hid (d.room ≤ 1073741824) := Lib.hid hroom
  have HTT : Hid (tot d.shown < 4611686018427387904) := Lib.hid htot
  have HFL := Lib.hid hfl
  have HLEN : Hid (d.shown.length < 1099511627776) := Lib.hid (by omega)
  have HHAS := Lib.hid hhas
  have HEL := Lib.hid hel
  obtain ⟨z, hz'⟩ : ∃ z, z = tot d.shown - fsz d.shown n := ⟨_, rfl⟩
  have hw1 : wrap64 ((tot d.shown : Int) - (fsz d.shown n : Int)) = (z : Int) := by rw [w64_id (by omega) (by omega)]; omega
  have hw2 : wrap64 ((z : Int) + (s : Int)) = ((z + s : Nat) : Int) := by rw [w64_id (by omega) (by omega)]; omega
  have HZE := Lib.hid hz'
  clear h hsz hm hz hap hroom htot hfl hlen hel hhas hz'
  go_enter Tryz.func276, Tryz.ntmps276
  go_wp2_with fail
  refine (dmany_any c3 HM.out).mono ?_
  rintro e w1 ⟨rfl, rfl⟩
  rw [HEL.out]
  go_wp2_with fail
  refine (has_any c3 HM.out HN.out).mono ?_
  rintro e w2 ⟨rfl, rfl⟩
  rw [HHAS.out]
  have HSZ : Hid (∀ q, Calls Tryz.prog 179 #[.pointer (some ⟨p, 3, none⟩), nmV n] (w2.drewN q) fun e w' => e = .returned (.int .i64 (fsz d.shown n : Int)) ∧ w' = w2.drewN q) :=
    Lib.hid fun q => sizeOf_any (w := w2.drewN q) (B := Typ w2 S 5) (l := d.shown) c3 (HM.out.keep fun _ _ => rfl) HZ.out HN.out
  obtain ⟨many, hmany⟩ : ∃ many : Int, many = (d.shown.length : Int) := ⟨_, rfl⟩
  rw [← hmany]
  have HMY := Lib.hid hmany
  clear hmany
  cases hh : fhas d.shown n
  · obtain ⟨many2, hm2⟩ : ∃ many2 : Int, many2 = ((d.shown.length + 1 : Nat) : Int) := ⟨_, rfl⟩
    have hwm : wrap64 (many + 1) = many2 := by
      have h1 := HMY.out
      have h2 := HLEN.out
      rw [w64_id (by omega) (by omega), hm2, h1]
      rfl
    have HM2 := Lib.hid hm2
    have HF : Hid (fitsD d n s = (decide (d.shown.length + 1 ≤ 512) && decide (z + s ≤ d.room))) := Lib.hid (by unfold fitsD; rw [hh, HZE.out]; rfl)
    clear hh hm2
    by_cases h512 : many2 ≤ 512
    · go_wp2_with fail
      go_quiet ((go_at_call 179; exact Calls.quiet_of_same (HSZ.out _)))
      go_wp2
      go_ret
      refine ⟨?_, _, rfl⟩
      rw [HF.out]
      refine ret_bool ?_
      have h1 := HM2.out
      rw [decide_eq_true (p := d.shown.length + 1 ≤ 512) (by omega), Bool.true_and, decide_eq_decide]
      omega
    · have hdb : decide (many2 ≤ 512) = false := decide_eq_false h512
      go_wp2_with fail
      go_quiet ((go_at_call 179; exact Calls.quiet_of_same (HSZ.out _)))
      go_wp2
      go_ret
      refine ⟨?_, _, rfl⟩
      rw [HF.out]
      refine ret_bool ?_
      have h1 := HM2.out
      rw [decide_eq_false (p := d.shown.length + 1 ≤ 512) (by omega), Bool.false_and]
  · have HF : Hid (fitsD d n s = (decide (d.shown.length ≤ 512) && decide (z + s ≤ d.room))) := Lib.hid (by unfold fitsD; rw [hh, HZE.out]; rfl)
    clear hh
    by_cases h512 : many ≤ 512
    · go_wp2_with fail
      go_quiet ((go_at_call 179; exact Calls.quiet_of_same (HSZ.out _)))
      go_wp2
      go_ret
      refine ⟨?_, _, rfl⟩
      rw [HF.out]
      refine ret_bool ?_
      have h1 := HMY.out
      rw [decide_eq_true (p := d.shown.length ≤ 512) (by omega), Bool.true_and, decide_eq_decide]
      omega
    · have hdb : decide (many ≤ 512) = false := decide_eq_false h512
      go_wp2_with fail
      go_quiet ((go_at_call 179; exact Calls.quiet_of_same (HSZ.out _)))
      go_wp2
      go_ret
      refine ⟨?_, _, rfl⟩
      rw [HF.out]
      refine ret_bool ?_
      have h1 := HMY.out
      rw [decide_eq_false (p := d.shown.length ≤ 512) (by omega), Bool.false_and]

theorem fitsD_iff {d : DS} (hap : Apart d.shown) (n : Nm) (b : List Nat) : fitsD d n b.length = false ↔ (512 < (fput d.shown n b).length ∨ d.room < tot (fput d.shown n b)) := by
  have h1 := fput_length hap n b
  have h2 := tot_put hap n b
  have h3 := fsz_tot hap n
  unfold fitsD
  rw [← h1, Bool.and_eq_false_iff, decide_eq_false_iff_not, decide_eq_false_iff_not]
  omega
theorem dwork_ok (d : DS) : (dwork d).1.sz = d.sz ∧ (dwork d).1.shown = d.shown ∧ (dwork d).1.room = d.room := ⟨by unfold dwork DS.sz; split <;> rfl, dwork_shown d, dwork_room d⟩

def WPost (S : Nat → Prop) (p : Nat) (w : World) (r : DS × Nat) (e : Ending) (w' : World) : Prop := e = .returned (errV r.2) ∧ DPost S p w w' r.1

set_option maxHeartbeats 2000000 in
set_option maxRecDepth 100000 in
theorem writeD_any {w : World} {S : Nat → Prop} {p : Nat} {d : DS} (h : Dk w S p d) (hsz : d.sz < 1099511627776) {n : Nm} (hn : n.length ≤ 9223372036854775807) {v : Value} {b : List Nat} (hv : At w (fun j => ¬ S j) .u8 v b) (hb : ∀ y ∈ b, y < 256) :
    Calls Tryz.prog 215 #[.pointer (some ⟨p, 0, none⟩), nmV n, v] w (WPost S p w (dwrite d n b)) := by
  obtain ⟨m1, m2, cv, h⟩ := h
  obtain ⟨ao, cap, rfl, _, _, _⟩ := hv.reads.val
  have HSZ := Lib.hid hsz
  have HV := Lib.hid hv
  have HB := Lib.hid hb
  have H := Lib.hid h
  clear h hsz hv hb
  go_enter Tryz.func215, Tryz.ntmps215
  go_wp2_with fail
  refine (operate_any H.out).mono ?_
  rintro e w1 ⟨rfl, hd1, hfr1⟩
  have HFR1 : Hid (Fr S w w1) := Lib.hid (hfr1.mono fun j _ hj => by rw [hj]; exact H.out.inS)
  have HD1 : Hid (Dk w1 S p (dwork d).1) := Lib.hid ⟨m1, m2, cv, hd1⟩
  have HAP : Hid (Apart d.shown) := Lib.hid H.out.shown.apart
  clear hfr1 hd1
  by_cases hbad : (dwork d).2 = 0
  · obtain ⟨hs1, hs2, hs3⟩ := dwork_ok d
    rw [hbad, errV_zero]
    obtain ⟨d1, hd1e⟩ : ∃ d1, d1 = (dwork d).1 := ⟨_, rfl⟩
    rw [← hd1e] at HD1 hs1 hs2 hs3
    have HEQ := Lib.hid hd1e
    have HS := Lib.hid (And.intro hs1 (And.intro hs2 hs3))
    have HBAD := Lib.hid hbad
    clear hbad hs1 hs2 hs3 hd1e
    have hend : ∀ (k : Nat), dwrite d n b = (d1, k) → WPost S p w (dwrite d n b) (.returned (errV k)) w1 := fun k hk => by
      rw [hk]
      exact ⟨rfl, DPost.same HD1.out HFR1.out⟩
    have HEND := Lib.hid hend
    clear hend
    go_wp2_with fail
    refine (named_any n hn w1).mono ?_
    rintro e w1 ⟨rfl, rfl⟩
    cases hnm : named n
    · have HE : Hid (dwrite d n b = (d1, 2)) := Lib.hid (by unfold dwrite; rw [if_neg (by simp [HBAD.out]), if_pos hnm, ← HEQ.out])
      have e2 : Value.iface 41 (.int .i64 2) = errV 2 := (errV_pos (by decide)).symm
      have E2 := Lib.hid e2
      clear hnm e2
      go_wp2
      go_ret
      have := HEND.out 2 HE.out
      rw [← E2.out] at this
      exact this
    · have HNM := Lib.hid hnm
      have HNL : Hid (n.length ≤ 24) := Lib.hid (by
        unfold named at hnm
        simp only [Bool.and_eq_true, decide_eq_true_eq] at hnm
        omega)
      clear hnm
      by_cases hlong : (65536 : Int) < (b.length : Int)
      · have HE : Hid (dwrite d n b = (d1, 3)) := Lib.hid (by unfold dwrite; rw [if_neg (by simp [HBAD.out]), if_neg (by simp [HNM.out]), if_pos (by omega), ← HEQ.out])
        have e2 : Value.iface 41 (.int .i64 3) = errV 3 := (errV_pos (by decide)).symm
        have E2 := Lib.hid e2
        clear e2
        go_wp2
        go_ret
        have := HEND.out 3 HE.out
        rw [← E2.out] at this
        exact this
      · have HLB : Hid (b.length ≤ 65536) := Lib.hid (by omega)
        go_wp2_with fail
        refine (fits_any HD1.out (by rw [HS.out.1]; exact HSZ.out) (Nat.le_trans HNL.out (by decide)) b.length HLB.out).mono ?_
        rintro e w2 ⟨rfl, q, hw2⟩
        have hfe : fitsD d1 n b.length = fitsD d n b.length := by unfold fitsD; rw [HS.out.2.1, HS.out.2.2]
        rw [hfe]
        have HD2 : Hid (Dk w2 S p d1) := Lib.hid (by rw [hw2]; exact HD1.out.keep ⟨Nat.le_refl _, fun _ _ _ => rfl⟩)
        have HFR2 : Hid (Fr S w w2) := Lib.hid (by rw [hw2]; exact ⟨HFR1.out.os, HFR1.out.tape, HFR1.out.output, HFR1.out.size, HFR1.out.block⟩)
        clear hw2 hfe
        cases hfit : fitsD d n b.length
        · have HE : Hid (dwrite d n b = (d1, 5)) := Lib.hid (by unfold dwrite; rw [if_neg (by simp [HBAD.out]), if_neg (by simp [HNM.out]), if_neg (by have := HLB.out; omega), if_pos ((fitsD_iff HAP.out n b).1 hfit), ← HEQ.out])
          have e2 : Value.iface 41 (.int .i64 5) = errV 5 := (errV_pos (by decide)).symm
          have E2 := Lib.hid e2
          clear e2 hfit
          go_wp2
          go_ret
          unfold WPost
          rw [HE.out, ← E2.out]
          exact ⟨rfl, DPost.same HD2.out HFR2.out⟩
        · have HE : Hid (dwrite d n b = (dadd d1 ⟨0, n, [], b⟩, 0)) := Lib.hid (by
            unfold dwrite
            rw [if_neg (by simp [HBAD.out]), if_neg (by simp [HNM.out]), if_neg (by have := HLB.out; omega), if_neg (fun h => by rw [(fitsD_iff HAP.out n b).2 h] at hfit; cases hfit), ← HEQ.out])
          have HV2 := Lib.hid (HV.out.keep (HFR2.out.kept (fun j => ¬ S j) fun _ _ h => h))
          clear hfit
          go_wp2_with fail
          refine (writing_any n _ b w2 HV2.out.reads (Nat.le_trans HLB.out (by decide))).mono ?_
          rintro e w3 ⟨v3, rfl, ho3, hb3⟩
          have HD3 : Hid (Dk w3 (Ext S w2 w3) p d1) := Lib.hid (by
            obtain ⟨n1, n2, cv2, hd⟩ := HD2.out.keep (kept_new hb3 S)
            exact ⟨n1, n2, cv2, hd.blk, .inl hd.inS, fun j hj => hj.lt (fun j hj => HD2.out.lt hj) hb3.size, hd.sure.mono fun _ h => .inl h, hd.shown.mono fun _ h => .inl h, hd.apart, hd.chs.keep (Kept.refl _ _) (fun _ _ => rfl) fun _ h => .inl h, hd.room, hd.fuse, hd.ok, hd.small⟩)
          have hat := ho3.typ (S := Ext S w2 w3) fun j h1 h2 => .inr ⟨h1, h2⟩
          have HCH := Lib.hid (change_any HD3.out (by rw [HS.out.1]; exact HSZ.out) (c := ⟨0, n, [], b⟩) ⟨by simp, Nat.le_trans HNL.out (by decide), by simp, HLB.out, HB.out⟩ hat)
          have HB3 := Lib.hid hb3
          obtain ⟨ao3, cap3, rfl, _, _, _⟩ := ho3.reads.val
          clear hat ho3 hb3
          unfold chV at HCH ⊢
          simp only [] at HCH ⊢
          go_wp2_with fail
          refine HCH.out.mono ?_
          rintro e w4 ⟨rfl, hp4⟩
          have HP4 := Lib.hid hp4
          clear hp4
          go_wp2
          go_ret
          unfold WPost
          rw [HE.out]
          refine ⟨rfl, DPost.trans HFR2.out (fun _ h => h) (fun _ h => .inl h) (DPost.trans (fr_below HB3.out S) (fun _ h => .inl h) (fun _ h => h.imp id fun h => h.1) HP4.out)⟩
  · have HE : Hid (dwrite d n b = dwork d) := Lib.hid (by unfold dwrite; rw [if_pos hbad])
    have HP : Hid (errV (dwork d).2 = .iface 41 (.int .i64 ((dwork d).2 : Int))) := Lib.hid (errV_pos hbad)
    clear hbad
    rw [HP.out]
    go_wp2
    go_ret
    unfold WPost
    rw [HE.out, HP.out]
    exact ⟨rfl, DPost.same HD1.out HFR1.out⟩

end Go.Proofs.YtlckadlkgjfjcaaGreatDoor

namespace Go.Proofs.YtlckadlkgjfjcaaGreatDoor
open Go.RowKit

theorem errV_if (c : Nat) (h : c ≠ 0) : Value.iface 41 (.int .i64 (c : Int)) = errV c := (errV_pos h).symm
theorem At.none_any (w : World) (B : Nat → Prop) : At w B .u8 (.slice none 0 0) [] := ⟨⟨none, 0, rfl, by simp, by simp [maxLen], fun _ => rfl, .inl rfl⟩, .inl rfl⟩

set_option maxHeartbeats 2000000 in
set_option maxRecDepth 100000 in
theorem removeD_any {w : World} {S : Nat → Prop} {p : Nat} {d : DS} (h : Dk w S p d) (hsz : d.sz < 1099511627776) {n : Nm} (hn : n.length ≤ 9223372036854775807) :
    Calls Tryz.prog 181 #[.pointer (some ⟨p, 0, none⟩), nmV n] w (WPost S p w (dremove d n)) := by
  obtain ⟨m1, m2, cv, h⟩ := h
  have HSZ := Lib.hid hsz
  have H := Lib.hid h
  clear h hsz
  go_enter Tryz.func181, Tryz.ntmps181
  go_wp2_with fail
  refine (operate_any H.out).mono ?_
  rintro e w1 ⟨rfl, hd1, hfr1⟩
  have HFR1 : Hid (Fr S w w1) := Lib.hid (hfr1.mono fun j _ hj => by rw [hj]; exact H.out.inS)
  have HV1 := Lib.hid hd1
  clear hfr1 hd1
  by_cases hbad : (dwork d).2 = 0
  · obtain ⟨hs1, hs2, _⟩ := dwork_ok d
    rw [hbad, errV_zero]
    obtain ⟨d1, hd1e⟩ : ∃ d1, d1 = (dwork d).1 := ⟨_, rfl⟩
    rw [← hd1e] at HV1 hs1 hs2
    have HEQ := Lib.hid hd1e
    have HS := Lib.hid (And.intro hs1 hs2)
    have HBAD := Lib.hid hbad
    have HD1 : Hid (Dk w1 S p d1) := Lib.hid ⟨m1, m2, cv, HV1.out⟩
    clear hbad hs1 hs2 hd1e
    have HEND : Hid (∀ (k : Nat), dremove d n = (d1, k) → WPost S p w (dremove d n) (.returned (errV k)) w1) := Lib.hid fun k hk => by
      rw [hk]
      exact ⟨rfl, DPost.same HD1.out HFR1.out⟩
    go_wp2_with fail
    refine (named_any n hn w1).mono ?_
    rintro e w1 ⟨rfl, rfl⟩
    cases hnm : named n
    · have HE : Hid (dremove d n = (d1, 2)) := Lib.hid (by unfold dremove; rw [if_neg (by simp [HBAD.out]), if_pos hnm, ← HEQ.out])
      clear hnm
      go_wp2
      go_ret
      have := HEND.out 2 HE.out
      rw [← errV_if 2 (by decide)] at this
      exact this
    · have HNM := Lib.hid hnm
      have HNL : Hid (n.length ≤ 24) := Lib.hid (by
        unfold named at hnm
        simp only [Bool.and_eq_true, decide_eq_true_eq] at hnm
        omega)
      obtain ⟨es, hm, hz, _⟩ := HV1.out.shown
      have hhas := hz.has n
      rw [HS.out.2] at hhas
      have HM := Lib.hid hm
      have HHAS := Lib.hid hhas
      have c3 := HV1.out.c3
      clear hnm hm hz hhas
      go_wp2_with fail
      refine (has_any c3 HM.out (Nat.le_trans HNL.out (by simp [maxLen]))).mono ?_
      rintro e w1 ⟨rfl, rfl⟩
      rw [HHAS.out]
      cases hh : fhas d.shown n
      · have HE : Hid (dremove d n = (d1, 4)) := Lib.hid (by unfold dremove; rw [if_neg (by simp [HBAD.out]), if_neg (by simp [HNM.out]), if_pos hh, ← HEQ.out])
        clear hh
        go_wp2
        go_ret
        have := HEND.out 4 HE.out
        rw [← errV_if 4 (by decide)] at this
        exact this
      · have HE : Hid (dremove d n = (dadd d1 ⟨2, n, [], []⟩, 0)) := Lib.hid (by unfold dremove; rw [if_neg (by simp [HBAD.out]), if_neg (by simp [HNM.out]), if_neg (by simp [hh]), ← HEQ.out])
        have HCH := Lib.hid (change_any HD1.out (by rw [HS.out.1]; exact HSZ.out) (c := ⟨2, n, [], []⟩) ⟨by simp, Nat.le_trans HNL.out (by decide), by simp, by simp, by simp⟩ (At.none_any _ _))
        clear hh c3
        unfold chV at HCH
        simp only [] at HCH
        have HCI : Hid (Calls Tryz.prog 238 #[.pointer (some ⟨p, 0, none⟩), .agg #[.int .i64 2, nmV n, .string { data := #[] }, .slice none 0 0]] w1 fun e w' => e = .returned (.tuple #[]) ∧ DPost S p w1 w' (dadd d1 ⟨2, n, [], []⟩)) := Lib.hid HCH.out
        clear HCH
        obtain ⟨s1, hs1⟩ : ∃ s1 : ByteArray, nmV n = .string s1 := ⟨_, rfl⟩
        rw [hs1] at HCI ⊢
        clear hs1
        go_wp2_with fail
        refine HCI.out.mono ?_
        rintro e w4 ⟨rfl, hp4⟩
        have HP4 := Lib.hid hp4
        clear hp4
        go_wp2
        go_ret
        unfold WPost
        rw [HE.out]
        exact ⟨rfl, DPost.trans HFR1.out (fun _ h => h) (fun _ h => .inl h) HP4.out⟩
  · have HE : Hid (dremove d n = dwork d) := Lib.hid (by unfold dremove; rw [if_pos hbad])
    have HP : Hid (errV (dwork d).2 = .iface 41 (.int .i64 ((dwork d).2 : Int))) := Lib.hid (errV_pos hbad)
    clear hbad
    rw [HP.out]
    go_wp2
    go_ret
    unfold WPost
    rw [HE.out, HP.out]
    exact ⟨rfl, DPost.same ⟨m1, m2, cv, HV1.out⟩ HFR1.out⟩

set_option maxHeartbeats 2000000 in
set_option maxRecDepth 100000 in
theorem renameD_any {w : World} {S : Nat → Prop} {p : Nat} {d : DS} (h : Dk w S p d) (hsz : d.sz < 1099511627776) {n n2 : Nm} (hn : n.length ≤ 9223372036854775807) (hn2 : n2.length ≤ 9223372036854775807) :
    Calls Tryz.prog 216 #[.pointer (some ⟨p, 0, none⟩), nmV n, nmV n2] w (WPost S p w (drename d n n2)) := by
  obtain ⟨m1, m2, cv, h⟩ := h
  have HSZ := Lib.hid hsz
  have H := Lib.hid h
  clear h hsz
  go_enter Tryz.func216, Tryz.ntmps216
  go_wp2_with fail
  refine (operate_any H.out).mono ?_
  rintro e w1 ⟨rfl, hd1, hfr1⟩
  have HFR1 : Hid (Fr S w w1) := Lib.hid (hfr1.mono fun j _ hj => by rw [hj]; exact H.out.inS)
  have HV1 := Lib.hid hd1
  clear hfr1 hd1
  by_cases hbad : (dwork d).2 = 0
  · obtain ⟨hs1, hs2, _⟩ := dwork_ok d
    rw [hbad, errV_zero]
    obtain ⟨d1, hd1e⟩ : ∃ d1, d1 = (dwork d).1 := ⟨_, rfl⟩
    rw [← hd1e] at HV1 hs1 hs2
    have HEQ := Lib.hid hd1e
    have HS := Lib.hid (And.intro hs1 hs2)
    have HBAD := Lib.hid hbad
    have HD1 : Hid (Dk w1 S p d1) := Lib.hid ⟨m1, m2, cv, HV1.out⟩
    clear hbad hs1 hs2 hd1e
    have HEND : Hid (∀ (k : Nat), drename d n n2 = (d1, k) → WPost S p w (drename d n n2) (.returned (errV k)) w1) := Lib.hid fun k hk => by
      rw [hk]
      exact ⟨rfl, DPost.same HD1.out HFR1.out⟩
    go_wp2_with fail
    refine (named_any n hn w1).mono ?_
    rintro e w1 ⟨rfl, rfl⟩
    cases hnm : named n
    · have HE : Hid (drename d n n2 = (d1, 2)) := Lib.hid (by unfold drename; rw [if_neg (by simp [HBAD.out]), if_pos (.inl hnm), ← HEQ.out])
      clear hnm
      go_wp2
      go_ret
      have := HEND.out 2 HE.out
      rw [← errV_if 2 (by decide)] at this
      exact this
    · have HNM := Lib.hid hnm
      have HNL : Hid (n.length ≤ 24) := Lib.hid (by
        unfold named at hnm
        simp only [Bool.and_eq_true, decide_eq_true_eq] at hnm
        omega)
      clear hnm
      go_wp2_with fail
      refine (named_any n2 hn2 w1).mono ?_
      rintro e w1 ⟨rfl, rfl⟩
      cases hnm2 : named n2
      · have HE : Hid (drename d n n2 = (d1, 2)) := Lib.hid (by unfold drename; rw [if_neg (by simp [HBAD.out]), if_pos (.inr hnm2), ← HEQ.out])
        clear hnm2
        go_wp2
        go_ret
        have := HEND.out 2 HE.out
        rw [← errV_if 2 (by decide)] at this
        exact this
      · have HNM2 := Lib.hid hnm2
        have HNL2 : Hid (n2.length ≤ 24) := Lib.hid (by
          unfold named at hnm2
          simp only [Bool.and_eq_true, decide_eq_true_eq] at hnm2
          omega)
        obtain ⟨es, hm, hz, _⟩ := HV1.out.shown
        have hhas := hz.has n
        rw [HS.out.2] at hhas
        have HM := Lib.hid hm
        have HHAS := Lib.hid hhas
        have c3 := HV1.out.c3
        clear hnm2 hm hz hhas
        go_wp2_with fail
        refine (has_any c3 HM.out (Nat.le_trans HNL.out (by simp [maxLen]))).mono ?_
        rintro e w1 ⟨rfl, rfl⟩
        rw [HHAS.out]
        cases hh : fhas d.shown n
        · have HE : Hid (drename d n n2 = (d1, 4)) := Lib.hid (by unfold drename; rw [if_neg (by simp [HBAD.out]), if_neg (by simp [HNM.out, HNM2.out]), if_pos hh, ← HEQ.out])
          clear hh
          go_wp2
          go_ret
          have := HEND.out 4 HE.out
          rw [← errV_if 4 (by decide)] at this
          exact this
        · have HE : Hid (drename d n n2 = (dadd d1 ⟨1, n, n2, []⟩, 0)) := Lib.hid (by unfold drename; rw [if_neg (by simp [HBAD.out]), if_neg (by simp [HNM.out, HNM2.out]), if_neg (by simp [hh]), ← HEQ.out])
          have HCH := Lib.hid (change_any HD1.out (by rw [HS.out.1]; exact HSZ.out) (c := ⟨1, n, n2, []⟩) ⟨by simp, Nat.le_trans HNL.out (by decide), Nat.le_trans HNL2.out (by decide), by simp, by simp⟩ (At.none_any _ _))
          clear hh c3
          unfold chV at HCH
          simp only [] at HCH
          have HCI : Hid (Calls Tryz.prog 238 #[.pointer (some ⟨p, 0, none⟩), .agg #[.int .i64 1, nmV n, nmV n2, .slice none 0 0]] w1 fun e w' => e = .returned (.tuple #[]) ∧ DPost S p w1 w' (dadd d1 ⟨1, n, n2, []⟩)) := Lib.hid HCH.out
          clear HCH
          obtain ⟨s1, hs1⟩ : ∃ s1 : ByteArray, nmV n = .string s1 := ⟨_, rfl⟩
          obtain ⟨s2, hs2⟩ : ∃ s2 : ByteArray, nmV n2 = .string s2 := ⟨_, rfl⟩
          rw [hs1, hs2] at HCI ⊢
          clear hs1 hs2
          go_wp2_with fail
          refine HCI.out.mono ?_
          rintro e w4 ⟨rfl, hp4⟩
          have HP4 := Lib.hid hp4
          clear hp4
          go_wp2
          go_ret
          unfold WPost
          rw [HE.out]
          exact ⟨rfl, DPost.trans HFR1.out (fun _ h => h) (fun _ h => .inl h) HP4.out⟩
  · have HE : Hid (drename d n n2 = dwork d) := Lib.hid (by unfold drename; rw [if_pos hbad])
    have HP : Hid (errV (dwork d).2 = .iface 41 (.int .i64 ((dwork d).2 : Int))) := Lib.hid (errV_pos hbad)
    clear hbad
    rw [HP.out]
    go_wp2
    go_ret
    unfold WPost
    rw [HE.out, HP.out]
    exact ⟨rfl, DPost.same ⟨m1, m2, cv, HV1.out⟩ HFR1.out⟩

def ReadDPost (r : List Nat × Nat) (w : World) (e : Ending) (w' : World) : Prop := ∃ v, e = .returned (.tuple #[v, errV r.2]) ∧ Owns w' w.heap.size 5 .u8 v r.1 ∧ Below w.heap.size w w'

set_option maxHeartbeats 2000000 in
set_option maxRecDepth 100000 in
theorem readD_any {w : World} {S : Nat → Prop} {p : Nat} {d : DS} (h : Dk w S p d) {n : Nm} (hn : n.length ≤ 1000) :
    Calls Tryz.prog 192 #[.pointer (some ⟨p, 0, none⟩), nmV n] w (ReadDPost (dread d n) w) := by
  obtain ⟨m1, m2, cv, h⟩ := h
  have H := Lib.hid h
  have c3 := h.c3
  obtain ⟨es, hm, hz, _⟩ := h.shown
  have hhas := hz.has n
  have HM := Lib.hid hm
  have HZ := Lib.hid hz
  have HHAS := Lib.hid hhas
  have HN : Hid (n.length ≤ maxLen) := Lib.hid (maxLen_1000 hn)
  have HFS : Hid (fsz d.shown n ≤ 65536) := Lib.hid (fsz_le (fun f hf => (h.smallShown f hf).1) n)
  clear h hm hz hhas
  go_enter Tryz.func192, Tryz.ntmps192
  go_wp2_with fail
  refine (able_any H.out).mono ?_
  rintro e w ⟨rfl, rfl⟩
  cases hd : d.down
  · have HD := Lib.hid hd
    clear hd
    rw [if_neg (by decide), errV_zero]
    go_wp2_with fail
    refine (has_any c3 HM.out HN.out).mono ?_
    rintro e w ⟨rfl, rfl⟩
    rw [HHAS.out]
    cases hh : fhas d.shown n
    · have HE : Hid (dread d n = ([], 4)) := Lib.hid (by
        rw [fhas_get, Option.isSome_eq_false_iff, Option.isNone_iff_eq_none] at hh
        unfold dread
        rw [HD.out, hh]
        rfl)
      clear hh
      go_wp2
      go_ret2
      unfold ReadDPost
      rw [HE.out, ← errV_if 4 (by decide)]
      exact ⟨_, rfl, owns_nil _ _ _ _, Below.refl _ _⟩
    · have HE : Hid (dread d n = ((fget d.shown n).getD [], 0)) := Lib.hid (by
        rw [fhas_get] at hh
        obtain ⟨t, ht⟩ := Option.isSome_iff_exists.1 hh
        unfold dread
        rw [HD.out, ht]
        rfl)
      clear hh
      go_wp2_with fail
      refine (dtext_any c3 HM.out HZ.out HN.out (Nat.le_trans HFS.out (by decide))).mono ?_
      rintro e w2 ⟨v, rfl, ho, hb⟩
      have HO := Lib.hid ho
      have HB := Lib.hid hb
      obtain ⟨ao, cap, rfl, _, _, _⟩ := ho.reads.val
      clear ho hb
      go_wp2
      go_ret2
      unfold ReadDPost
      rw [HE.out]
      exact ⟨_, rfl, HO.out, HB.out⟩
  · have HE : Hid (dread d n = ([], 14)) := Lib.hid (by unfold dread; rw [if_pos hd])
    clear hd
    rw [if_pos rfl, ← errV_if 14 (by decide)]
    go_wp2
    go_ret2
    unfold ReadDPost
    rw [HE.out, ← errV_if 14 (by decide)]
    exact ⟨_, rfl, owns_nil _ _ _ _, Below.refl _ _⟩

end Go.Proofs.YtlckadlkgjfjcaaGreatDoor
