/- The names of files in memory, sorted: the contracts of names. -/
import Derived.Test.YtmjpckodcafjiaaGreatSrtK
namespace Go.Proofs.YtmjpckodcafjiaaGreat
open Go.RowKit Go.Maps Go.Sort Go.Shelf

/-- slices.Sort's two contracts here, at the fence that asks nothing. -/
theorem sortsA (m : Nat) : AnyZ.SortsIn Tryz.prog Tryz.sortedA_ren Fence.wide m :=
  ⟨fun blk off cap ss W hH hblk hsz => callsIn_wide.2 (AnyM.slices_Sort_string Tryz.sortA blk off cap ss W hH hblk hsz),
   fun p cap W => callsIn_wide.2 (AnyM.slices_Sort_string_none Tryz.sortA p cap W)⟩

/-- Names, as a slice of strings: sorted. -/
def srt (ns : List Nm) : List Nm := ns.mergeSort fun x y => decide (x ≤ y)
def NmsO (w : World) (base : Nat) (v : Value) (ns : List Nm) : Prop := w.ownsRow base 9 1 v ns.length (ns.map nmV)
theorem strKeys_ent (es : Fm Value) : strKeys (DataW.map (es.map ent)) = es.map (·.1) := by
  unfold strKeys
  simp only [List.map_map]
  rfl
theorem encStr_nm : (Go.Proofs.encStr : List UInt8 → Value) = nmV := rfl

set_option maxHeartbeats 1000000 in
set_option maxRecDepth 100000 in
theorem names_seq {w : World} {p o : Nat} {mb : Option Nat} {N : Nat} {S : List (List UInt8) → Prop} {R : List Nm} (hc : w.cell? ⟨p, o, none⟩ = some (.map mb)) (hl : N ≤ 1000000000)
    (hseq : SeqGives Fence.wide 2 Tryz.prog 92 #[.pointer (some ⟨w.heap.size, 0, none⟩)] encStr S N (w.alloc (.cells #[.map mb] 68))) (hS : ∀ ss, S ss → srt ss = R ∧ ss.length = R.length) :
    Calls Tryz.prog 67 #[.pointer (some ⟨p, o, none⟩)] w fun e w' => ∃ v, e = .returned v ∧ NmsO w' w.heap.size v R ∧ Below w.heap.size w w' := by
  refine (callsIn_wide (n := 6)).1 ?_
  have cK : ∀ mb W, CallsIn Fence.wide 5 Tryz.prog 85 #[.map mb] W fun e w' => e = .returned (.func (.func 92) #[] #[.pointer (some ⟨W.heap.size, 0, none⟩)]) ∧ w' = W.alloc (.cells #[.map mb] 68) := fun mb W => AnyZ.keys_in Tryz.keysA Fence.wide 5 trivial rfl mb W
  have cS := AnyZ.sorted_in Tryz.sortedA Fence.wide 5 trivial trivial trivial trivial rfl (by omega) (sortsA _) (enters_of Tryz.func91 (by kernel_rfl) rfl) 92 #[.pointer (some ⟨w.heap.size, 0, none⟩)] trivial (enters_of Tryz.func92 (by kernel_rfl) rfl) _ N (by simp only [maxLen]; omega) (by omega) _ hseq
  change CallsIn _ _ Tryz.prog 84 _ _ _ at cS
  have hfK : Fence.wide.fn 85 := trivial
  have hfS : Fence.wide.fn 84 := trivial
  refine callsIn_of_wp Tryz.func67 rfl trivial ?_ rfl
  simp only [Tryz.ntmps67, List.size_toArray, List.length_cons, List.length_nil, Nat.reduceAdd, Nat.reduceSub, Array.replicate_succ, Array.replicate_zero, List.push_toArray, List.append_toArray, List.nil_append, List.cons_append]
  gi_wp2_with (first
    | (gi_at_call 85; refine (cK _ _).mono ?_; rintro e w' ⟨rfl, rfl⟩)
    | (gi_at_call 84; refine cS.mono ?_; rintro e w' ⟨v, ss, rfl, hSs, hrow, hnil, hb⟩))
  go_ret
  obtain ⟨h1, h2⟩ := hS ss hSs
  refine ⟨v, rfl, ?_, ((Below.refl _ w).alloc (Nat.le_refl _) _).trans (hb.mono (by simp))⟩
  have h3 := ownsRow_base_a hrow (by simp : w.heap.size ≤ _)
  unfold NmsO
  rw [← h1, show (srt ss).length = ss.length by rw [h1, h2]]
  exact h3

theorem srt_perm {a b : List Nm} (h : a.Perm b) : srt a = srt b := mergeSort_of_perm h
theorem srt_length (a : List Nm) : (srt a).length = a.length := List.length_mergeSort a

set_option maxHeartbeats 1000000 in
set_option maxRecDepth 100000 in
theorem names_any {w : World} {p o : Nat} {mb : Option Nat} {es : Fm Value} (hc : w.cell? ⟨p, o, none⟩ = some (.map mb)) (hm : MapV w mb es) (hl : es.length ≤ 1000000000) :
    Calls Tryz.prog 67 #[.pointer (some ⟨p, o, none⟩)] w fun e w' => ∃ v, e = .returned v ∧ NmsO w' w.heap.size v (srt (es.map (·.1))) ∧ Below w.heap.size w w' := by
  cases mb with
  | none =>
    obtain rfl : es = [] := hm
    have hseq : SeqGives Fence.wide 2 Tryz.prog 92 #[.pointer (some ⟨w.heap.size, 0, none⟩)] encStr (fun ss : List (List UInt8) => ss = []) 0 (w.alloc (.cells #[.map none] 68)) :=
      AnyZ.keys_gives_nil (ρ := Tryz.keysA_ren) { Tryz.keysA with } Fence.wide _ trivial rfl w.heap.size _ (by simp) (by simp)
    exact names_seq hc (by omega) hseq fun ss h => by subst h; exact ⟨rfl, by rw [srt_length]; rfl⟩
  | some b =>
    have hm' : w.ownsMap Tryz.prog 9 hv b es.length (.map (es.map ent)) := hm
    have hbl := hm'.lt
    have hseq : SeqGives Fence.wide 2 Tryz.prog 92 #[.pointer (some ⟨w.heap.size, 0, none⟩)] encStr (fun ss => ss.Perm (strKeys (DataW.map (es.map ent)))) (Maps.size (DataW.map (es.map ent))) (w.alloc (.cells #[.map (some b)] 68)) :=
      AnyZ.keys_gives (ρ := Tryz.keysA_ren) { Tryz.keysA with } Fence.wide _ trivial rfl (by omega) w.heap.size b es.length _ _ (by simp) (by simp) (by
        obtain ⟨es', clock, hb, Ft, hs, hD⟩ := hm'
        exact ⟨es', clock, (Below.heap_alloc _ _ b hbl).trans hb, Ft, hs, hD⟩)
    refine names_seq hc (by simp only [Maps.size, List.length_map]; exact hl) hseq fun ss h => ?_
    rw [strKeys_ent] at h
    exact ⟨srt_perm h, by rw [srt_length, h.length_eq]⟩

end Go.Proofs.YtmjpckodcafjiaaGreat
