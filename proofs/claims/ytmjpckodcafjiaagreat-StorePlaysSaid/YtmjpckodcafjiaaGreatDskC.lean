/- Files in memory: the contracts of put and take. -/
import Derived.Test.YtmjpckodcafjiaaGreatDskB
import Derived.StillTailTactics
import Derived.WalkSpells
namespace Go.Proofs.YtmjpckodcafjiaaGreat
open Go.RowKit

/-- S, and what was made since. -/
def Ext (S : Nat → Prop) (w w' : World) : Nat → Prop := fun j => S j ∨ (w.heap.size ≤ j ∧ j < w'.heap.size)

/-- What is done to files that lie at place o of a disk's block. -/
structure FilesDone (S : Nat → Prop) (p o : Nat) (mb : Option Nat) (cs : Array Value) (l' : Fm (List Nat)) (w w' : World) (mb' : Option Nat) : Prop where
  blk : w'.heap[p]? = some (.cells ((cs.setIfInBounds o (.map mb')).setIfInBounds (o + 1) (.int .i64 (tot l' : Int))) 73 (0, 0))
  tm : TM w' (Ext S w w') mb' l'
  fr : Fr (fun j => j = p ∨ mb = some j) w w'
  mb : mb' = mb ∨ ∃ b, mb' = some b ∧ w.heap.size ≤ b

theorem typ_not_map {w : World} {S : Nat → Prop} {e : TypeId} {b : Nat} (h : ∃ es c, w.heap[b]? = some (.map es c)) : ¬ Typ w S e b := by
  rintro ⟨_, cs, hc⟩
  obtain ⟨es, c, h⟩ := h
  rw [h] at hc
  cases hc
theorem typ_not_other {w : World} {S : Nat → Prop} {e e' : TypeId} {b : Nat} {cs : Array Value} (h : w.heap[b]? = some (.cells cs e' (0, 0))) (hne : e' ≠ e) : ¬ Typ w S e b := by
  rintro ⟨_, cs', hc⟩
  rw [h] at hc
  cases hc
  exact hne rfl

theorem w64_id {n : Int} (h : -9223372036854775808 ≤ n) (h2 : n ≤ 9223372036854775807) : wrap64 n = n := by simp only [wrap64]; omega
theorem sz_wrap {a b c d : Nat} (h : a < 4611686018427387904) (hb : b < 4611686018427387904) (hc : d + c = a + b) : wrap64 ((a : Int) + wrap64 ((b : Int) - (c : Int))) = (d : Int) := by
  rw [w64_id (n := (b : Int) - (c : Int)) (by omega) (by omega), w64_id (by omega) (by omega)]
  omega

set_option maxHeartbeats 1000000 in
set_option maxRecDepth 100000 in
theorem put_some {w : World} {S : Nat → Prop} {p o b : Nat} {cs : Array Value} {l : Fm (List Nat)} (hp : w.heap[p]? = some (.cells cs 73 (0, 0))) (hc0 : cs[o]? = some (.map (some b))) (hc1 : cs[o + 1]? = some (.int .i64 (tot l : Int)))
    (ht : TM w S (some b) l) {n : Nm} (hn : n.length ≤ maxLen) {v : Value} {t : List Nat} (hv : At w (Typ w S 5) .u8 v t) (htl : t.length < 4611686018427387904) (htot : tot l < 4611686018427387904) (hlen : l.length < maxLen) :
    Calls Tryz.prog 78 #[.pointer (some ⟨p, o, none⟩), nmV n, v] w fun e w' => e = .returned (.tuple #[]) ∧ ∃ mb', FilesDone S p o (some b) cs (fput l n t) w w' mb' := by
  have hap := ht.apart
  obtain ⟨es, hm, hz, hSb⟩ := ht
  have hel := hz.length
  have hpb : p ≠ b := by
    rintro rfl
    obtain ⟨e, c, h⟩ := hm.obj
    rw [h] at hp
    cases hp
  have c0 : w.cell? ⟨p, o, none⟩ = some (.map (some b)) := by rw [cell_of_row w p o _ _ _ hp]; exact hc0
  have c1 : w.cell? ⟨p, o + 1, none⟩ = some (.int .i64 (tot l : Int)) := by rw [cell_of_row w p (o + 1) _ _ _ hp]; exact hc1
  have f1 : w.frozen? ⟨p, o + 1, none⟩ = false := frozen_of_row w p (o + 1) _ _ hp
  have heq := fun w => run_eql_map_nil (P := Tryz.prog) w 68 _ _ (some b) Tryz.underlying68
  obtain ⟨ao, cap, rfl, _, _, _⟩ := hv.reads.val
  have HSZ := Lib.hid (sizeOf_any (w := w.drew) (p := p) (o := o) (B := Typ w S 5) (l := l) (es := es) c0 hm hz hn)
  have HM := Lib.hid hm
  have HV := Lib.hid hv
  have HZ := Lib.hid hz
  have HP := Lib.hid hp
  have HE := Lib.hid hel
  have HPB := Lib.hid hpb
  have HSB := Lib.hid hSb
  obtain ⟨z, hzt⟩ : ∃ z, z = tot (fput l n t) := ⟨_, rfl⟩
  have hwr : wrap64 ((tot l : Int) + wrap64 ((t.length : Int) - (fsz l n : Int))) = (z : Int) := sz_wrap htot htl (by rw [hzt]; exact tot_put hap n t)
  have HZT := Lib.hid hzt
  have HAP := Lib.hid hap
  have HC1 := Lib.hid hc1
  have HC0 := Lib.hid hc0
  clear hm hv hz hp hel hpb hSb hap hzt hc0 hc1
  obtain ⟨nv, hnv⟩ : ∃ nv, nv = nmV n := ⟨_, rfl⟩
  rw [← hnv] at HSZ ⊢
  have HNV := Lib.hid hnv
  clear hnv
  go_enter Tryz.func78, Tryz.ntmps78
  go_wp2_with fail
  refine wp_region_still_tail 13 (by kernel_rfl) (by kernel_rfl) ?_
  simp only [List.take_succ_cons, List.take_zero, List.drop_succ_cons, List.drop_zero]
  repeat still_step
  still_call HSZ.out
  repeat still_step
  refine wpStill_nil ?_
  go_wp2_with (at_mapUpdate; go_must (refine wpList_mapUpdate_own _ rfl _ _ _ 68 rfl 9 41 keyed_str Tryz.underlying68 hv b es.length _ rfl (HM.out.keep (fun b' e => by cases e; exact heap_setCell_other w ⟨p, o + 1, none⟩ b _ (Ne.symm HPB.out))) (by have := HE.out; omega) _ _ _ rfl rfl (by rw [HNV.out]; exact key_nm hn) _ [] rfl ?_))
  intro w1 hown1 hgrow1
  have hfr : Fr (fun j => j = p ∨ some b = some j) w w1 := by
    refine Fr.trans (Fr.trans (fr_set w p (o + 1) (.int .i64 (z : Int))) (fr_drew _ 1 (fun j => j = p)) (U := fun j => j = p) (fun _ _ h => h) (fun _ _ h => h)) (fr_grown hgrow1) (fun _ _ h => .inl h) (fun _ _ h => .inr h.symm)
  have HFR := Lib.hid hfr
  have HO := Lib.hid hown1
  have hb1 : w1.heap[p]? = some (.cells (cs.setIfInBounds (o + 1) (.int .i64 (z : Int))) 73 (0, 0)) :=
    (hgrow1.block p (by simpa using (Array.getElem?_eq_some_iff.1 HP.out).1) (by simpa using HPB.out)).trans (heap_setCell_same w p (o + 1) _ _ _ HP.out)
  have HB := Lib.hid hb1
  clear hfr hown1 hb1 hgrow1
  go_wp2
  first | go_end0 | (simp only [Exit.inBlock, Exit.then]; refine bodyPost_ret (results_none rfl _ _ _) rfl ?_) | refine bodyPost_ret (results_none rfl _ _ _) rfl ?_
  refine ⟨rfl, some b, ?_, ?_, HFR.out, .inl rfl⟩
  · rw [HB.out, ← HZT.out]
    have e : cs.setIfInBounds o (Value.map (some b)) = cs := by
      apply Array.ext_getElem?
      intro i
      by_cases hi : i = o
      · subst hi
        rw [HC0.out, Array.getElem?_setIfInBounds_self_of_lt (Array.getElem?_eq_some_iff.1 HC0.out).1]
      · rw [Array.getElem?_setIfInBounds_ne (Ne.symm hi)]
    rw [e]
  · have hk : Kept (Typ w S 5) w w1 := HFR.out.kept _ fun j hj hT => by
      rintro (rfl | h)
      · exact typ_not_other HP.out (by decide) hT
      · cases h; exact typ_not_map HM.out.obj hT
    refine ⟨fput es n (.slice ao t.length cap), ?_, (HZ.out.mono fun a b' h => h.typ hk (fun j h => .inl h)).put n (HV.out.typ hk (fun j h => .inl h)), fun b' e => .inl (HSB.out b' e)⟩
    have := HO.out
    rw [put_ent] at this
    exact tight this

set_option maxHeartbeats 1000000 in
set_option maxRecDepth 100000 in
theorem put_none {w : World} {S : Nat → Prop} {p o : Nat} {cs : Array Value} {l : Fm (List Nat)} (hp : w.heap[p]? = some (.cells cs 73 (0, 0))) (hc0 : cs[o]? = some (.map none)) (hc1 : cs[o + 1]? = some (.int .i64 (tot l : Int)))
    (ht : TM w S none l) {n : Nm} (hn : n.length ≤ maxLen) {v : Value} {t : List Nat} (hv : At w (Typ w S 5) .u8 v t) (htl : t.length < 4611686018427387904) (htot : tot l < 4611686018427387904) :
    Calls Tryz.prog 78 #[.pointer (some ⟨p, o, none⟩), nmV n, v] w fun e w' => e = .returned (.tuple #[]) ∧ ∃ mb', FilesDone S p o none cs (fput l n t) w w' mb' := by
  have hap := ht.apart
  obtain ⟨es, hm, hz, hSb⟩ := ht
  obtain rfl : es = [] := hm
  obtain rfl : l = [] := by cases hz; rfl
  clear hz
  have hpl := (Array.getElem?_eq_some_iff.1 hp).1
  have c0 : w.cell? ⟨p, o, none⟩ = some (.map none) := by rw [cell_of_row w p o _ _ _ hp]; exact hc0
  have c1 : w.cell? ⟨p, o + 1, none⟩ = some (.int .i64 (tot [] : Int)) := by rw [cell_of_row w p (o + 1) _ _ _ hp]; exact hc1
  have c00 : (w.alloc (.map #[] 0)).cell? ⟨p, o, none⟩ = some (.map none) := (World.cell?_of_block (Below.heap_alloc _ _ _ hpl)).trans c0
  have f0 : (w.alloc (.map #[] 0)).frozen? ⟨p, o, none⟩ = false := frozen_of_row _ p o _ _ ((Below.heap_alloc _ _ _ hpl).trans hp)
  have heq := fun w => run_eql_map_nil (P := Tryz.prog) w 68 _ _ Option.none Tryz.underlying68
  have hmm := @run_makeMap Tryz.prog
  obtain ⟨ao, cap, rfl, _, _, _⟩ := hv.reads.val
  obtain ⟨z, hzt⟩ : ∃ z, z = tot (fput [] n t) := ⟨_, rfl⟩
  have hwr : wrap64 ((tot [] : Int) + wrap64 ((t.length : Int) - (fsz [] n : Int))) = (z : Int) := sz_wrap htot htl (by rw [hzt]; exact tot_put hap n t)
  obtain ⟨W1, hW1⟩ : ∃ W1, W1 = (w.alloc (.map #[] 0)).setCell ⟨p, o, none⟩ (.map (some w.heap.size)) := ⟨_, rfl⟩
  have hWp : W1.heap[p]? = some (.cells (cs.setIfInBounds o (.map (some w.heap.size))) 73 (0, 0)) := by
    rw [hW1]; exact heap_setCell_same _ p o _ _ _ (by rw [Below.heap_alloc _ _ _ hpl]; exact hp)
  have hWb : W1.heap[w.heap.size]? = some (.map #[] 0) := by
    rw [hW1, heap_setCell_other _ _ _ _ (by simp; omega)]; exact (MapKept.heap_alloc w _).1
  have ho : o < cs.size := (Array.getElem?_eq_some_iff.1 hc0).1
  have hW0 : W1.cell? ⟨p, o, none⟩ = some (.map (some w.heap.size)) := by rw [cell_of_row W1 p o _ _ _ hWp, Array.getElem?_setIfInBounds_self_of_lt ho]
  have hM1 : MapV W1 (some w.heap.size) [] := (show MapV (w.alloc (.map #[] 0)) (some w.heap.size) [] from World.ownsMap_made w _ _ _).keep fun b e => by
    cases e
    rw [hWb, (MapKept.heap_alloc w _).1]
  have HSZ := Lib.hid (sizeOf_any (w := W1.drew) (p := p) (o := o) (B := Typ w S 5) (l := []) (es := []) hW0 hM1 .nil hn)
  have HM := Lib.hid hM1
  have HV := Lib.hid hv
  have HP := Lib.hid hp
  have HZT := Lib.hid hzt
  have HWP := Lib.hid hWp
  have HPL := Lib.hid hpl
  have HW := Lib.hid hW1
  have HFRW : Hid (Fr (fun j => j = p) w W1) := Lib.hid (by rw [hW1]; exact Fr.trans (fr_alloc w _ (fun j => j = p)) (fr_set _ p o _) (fun _ _ h => h) (fun _ _ h => h))
  have HC1 := Lib.hid hc1
  have HWB := Lib.hid hWb
  clear hv hp hSb hap hzt hc0 hc1 hM1 hW0 hWp hWb hW1 hpl
  obtain ⟨nv, hnv⟩ : ∃ nv, nv = nmV n := ⟨_, rfl⟩
  rw [← hnv] at HSZ ⊢
  have HNV := Lib.hid hnv
  clear hnv
  go_enter Tryz.func78, Tryz.ntmps78
  go_wp2_with fail
  rw [← HW.out]
  have c1 : W1.cell? ⟨p, o + 1, none⟩ = some (.int .i64 (tot [] : Int)) := by rw [cell_of_row W1 p (o + 1) _ _ _ HWP.out, Array.getElem?_setIfInBounds_ne (by omega)]; exact HC1.out
  have f1 : W1.frozen? ⟨p, o + 1, none⟩ = false := frozen_of_row W1 p (o + 1) _ _ HWP.out
  have c0 : W1.cell? ⟨p, o, none⟩ = some (.map (some w.heap.size)) := by rw [cell_of_row W1 p o _ _ _ HWP.out, Array.getElem?_setIfInBounds_self_of_lt ho]
  refine wp_region_still_tail 13 (by kernel_rfl) (by kernel_rfl) ?_
  simp only [List.take_succ_cons, List.take_zero, List.drop_succ_cons, List.drop_zero]
  repeat still_step
  still_call HSZ.out
  repeat still_step
  refine wpStill_nil ?_
  go_wp2_with (at_mapUpdate; go_must (refine wpList_mapUpdate_own _ rfl _ _ _ 68 rfl 9 41 keyed_str Tryz.underlying68 hv w.heap.size 0 (.map []) rfl (HM.out.keep (fun b' e => by cases e; exact heap_setCell_other W1 ⟨p, o + 1, none⟩ _ _ (Nat.ne_of_gt HPL.out))) (by simp [maxLen]) _ _ _ rfl rfl (by rw [HNV.out]; exact key_nm hn) _ [] rfl ?_))
  intro w1 hown1 hgrow1
  have hfr : Fr (fun j => j = p ∨ Option.none = some j) w w1 := by
    refine Fr.trans (Fr.trans HFRW.out (Fr.trans (fr_set W1 p (o + 1) (.int .i64 (z : Int))) (fr_drew _ 1 (fun j => j = p)) (U := fun j => j = p) (fun _ _ h => h) (fun _ _ h => h)) (U := fun j => j = p) (fun _ _ h => h) (fun _ _ h => h)) (fr_grown hgrow1) (fun _ _ h => .inl h) (fun j hj h => by cases h; omega)
  have HFR := Lib.hid hfr
  have HO := Lib.hid hown1
  have hb1 : w1.heap[p]? = some (.cells ((cs.setIfInBounds o (.map (some w.heap.size))).setIfInBounds (o + 1) (.int .i64 (z : Int))) 73 (0, 0)) :=
    (hgrow1.block p (by simpa using (Array.getElem?_eq_some_iff.1 HWP.out).1) (by simpa using Nat.ne_of_lt HPL.out)).trans (heap_setCell_same W1 p (o + 1) _ _ _ HWP.out)
  have HB := Lib.hid hb1
  have HLT := Lib.hid (World.ownsMap.lt hown1)
  clear hfr hown1 hb1 hgrow1
  go_wp2
  first | go_end0 | (simp only [Exit.inBlock, Exit.then]; refine bodyPost_ret (results_none rfl _ _ _) rfl ?_) | refine bodyPost_ret (results_none rfl _ _ _) rfl ?_
  refine ⟨rfl, some w.heap.size, ?_, ?_, HFR.out, .inr ⟨_, rfl, Nat.le_refl _⟩⟩
  · rw [HB.out, ← HZT.out]
  · have hk : Kept (Typ w S 5) w w1 := HFR.out.kept _ fun j hj hT => by
      rintro (rfl | h)
      · exact typ_not_other HP.out (by decide) hT
      · cases h
    refine ⟨fput [] n (.slice ao t.length cap), ?_, Zip.nil.put n (HV.out.typ hk (fun j h => .inl h)), fun b' e => .inr (by cases e; exact ⟨Nat.le_refl _, HLT.out⟩)⟩
    have h := HO.out
    have e := put_ent [] n (.slice ao t.length cap)
    simp only [List.map_nil] at e
    rw [e] at h
    exact tight h

theorem put_any {w : World} {S : Nat → Prop} {p o : Nat} {mb : Option Nat} {cs : Array Value} {l : Fm (List Nat)} (hp : w.heap[p]? = some (.cells cs 73 (0, 0))) (hc0 : cs[o]? = some (.map mb)) (hc1 : cs[o + 1]? = some (.int .i64 (tot l : Int)))
    (ht : TM w S mb l) {n : Nm} (hn : n.length ≤ maxLen) {v : Value} {t : List Nat} (hv : At w (Typ w S 5) .u8 v t) (htl : t.length < 4611686018427387904) (htot : tot l < 4611686018427387904) (hlen : l.length < maxLen) :
    Calls Tryz.prog 78 #[.pointer (some ⟨p, o, none⟩), nmV n, v] w fun e w' => e = .returned (.tuple #[]) ∧ ∃ mb', FilesDone S p o mb cs (fput l n t) w w' mb' := by
  cases mb with
  | none => exact put_none hp hc0 hc1 ht hn hv htl htot
  | some b => exact put_some hp hc0 hc1 ht hn hv htl htot hlen

end Go.Proofs.YtmjpckodcafjiaaGreat
