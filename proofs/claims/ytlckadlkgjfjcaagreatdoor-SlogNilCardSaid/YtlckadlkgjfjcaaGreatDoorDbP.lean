/- A map of texts in memory: what its look-ups answer, what a store and a removal make of it. · Files in memory: the contracts of has, sizeOf, many, text. · Files in memory: the contracts of put and take. · Files in memory: the contracts of take, and of do. · Files in memory: the contract of do. · Slices of records (structs of k one-cell fields): what reads, what is owned, an append of one. Nothing of the program. · A disk in memory; the contracts of New, able, operate, Fuse, Pending, Used, Down. · A disk in memory: the contracts of New, Fuse, Pending, Used, Down, sign, Named. · Which texts are names: the program's Named, and the document's. -/
import Derived.Test.YtlckadlkgjfjcaaGreatDoorDaP
import Derived.Test.YtlckadlkgjfjcaaGreatDoorRecP
import Derived.StringKeys
import Derived.Laws.DeepNot64
import Derived.Lib.Hide
import Derived.StillTailTactics
import Derived.WalkSpells
import Derived.Maps.OwnSet
import Derived.Deep.RegionHeld3
import Derived.Maps.AppendAt
namespace Go.Proofs.YtlckadlkgjfjcaaGreatDoor
open Go.RowKit
open Go.Maps (Keyed)

abbrev hv : Value → Option (DataW Value × List MemPlace) := fun v => some (.held v, [])
def ent (f : Nm × Value) : Lit × DataW Value := (.string f.1, .held f.2)
def nmV (n : Nm) : Value := .string ⟨n.toArray⟩
theorem keyed_str : Keyed Tryz.prog 9 := Maps.string_keyed Tryz.underlying9
theorem key_nm {n : Nm} (hn : n.length ≤ maxLen) : keyOf Tryz.prog 9 (nmV n) = some (.string n) := by
  have h := WideMaps.keyOf_string_mk (P := Tryz.prog) (k := 9) Tryz.underlying9 (s := ⟨n.toArray⟩) (by simpa [ByteArray.size] using hn)
  simpa [nmV] using h

theorem insert_ent (n : Nm) (v : Value) : ∀ es : Fm Value, DataW.insert (.string n, .held v) (es.map ent) = (fins n v es).map ent
  | [] => rfl
  | x :: r => by
    unfold fins
    simp only [List.map_cons, DataW.insert]
    have e : Lit.before (.string n) (ent x).1 = bytesBefore n x.1 := rfl
    rw [e]
    split
    · rfl
    · simp only [List.map_cons]; rw [insert_ent n v r]
theorem filter_ent (n : Nm) (es : Fm Value) : (es.map ent).filter (fun p => !p.1.sameKey (.string n)) = (fdel es n).map ent := by
  unfold fdel
  rw [List.filter_map]
  rfl
theorem put_ent (es : Fm Value) (n : Nm) (v : Value) : DataW.put (.map (es.map ent)) (.string n) (.held v) = .map ((fput es n v).map ent) := by
  unfold DataW.put fput
  simp only
  rw [filter_ent, insert_ent]
theorem del_ent (es : Fm Value) (n : Nm) : DataW.del (.map (es.map ent)) (.string n) = .map ((fdel es n).map ent) := by
  unfold DataW.del
  simp only
  rw [filter_ent]
theorem atKey_ent (es : Fm Value) (n : Nm) (z : Value) : DataW.atKey (.map (es.map ent)) (.string n) (.held z) = .held ((fget es n).getD z) := by
  unfold DataW.atKey fget
  simp only
  rw [List.find?_map]
  have e : ((fun p : Lit × DataW Value => p.1.sameKey (.string n)) ∘ ent) = fun f : Nm × Value => f.1 == n := rfl
  rw [e]
  cases es.find? (fun f => f.1 == n) <;> rfl
theorem has_ent (es : Fm Value) (n : Nm) : Maps.has (.map (es.map ent)) (.string n) = fhas es n := by
  rw [Maps.has_eq]
  unfold fhas
  rw [List.any_map]
  rfl

/-- The map value holds these entries. -/
def MapV (w : World) (mb : Option Nat) (es : Fm Value) : Prop :=
  match mb with
  | none => es = []
  | some b => w.ownsMap Tryz.prog 9 hv b es.length (.map (es.map ent))
theorem MapV.zero (w : World) : (zeroValue 22).run Tryz.prog w = .ok (.slice none 0 0) w := by kernel_rfl
theorem MapV.lt {w : World} {b : Nat} {es : Fm Value} (h : MapV w (some b) es) : b < w.heap.size := World.ownsMap.lt h
theorem MapV.look {w : World} {mb : Option Nat} {es : Fm Value} (h : MapV w mb es) {n : Nm} (hn : n.length ≤ maxLen) :
    (Instr.lookup 128 (.map mb) (nmV n) false).run Tryz.prog w = .ok ((fget es n).getD (.slice none 0 0)) w := by
  cases mb with
  | none =>
    obtain rfl : es = [] := h
    exact Maps.look_nil false keyed_str Tryz.underlying128 (MapV.zero w) (key_nm hn)
  | some b =>
    obtain ⟨v, ps, hr, hd⟩ := World.ownsMap.lookup h keyed_str Tryz.underlying128 (MapV.zero w) (zd := .held (.slice none 0 0)) (zp := []) rfl (key_nm hn)
    rw [atKey_ent] at hd
    have e : v = (fget es n).getD (.slice none 0 0) := by cases hd; rfl
    rw [hr, e]
theorem MapV.lookOk {w : World} {mb : Option Nat} {es : Fm Value} (h : MapV w mb es) {n : Nm} (hn : n.length ≤ maxLen) :
    (Instr.lookup 128 (.map mb) (nmV n) true).run Tryz.prog w = .ok (.tuple #[(fget es n).getD (.slice none 0 0), .bool (fhas es n)]) w := by
  cases mb with
  | none =>
    obtain rfl : es = [] := h
    exact Maps.look_nil true keyed_str Tryz.underlying128 (MapV.zero w) (key_nm hn)
  | some b =>
    obtain ⟨v, ps, hr, hd⟩ := World.ownsMap.look_ok h keyed_str Tryz.underlying128 (MapV.zero w) (zd := .held (.slice none 0 0)) (zp := []) rfl (key_nm hn)
    rw [atKey_ent] at hd
    rw [has_ent] at hr
    have e : v = (fget es n).getD (.slice none 0 0) := by cases hd; rfl
    rw [hr, e]
theorem MapV.len {w : World} {mb : Option Nat} {es : Fm Value} (h : MapV w mb es) (ty : TypeId) : (Builtin.len_ #[128] ty #[.map mb]).run Tryz.prog w = .ok (.int .i64 (es.length : Int)) w := by
  cases mb with
  | none =>
    obtain rfl : es = [] := h
    exact Maps.len_nil Tryz.underlying128 ty
  | some b =>
    have := World.ownsMap.len h Tryz.underlying128 ty
    rw [this]
    simp [Maps.size]
theorem MapV.apart {w : World} {mb : Option Nat} {es : Fm Value} (h : MapV w mb es) : Apart es := by
  cases mb with
  | none =>
    obtain rfl : es = [] := h
    exact List.Pairwise.nil
  | some b =>
    obtain ⟨l, hl, hp⟩ := World.ownsMap.tidy h keyed_str
    cases hl
    have := List.pairwise_map.1 hp
    exact this.imp fun {a b} hab e => hab (by unfold ent; rw [e])
theorem MapV.keep {w w' : World} {mb : Option Nat} {es : Fm Value} (h : MapV w mb es) (hk : ∀ b, mb = some b → w'.heap[b]? = w.heap[b]?) : MapV w' mb es := by
  cases mb with
  | none => exact h
  | some b =>
    obtain ⟨e, c, hb, r⟩ := h
    exact ⟨e, c, (hk b rfl).trans hb, r⟩
theorem MapV.obj {w : World} {b : Nat} {es : Fm Value} (h : MapV w (some b) es) : ∃ e c, w.heap[b]? = some (.map e c) := by
  obtain ⟨e, c, hb, _⟩ := h
  exact ⟨e, c, hb⟩
theorem tight {w : World} {b n : Nat} {es : Fm Value} (h : w.ownsMap Tryz.prog 9 hv b n (.map (es.map ent))) : MapV w (some b) es := by
  obtain ⟨e, c, hb, F, _, hD⟩ := h
  refine ⟨e, c, hb, F, ?_, hD⟩
  have := congrArg Maps.size hD
  simp [Maps.size, length_sorted] at this
  omega

end Go.Proofs.YtlckadlkgjfjcaaGreatDoor

namespace Go.Proofs.YtlckadlkgjfjcaaGreatDoor
open Go.RowKit

/-- A map of texts in memory; all its blocks are of S. -/
def TM (w : World) (S : Nat → Prop) (mb : Option Nat) (l : Fm (List Nat)) : Prop :=
  ∃ es, MapV w mb es ∧ Zip (At w (Typ w S 5) .u8) es l ∧ ∀ b, mb = some b → S b

theorem TM.apart {w : World} {S : Nat → Prop} {mb : Option Nat} {l : Fm (List Nat)} (h : TM w S mb l) : Apart l := by
  obtain ⟨es, hm, hz, _⟩ := h
  exact hm.apart.zip hz
/-- What is kept: the map's block, and the blocks of bytes. -/
theorem TM.keep {w w' : World} {S S' : Nat → Prop} {mb : Option Nat} {l : Fm (List Nat)} (h : TM w S mb l) (hk : Kept (Typ w S 5) w w') (hb : ∀ b, mb = some b → w'.heap[b]? = w.heap[b]?) (hs : ∀ j, S j → S' j) : TM w' S' mb l := by
  obtain ⟨es, hm, hz, hS⟩ := h
  exact ⟨es, hm.keep hb, hz.mono fun a b hat => hat.typ hk hs, fun b e => hs b (hS b e)⟩
theorem TM.lt {w : World} {S : Nat → Prop} {b : Nat} {l : Fm (List Nat)} (h : TM w S (some b) l) : b < w.heap.size := by
  obtain ⟨es, hm, _⟩ := h
  exact hm.lt
theorem TM.obj {w : World} {S : Nat → Prop} {b : Nat} {l : Fm (List Nat)} (h : TM w S (some b) l) : ∃ e c, w.heap[b]? = some (.map e c) := by
  obtain ⟨es, hm, _⟩ := h
  exact hm.obj

set_option maxHeartbeats 400000 in
set_option maxRecDepth 100000 in
theorem has_any {w : World} {p o : Nat} {mb : Option Nat} {es : Fm Value} (hc : w.cell? ⟨p, o, none⟩ = some (.map mb)) (hm : MapV w mb es) {n : Nm} (hn : n.length ≤ maxLen) :
    Calls Tryz.prog 128 #[.pointer (some ⟨p, o, none⟩), nmV n] w fun e w' => e = .returned (.bool (fhas es n)) ∧ w' = w := by
  have hl := hm.lookOk hn
  unfold nmV at hl ⊢
  go_enter Tryz.func128, Tryz.ntmps128
  go_wp2
  go_ret
  exact ⟨rfl, rfl⟩

set_option maxHeartbeats 400000 in
set_option maxRecDepth 100000 in
theorem dmany_any {w : World} {p o : Nat} {mb : Option Nat} {es : Fm Value} (hc : w.cell? ⟨p, o, none⟩ = some (.map mb)) (hm : MapV w mb es) :
    Calls Tryz.prog 308 #[.pointer (some ⟨p, o, none⟩)] w fun e w' => e = .returned (.int .i64 (es.length : Int)) ∧ w' = w := by
  have hl := fun ty => hm.len ty
  go_enter Tryz.func308, Tryz.ntmps308
  go_wp2
  go_ret
  exact ⟨rfl, rfl⟩

/-- What a look-up hands back reads as what stands there. -/
theorem zip_val {w : World} {B : Nat → Prop} {es : Fm Value} {l : Fm (List Nat)} (hz : Zip (At w B .u8) es l) (n : Nm) : At w B .u8 ((fget es n).getD (.slice none 0 0)) ((fget l n).getD []) := by
  rcases hz.get n with ⟨h1, h2⟩ | ⟨a, b, h1, h2, h⟩
  · rw [h1, h2]
    exact ⟨⟨none, 0, rfl, by simp, by simp [maxLen], fun _ => rfl, .inl rfl⟩, .inl rfl⟩
  · rw [h1, h2]; exact h

set_option maxHeartbeats 400000 in
set_option maxRecDepth 100000 in
theorem sizeOf_any {w : World} {p o : Nat} {mb : Option Nat} {es : Fm Value} {l : Fm (List Nat)} {B : Nat → Prop} (hc : w.cell? ⟨p, o, none⟩ = some (.map mb)) (hm : MapV w mb es) (hz : Zip (At w B .u8) es l) {n : Nm} (hn : n.length ≤ maxLen) :
    Calls Tryz.prog 179 #[.pointer (some ⟨p, o, none⟩), nmV n] w fun e w' => e = .returned (.int .i64 (fsz l n : Int)) ∧ w' = w := by
  have hl := hm.look hn
  obtain ⟨ao, cap, hv, _, _, _⟩ := (zip_val hz n).reads.val
  rw [hv] at hl
  unfold nmV at hl ⊢
  clear hv
  go_enter Tryz.func179, Tryz.ntmps179
  go_wp2
  go_ret
  exact ⟨rfl, rfl⟩

set_option maxHeartbeats 400000 in
set_option maxRecDepth 100000 in
theorem dtext_any {w : World} {p o : Nat} {mb : Option Nat} {es : Fm Value} {l : Fm (List Nat)} {B : Nat → Prop} (hc : w.cell? ⟨p, o, none⟩ = some (.map mb)) (hm : MapV w mb es) (hz : Zip (At w B .u8) es l) {n : Nm} (hn : n.length ≤ maxLen)
    (hx : fsz l n ≤ 100000000) :
    Calls Tryz.prog 253 #[.pointer (some ⟨p, o, none⟩), nmV n] w fun e w' => ∃ v', e = .returned v' ∧ Owns w' w.heap.size 5 .u8 v' ((fget l n).getD []) ∧ Below w.heap.size w w' := by
  have hl := hm.look hn
  have hr := (zip_val hz n).reads
  obtain ⟨v, hv⟩ : ∃ v, v = (fget es n).getD (.slice none 0 0) := ⟨_, rfl⟩
  rw [← hv] at hl hr
  have hcl := clone_any v _ w hr (by unfold fsz at hx; omega)
  have HC := Lib.hid hcl
  clear hv hr hcl
  unfold nmV at hl ⊢
  go_enter Tryz.func253, Tryz.ntmps253
  go_wp2_with fail
  refine HC.out.mono ?_
  rintro e w' ⟨v', rfl, ho, hb⟩
  obtain ⟨ao, cap, rfl, _, _, _⟩ := ho.reads.val
  go_wp2
  go_ret
  exact ⟨_, rfl, ho, hb⟩

end Go.Proofs.YtlckadlkgjfjcaaGreatDoor

namespace Go.Proofs.YtlckadlkgjfjcaaGreatDoor
open Go.RowKit

/-- S, and what was made since. -/
def Ext (S : Nat → Prop) (w w' : World) : Nat → Prop := fun j => S j ∨ (w.heap.size ≤ j ∧ j < w'.heap.size)

/-- What is done to files that lie at place o of a disk's block. -/
structure FilesDone (S : Nat → Prop) (p o : Nat) (mb : Option Nat) (cs : Array Value) (l' : Fm (List Nat)) (w w' : World) (mb' : Option Nat) : Prop where
  blk : w'.heap[p]? = some (.cells ((cs.setIfInBounds o (.map mb')).setIfInBounds (o + 1) (.int .i64 (tot l' : Int))) 133 (0, 0))
  tm : TM w' (Ext S w w') mb' l'
  fr : Fr (fun j => j = p ∨ mb = some j) w w'
  mb : mb' = mb ∨ ∃ b, mb' = some b ∧ w.heap.size ≤ b

theorem typ_not_map {w : World} {S : Nat → Prop} {e : TypeId} {b : Nat} (h : ∃ es c, w.heap[b]? = some (.map es c)) : ¬ Typ w S e b := by
  rintro ⟨_, cs, hc⟩
  obtain ⟨es, c, h⟩ := h
  rw [h] at hc
  cases hc
theorem typ_not_other {w : World} {S : Nat → Prop} {e e' : TypeId} {b : Nat} {cs : Array Value} (h : w.heap[b]? = some (.cells cs e' (0, 0))) (hne : e' ≠ e) : ¬ Typ w S e b := by
  rintro ⟨_, cs', hc⟩
  rw [h] at hc
  cases hc
  exact hne rfl

theorem w64_id {n : Int} (h : -9223372036854775808 ≤ n) (h2 : n ≤ 9223372036854775807) : wrap64 n = n := by simp only [wrap64]; omega
theorem sz_wrap {a b c d : Nat} (h : a < 4611686018427387904) (hb : b < 4611686018427387904) (hc : d + c = a + b) : wrap64 ((a : Int) + wrap64 ((b : Int) - (c : Int))) = (d : Int) := by
  rw [w64_id (n := (b : Int) - (c : Int)) (by omega) (by omega), w64_id (by omega) (by omega)]
  omega

set_option maxHeartbeats 1000000 in
set_option maxRecDepth 100000 in
theorem put_some {w : World} {S : Nat → Prop} {p o b : Nat} {cs : Array Value} {l : Fm (List Nat)} (hp : w.heap[p]? = some (.cells cs 133 (0, 0))) (hc0 : cs[o]? = some (.map (some b))) (hc1 : cs[o + 1]? = some (.int .i64 (tot l : Int)))
    (ht : TM w S (some b) l) {n : Nm} (hn : n.length ≤ maxLen) {v : Value} {t : List Nat} (hv : At w (Typ w S 5) .u8 v t) (htl : t.length < 4611686018427387904) (htot : tot l < 4611686018427387904) (hlen : l.length < maxLen) :
    Calls Tryz.prog 127 #[.pointer (some ⟨p, o, none⟩), nmV n, v] w fun e w' => e = .returned (.tuple #[]) ∧ ∃ mb', FilesDone S p o (some b) cs (fput l n t) w w' mb' := by
  have hap := ht.apart
  obtain ⟨es, hm, hz, hSb⟩ := ht
  have hel := hz.length
  have hpb : p ≠ b := by
    rintro rfl
    obtain ⟨e, c, h⟩ := hm.obj
    rw [h] at hp
    cases hp
  have c0 : w.cell? ⟨p, o, none⟩ = some (.map (some b)) := by rw [cell_of_row w p o _ _ _ hp]; exact hc0
  have c1 : w.cell? ⟨p, o + 1, none⟩ = some (.int .i64 (tot l : Int)) := by rw [cell_of_row w p (o + 1) _ _ _ hp]; exact hc1
  have f1 : w.frozen? ⟨p, o + 1, none⟩ = false := frozen_of_row w p (o + 1) _ _ hp
  have heq := fun w => run_eql_map_nil (P := Tryz.prog) w 128 _ _ (some b) Tryz.underlying128
  obtain ⟨ao, cap, rfl, _, _, _⟩ := hv.reads.val
  have HSZ := Lib.hid (sizeOf_any (w := w.drew) (p := p) (o := o) (B := Typ w S 5) (l := l) (es := es) c0 hm hz hn)
  have HM := Lib.hid hm
  have HV := Lib.hid hv
  have HZ := Lib.hid hz
  have HP := Lib.hid hp
  have HE := Lib.hid hel
  have HPB := Lib.hid hpb
  have HSB := Lib.hid hSb
  obtain ⟨z, hzt⟩ : ∃ z, z = tot (fput l n t) := ⟨_, rfl⟩
  have hwr : wrap64 ((tot l : Int) + wrap64 ((t.length : Int) - (fsz l n : Int))) = (z : Int) := sz_wrap htot htl (by rw [hzt]; exact tot_put hap n t)
  have HZT := Lib.hid hzt
  have HAP := Lib.hid hap
  have HC1 := Lib.hid hc1
  have HC0 := Lib.hid hc0
  clear hm hv hz hp hel hpb hSb hap hzt hc0 hc1
  obtain ⟨nv, hnv⟩ : ∃ nv, nv = nmV n := ⟨_, rfl⟩
  rw [← hnv] at HSZ ⊢
  have HNV := Lib.hid hnv
  clear hnv
  go_enter Tryz.func127, Tryz.ntmps127
  go_wp2_with fail
  refine wp_region_still_tail 13 (by kernel_rfl) (by kernel_rfl) ?_
  simp only [List.take_succ_cons, List.take_zero, List.drop_succ_cons, List.drop_zero]
  repeat still_step
  still_call HSZ.out
  repeat still_step
  refine wpStill_nil ?_
  go_wp2_with (at_mapUpdate; go_must (refine wpList_mapUpdate_own _ rfl _ _ _ 128 rfl 9 22 keyed_str Tryz.underlying128 hv b es.length _ rfl (HM.out.keep (fun b' e => by cases e; exact heap_setCell_other w ⟨p, o + 1, none⟩ b _ (Ne.symm HPB.out))) (by have := HE.out; omega) _ _ _ rfl rfl (by rw [HNV.out]; exact key_nm hn) _ [] rfl ?_))
  intro w1 hown1 hgrow1
  have hfr : Fr (fun j => j = p ∨ some b = some j) w w1 := by
    refine Fr.trans (Fr.trans (fr_set w p (o + 1) (.int .i64 (z : Int))) (fr_drew _ 1 (fun j => j = p)) (U := fun j => j = p) (fun _ _ h => h) (fun _ _ h => h)) (fr_grown hgrow1) (fun _ _ h => .inl h) (fun _ _ h => .inr h.symm)
  have HFR := Lib.hid hfr
  have HO := Lib.hid hown1
  have hb1 : w1.heap[p]? = some (.cells (cs.setIfInBounds (o + 1) (.int .i64 (z : Int))) 133 (0, 0)) :=
    (hgrow1.block p (by simpa using (Array.getElem?_eq_some_iff.1 HP.out).1) (by simpa using HPB.out)).trans (heap_setCell_same w p (o + 1) _ _ _ HP.out)
  have HB := Lib.hid hb1
  clear hfr hown1 hb1 hgrow1
  go_wp2
  first | go_end0 | (simp only [Exit.inBlock, Exit.then]; refine bodyPost_ret (results_none rfl _ _ _) rfl ?_) | refine bodyPost_ret (results_none rfl _ _ _) rfl ?_
  refine ⟨rfl, some b, ?_, ?_, HFR.out, .inl rfl⟩
  · rw [HB.out, ← HZT.out]
    have e : cs.setIfInBounds o (Value.map (some b)) = cs := by
      apply Array.ext_getElem?
      intro i
      by_cases hi : i = o
      · subst hi
        rw [HC0.out, Array.getElem?_setIfInBounds_self_of_lt (Array.getElem?_eq_some_iff.1 HC0.out).1]
      · rw [Array.getElem?_setIfInBounds_ne (Ne.symm hi)]
    rw [e]
  · have hk : Kept (Typ w S 5) w w1 := HFR.out.kept _ fun j hj hT => by
      rintro (rfl | h)
      · exact typ_not_other HP.out (by decide) hT
      · cases h; exact typ_not_map HM.out.obj hT
    refine ⟨fput es n (.slice ao t.length cap), ?_, (HZ.out.mono fun a b' h => h.typ hk (fun j h => .inl h)).put n (HV.out.typ hk (fun j h => .inl h)), fun b' e => .inl (HSB.out b' e)⟩
    have := HO.out
    rw [put_ent] at this
    exact tight this

set_option maxHeartbeats 1000000 in
set_option maxRecDepth 100000 in
theorem put_none {w : World} {S : Nat → Prop} {p o : Nat} {cs : Array Value} {l : Fm (List Nat)} (hp : w.heap[p]? = some (.cells cs 133 (0, 0))) (hc0 : cs[o]? = some (.map none)) (hc1 : cs[o + 1]? = some (.int .i64 (tot l : Int)))
    (ht : TM w S none l) {n : Nm} (hn : n.length ≤ maxLen) {v : Value} {t : List Nat} (hv : At w (Typ w S 5) .u8 v t) (htl : t.length < 4611686018427387904) (htot : tot l < 4611686018427387904) :
    Calls Tryz.prog 127 #[.pointer (some ⟨p, o, none⟩), nmV n, v] w fun e w' => e = .returned (.tuple #[]) ∧ ∃ mb', FilesDone S p o none cs (fput l n t) w w' mb' := by
  have hap := ht.apart
  obtain ⟨es, hm, hz, hSb⟩ := ht
  obtain rfl : es = [] := hm
  obtain rfl : l = [] := by cases hz; rfl
  clear hz
  have hpl := (Array.getElem?_eq_some_iff.1 hp).1
  have c0 : w.cell? ⟨p, o, none⟩ = some (.map none) := by rw [cell_of_row w p o _ _ _ hp]; exact hc0
  have c1 : w.cell? ⟨p, o + 1, none⟩ = some (.int .i64 (tot [] : Int)) := by rw [cell_of_row w p (o + 1) _ _ _ hp]; exact hc1
  have c00 : (w.alloc (.map #[] 0)).cell? ⟨p, o, none⟩ = some (.map none) := (World.cell?_of_block (Below.heap_alloc _ _ _ hpl)).trans c0
  have f0 : (w.alloc (.map #[] 0)).frozen? ⟨p, o, none⟩ = false := frozen_of_row _ p o _ _ ((Below.heap_alloc _ _ _ hpl).trans hp)
  have heq := fun w => run_eql_map_nil (P := Tryz.prog) w 128 _ _ Option.none Tryz.underlying128
  have hmm := @run_makeMap Tryz.prog
  obtain ⟨ao, cap, rfl, _, _, _⟩ := hv.reads.val
  obtain ⟨z, hzt⟩ : ∃ z, z = tot (fput [] n t) := ⟨_, rfl⟩
  have hwr : wrap64 ((tot [] : Int) + wrap64 ((t.length : Int) - (fsz [] n : Int))) = (z : Int) := sz_wrap htot htl (by rw [hzt]; exact tot_put hap n t)
  obtain ⟨W1, hW1⟩ : ∃ W1, W1 = (w.alloc (.map #[] 0)).setCell ⟨p, o, none⟩ (.map (some w.heap.size)) := ⟨_, rfl⟩
  have hWp : W1.heap[p]? = some (.cells (cs.setIfInBounds o (.map (some w.heap.size))) 133 (0, 0)) := by
    rw [hW1]; exact heap_setCell_same _ p o _ _ _ (by rw [Below.heap_alloc _ _ _ hpl]; exact hp)
  have hWb : W1.heap[w.heap.size]? = some (.map #[] 0) := by
    rw [hW1, heap_setCell_other _ _ _ _ (by simp; omega)]; exact (MapKept.heap_alloc w _).1
  have ho : o < cs.size := (Array.getElem?_eq_some_iff.1 hc0).1
  have hW0 : W1.cell? ⟨p, o, none⟩ = some (.map (some w.heap.size)) := by rw [cell_of_row W1 p o _ _ _ hWp, Array.getElem?_setIfInBounds_self_of_lt ho]
  have hM1 : MapV W1 (some w.heap.size) [] := (show MapV (w.alloc (.map #[] 0)) (some w.heap.size) [] from World.ownsMap_made w _ _ _).keep fun b e => by
    cases e
    rw [hWb, (MapKept.heap_alloc w _).1]
  have HSZ := Lib.hid (sizeOf_any (w := W1.drew) (p := p) (o := o) (B := Typ w S 5) (l := []) (es := []) hW0 hM1 .nil hn)
  have HM := Lib.hid hM1
  have HV := Lib.hid hv
  have HP := Lib.hid hp
  have HZT := Lib.hid hzt
  have HWP := Lib.hid hWp
  have HPL := Lib.hid hpl
  have HW := Lib.hid hW1
  have HFRW : Hid (Fr (fun j => j = p) w W1) := Lib.hid (by rw [hW1]; exact Fr.trans (fr_alloc w _ (fun j => j = p)) (fr_set _ p o _) (fun _ _ h => h) (fun _ _ h => h))
  have HC1 := Lib.hid hc1
  have HWB := Lib.hid hWb
  clear hv hp hSb hap hzt hc0 hc1 hM1 hW0 hWp hWb hW1 hpl
  obtain ⟨nv, hnv⟩ : ∃ nv, nv = nmV n := ⟨_, rfl⟩
  rw [← hnv] at HSZ ⊢
  have HNV := Lib.hid hnv
  clear hnv
  go_enter Tryz.func127, Tryz.ntmps127
  go_wp2_with fail
  rw [← HW.out]
  have c1 : W1.cell? ⟨p, o + 1, none⟩ = some (.int .i64 (tot [] : Int)) := by rw [cell_of_row W1 p (o + 1) _ _ _ HWP.out, Array.getElem?_setIfInBounds_ne (by omega)]; exact HC1.out
  have f1 : W1.frozen? ⟨p, o + 1, none⟩ = false := frozen_of_row W1 p (o + 1) _ _ HWP.out
  have c0 : W1.cell? ⟨p, o, none⟩ = some (.map (some w.heap.size)) := by rw [cell_of_row W1 p o _ _ _ HWP.out, Array.getElem?_setIfInBounds_self_of_lt ho]
  refine wp_region_still_tail 13 (by kernel_rfl) (by kernel_rfl) ?_
  simp only [List.take_succ_cons, List.take_zero, List.drop_succ_cons, List.drop_zero]
  repeat still_step
  still_call HSZ.out
  repeat still_step
  refine wpStill_nil ?_
  go_wp2_with (at_mapUpdate; go_must (refine wpList_mapUpdate_own _ rfl _ _ _ 128 rfl 9 22 keyed_str Tryz.underlying128 hv w.heap.size 0 (.map []) rfl (HM.out.keep (fun b' e => by cases e; exact heap_setCell_other W1 ⟨p, o + 1, none⟩ _ _ (Nat.ne_of_gt HPL.out))) (by simp [maxLen]) _ _ _ rfl rfl (by rw [HNV.out]; exact key_nm hn) _ [] rfl ?_))
  intro w1 hown1 hgrow1
  have hfr : Fr (fun j => j = p ∨ Option.none = some j) w w1 := by
    refine Fr.trans (Fr.trans HFRW.out (Fr.trans (fr_set W1 p (o + 1) (.int .i64 (z : Int))) (fr_drew _ 1 (fun j => j = p)) (U := fun j => j = p) (fun _ _ h => h) (fun _ _ h => h)) (U := fun j => j = p) (fun _ _ h => h) (fun _ _ h => h)) (fr_grown hgrow1) (fun _ _ h => .inl h) (fun j hj h => by cases h; omega)
  have HFR := Lib.hid hfr
  have HO := Lib.hid hown1
  have hb1 : w1.heap[p]? = some (.cells ((cs.setIfInBounds o (.map (some w.heap.size))).setIfInBounds (o + 1) (.int .i64 (z : Int))) 133 (0, 0)) :=
    (hgrow1.block p (by simpa using (Array.getElem?_eq_some_iff.1 HWP.out).1) (by simpa using Nat.ne_of_lt HPL.out)).trans (heap_setCell_same W1 p (o + 1) _ _ _ HWP.out)
  have HB := Lib.hid hb1
  have HLT := Lib.hid (World.ownsMap.lt hown1)
  clear hfr hown1 hb1 hgrow1
  go_wp2
  first | go_end0 | (simp only [Exit.inBlock, Exit.then]; refine bodyPost_ret (results_none rfl _ _ _) rfl ?_) | refine bodyPost_ret (results_none rfl _ _ _) rfl ?_
  refine ⟨rfl, some w.heap.size, ?_, ?_, HFR.out, .inr ⟨_, rfl, Nat.le_refl _⟩⟩
  · rw [HB.out, ← HZT.out]
  · have hk : Kept (Typ w S 5) w w1 := HFR.out.kept _ fun j hj hT => by
      rintro (rfl | h)
      · exact typ_not_other HP.out (by decide) hT
      · cases h
    refine ⟨fput [] n (.slice ao t.length cap), ?_, Zip.nil.put n (HV.out.typ hk (fun j h => .inl h)), fun b' e => .inr (by cases e; exact ⟨Nat.le_refl _, HLT.out⟩)⟩
    have h := HO.out
    have e := put_ent [] n (.slice ao t.length cap)
    simp only [List.map_nil] at e
    rw [e] at h
    exact tight h

theorem dput_any {w : World} {S : Nat → Prop} {p o : Nat} {mb : Option Nat} {cs : Array Value} {l : Fm (List Nat)} (hp : w.heap[p]? = some (.cells cs 133 (0, 0))) (hc0 : cs[o]? = some (.map mb)) (hc1 : cs[o + 1]? = some (.int .i64 (tot l : Int)))
    (ht : TM w S mb l) {n : Nm} (hn : n.length ≤ maxLen) {v : Value} {t : List Nat} (hv : At w (Typ w S 5) .u8 v t) (htl : t.length < 4611686018427387904) (htot : tot l < 4611686018427387904) (hlen : l.length < maxLen) :
    Calls Tryz.prog 127 #[.pointer (some ⟨p, o, none⟩), nmV n, v] w fun e w' => e = .returned (.tuple #[]) ∧ ∃ mb', FilesDone S p o mb cs (fput l n t) w w' mb' := by
  cases mb with
  | none => exact put_none hp hc0 hc1 ht hn hv htl htot
  | some b => exact put_some hp hc0 hc1 ht hn hv htl htot hlen

end Go.Proofs.YtlckadlkgjfjcaaGreatDoor

namespace Go.Proofs.YtlckadlkgjfjcaaGreatDoor
open Go.RowKit

def TakePost (S : Nat → Prop) (p o : Nat) (mb : Option Nat) (cs : Array Value) (l : Fm (List Nat)) (n : Nm) (w : World) (e : Ending) (w' : World) : Prop :=
  ∃ v, e = .returned v ∧ At w' (Typ w' (Ext S w w') 5) .u8 v ((fget l n).getD []) ∧ FilesDone S p o mb cs (fdel l n) w w' mb

theorem set_same {cs : Array Value} {o : Nat} {v : Value} (h : cs[o]? = some v) : cs.setIfInBounds o v = cs := by
  apply Array.ext_getElem?
  intro i
  by_cases hi : i = o
  · subst hi
    rw [h, Array.getElem?_setIfInBounds_self_of_lt (Array.getElem?_eq_some_iff.1 h).1]
  · rw [Array.getElem?_setIfInBounds_ne (Ne.symm hi)]

theorem sub_wrap {a c d : Nat} (h : a < 4611686018427387904) (hc : a = d + c) : wrap64 ((a : Int) - (c : Int)) = (d : Int) := by
  rw [w64_id (by omega) (by omega)]
  omega

set_option maxHeartbeats 1000000 in
set_option maxRecDepth 100000 in
theorem dtake_any {w : World} {S : Nat → Prop} {p o : Nat} {mb : Option Nat} {cs : Array Value} {l : Fm (List Nat)} (hp : w.heap[p]? = some (.cells cs 133 (0, 0))) (hc0 : cs[o]? = some (.map mb)) (hc1 : cs[o + 1]? = some (.int .i64 (tot l : Int)))
    (ht : TM w S mb l) {n : Nm} (hn : n.length ≤ maxLen) (htot : tot l < 4611686018427387904) :
    Calls Tryz.prog 129 #[.pointer (some ⟨p, o, none⟩), nmV n] w (TakePost S p o mb cs l n w) := by
  have hap := ht.apart
  obtain ⟨es, hm, hz, hSb⟩ := ht
  have c0 : w.cell? ⟨p, o, none⟩ = some (.map mb) := by rw [cell_of_row w p o _ _ _ hp]; exact hc0
  have c1 : w.cell? ⟨p, o + 1, none⟩ = some (.int .i64 (tot l : Int)) := by rw [cell_of_row w p (o + 1) _ _ _ hp]; exact hc1
  have f1 : w.frozen? ⟨p, o + 1, none⟩ = false := frozen_of_row w p (o + 1) _ _ hp
  have hl := hm.look hn
  obtain ⟨v, hv⟩ : ∃ v, v = (fget es n).getD (.slice none 0 0) := ⟨_, rfl⟩
  have hat := zip_val hz n
  rw [← hv] at hl hat
  obtain ⟨ao, cap, rfl, _, _, _⟩ := hat.reads.val
  have hfl : ((fget l n).getD []).length = fsz l n := rfl
  rw [hfl] at hl hat
  obtain ⟨z, hzt⟩ : ∃ z, z = tot (fdel l n) := ⟨_, rfl⟩
  have hwr : wrap64 ((tot l : Int) - (fsz l n : Int)) = (z : Int) := sub_wrap htot (by rw [hzt]; exact tot_del hap n)
  obtain ⟨W1, hW1⟩ : ∃ W1, W1 = w.setCell ⟨p, o + 1, none⟩ (.int .i64 (z : Int)) := ⟨_, rfl⟩
  have hbp : W1.heap[p]? = some (.cells (cs.setIfInBounds (o + 1) (.int .i64 (z : Int))) 133 (0, 0)) := by rw [hW1]; exact heap_setCell_same w p (o + 1) _ _ _ hp
  have hfr : Fr (fun j => j = p) w W1 := by rw [hW1]; exact fr_set w p (o + 1) _
  have c2 : W1.cell? ⟨p, o, none⟩ = some (.map mb) := by rw [cell_of_row W1 p o _ _ _ hbp, Array.getElem?_setIfInBounds_ne (by omega)]; exact hc0
  have HM1 : Hid (MapV W1 mb es) := Lib.hid (hm.keep fun b e => hfr.block b (by subst e; exact hm.lt) (by
    rintro rfl
    subst e
    obtain ⟨e, c, h⟩ := hm.obj
    rw [h] at hp
    cases hp))
  have HPM : Hid (∀ b, mb = some b → p ≠ b) := Lib.hid fun b e h => by
    subst h e
    obtain ⟨e, c, h⟩ := hm.obj
    rw [h] at hp
    cases hp
  have HM := Lib.hid hm
  have HAT := Lib.hid hat
  have HZ := Lib.hid hz
  have HP := Lib.hid hp
  have HSB := Lib.hid hSb
  have HC1 := Lib.hid hc1
  have HC0 := Lib.hid hc0
  have HZT := Lib.hid hzt
  have HW1 := Lib.hid hW1
  have HBP := Lib.hid hbp
  have HFR := Lib.hid hfr
  have HKEY := Lib.hid (key_nm hn)
  clear hm hat hz hp hSb hap hzt hc0 hc1 hfl hW1 hbp hfr
  obtain ⟨nv, hnv⟩ : ∃ nv, nv = nmV n := ⟨_, rfl⟩
  rw [← hnv] at hl HKEY ⊢
  have HNV := Lib.hid hnv
  clear hnv
  have HVV := Lib.hid hv
  clear hv
  -- the end, whatever the map is
  have fin : ∀ w2 : World, (∀ b, mb = some b → MapV w2 (some b) (fdel es n)) → (mb = none → w2 = W1) → Fr (fun j => mb = some j) W1 w2 →
      At w2 (Typ w2 (Ext S w w2) 5) .u8 (.slice ao (fsz l n) cap) ((fget l n).getD []) ∧ FilesDone S p o mb cs (fdel l n) w w2 mb := by
    intro w2 h1 h2 h3
    have hFR : Fr (fun j => j = p ∨ mb = some j) w w2 := HFR.out.trans h3 (fun _ _ h => .inl h) (fun _ _ h => .inr h)
    have hk : Kept (Typ w S 5) w w2 := hFR.kept _ fun j hj hT => by
      rintro (rfl | h)
      · exact typ_not_other HP.out (by decide) hT
      · have hm := HM.out
        rw [h] at hm
        exact typ_not_map hm.obj hT
    refine ⟨HAT.out.typ hk fun j h => .inl h, ?_, ?_, hFR, .inl rfl⟩
    · rw [set_same HC0.out, ← HZT.out]
      refine (h3.block p (by have := (Array.getElem?_eq_some_iff.1 HBP.out).1; exact this) fun h => HPM.out _ h rfl).trans HBP.out
    · refine ⟨fdel es n, ?_, (HZ.out.mono fun a b' h => h.typ hk fun j h => .inl h).del n, fun b' e => .inl (HSB.out b' e)⟩
      cases mb with
      | none => have hm := HM.out; obtain rfl : es = [] := hm; rfl
      | some b => exact h1 b rfl
  have FIN := Lib.hid fin
  clear fin
  go_enter Tryz.func129, Tryz.ntmps129
  cases mb with
  | none =>
    have hdr := fun (w : World) ty => Maps.drop_nil (P := Tryz.prog) (w := w) (t := 128) (e := 22) keyed_str Tryz.underlying128 HKEY.out ty
    go_wp2
    rw [← HW1.out]
    go_ret
    exact ⟨_, rfl, FIN.out W1 (fun b e => by cases e) (fun _ => rfl) (Fr.refl _ _)⟩
  | some b =>
    go_wp2_with (at_delete; go_must (refine wpList_delete_own _ rfl _ _ 128 9 rfl 22 keyed_str Tryz.underlying128 hv b es.length (.map (es.map ent)) rfl (by rw [← HW1.out]; exact HM1.out) _ _ rfl HKEY.out ?_))
    rw [← HW1.out]
    intro w2 hown2 hturn2
    rw [del_ent] at hown2
    have hf := FIN.out w2 (fun b' e => by cases e; exact tight hown2) (fun e => by cases e) (by have := fr_grown hturn2.grown; exact this.mono fun j _ h => h.symm)
    have HF := Lib.hid hf
    clear hf hown2 hturn2
    go_wp2
    go_ret
    exact ⟨_, rfl, HF.out⟩

end Go.Proofs.YtlckadlkgjfjcaaGreatDoor

namespace Go.Proofs.YtlckadlkgjfjcaaGreatDoor
open Go.RowKit

theorem Ext.sub {S : Nat → Prop} {w w1 w2 : World} (h : w.heap.size ≤ w1.heap.size) {j : Nat} (hj : Ext S w1 w2 j) : Ext S w w2 j := by
  rcases hj with h1 | ⟨h1, h2⟩
  · exact .inl h1
  · exact .inr ⟨Nat.le_trans h h1, h2⟩
theorem Ext.mid {S : Nat → Prop} {w w1 w2 : World} (h1 : w.heap.size ≤ w1.heap.size) (h2 : w1.heap.size ≤ w2.heap.size) {j : Nat} (hj : Ext (Ext S w w1) w1 w2 j) : Ext S w w2 j := by
  rcases hj with (h | ⟨h, h'⟩) | ⟨h, h'⟩
  · exact .inl h
  · exact .inr ⟨h, Nat.lt_of_lt_of_le h' h2⟩
  · exact .inr ⟨Nat.le_trans h1 h, h'⟩
theorem TM.mono {w : World} {S S' : Nat → Prop} {mb : Option Nat} {l : Fm (List Nat)} (h : TM w S mb l) (hs : ∀ j, S j → S' j) : TM w S' mb l :=
  h.keep (Kept.refl _ _) (fun _ _ => rfl) hs
theorem set_twice {cs : Array Value} {o : Nat} {a b x y : Value} : (((cs.setIfInBounds o a).setIfInBounds (o + 1) b).setIfInBounds o x).setIfInBounds (o + 1) y = (cs.setIfInBounds o x).setIfInBounds (o + 1) y := by
  apply Array.ext_getElem?
  intro i
  simp only [Array.getElem?_setIfInBounds, Array.size_setIfInBounds]
  repeat' split
  all_goals first | rfl | omega

theorem FilesDone.back {S : Nat → Prop} {p o : Nat} {mb mb' : Option Nat} {cs : Array Value} {l' : Fm (List Nat)} {w w1 w2 : World} (h : FilesDone S p o mb cs l' w1 w2 mb') (hb : Below w.heap.size w w1) : FilesDone S p o mb cs l' w w2 mb' :=
  ⟨h.blk, h.tm.mono fun _ hj => hj.sub hb.size, Fr.trans (fr_below hb _) h.fr (fun _ _ h => h) (fun _ _ h => h), h.mb.imp id fun ⟨b, e, hl⟩ => ⟨b, e, Nat.le_trans hb.size hl⟩⟩
theorem FilesDone.trans {S : Nat → Prop} {p o : Nat} {mb mb1 mb2 : Option Nat} {cs : Array Value} {l1 l2 : Fm (List Nat)} {w w1 w2 : World} (h : FilesDone S p o mb cs l1 w w1 mb1)
    (k : FilesDone (Ext S w w1) p o mb1 ((cs.setIfInBounds o (.map mb1)).setIfInBounds (o + 1) (.int .i64 (tot l1 : Int))) l2 w1 w2 mb2) : FilesDone S p o mb cs l2 w w2 mb2 := by
  refine ⟨k.blk.trans (by rw [set_twice]), k.tm.mono fun _ hj => hj.mid h.fr.size k.fr.size, Fr.trans h.fr k.fr (fun _ _ h => h) fun j hj hk => ?_, ?_⟩
  · rcases hk with rfl | hk
    · exact .inl rfl
    · rcases h.mb with e | ⟨b, e, hl⟩
      · rw [e] at hk; exact .inr hk
      · rw [e] at hk; cases hk; omega
  · rcases k.mb with e | ⟨b, e, hl⟩
    · rw [e]; exact h.mb
    · exact .inr ⟨b, e, Nat.le_trans h.fr.size hl⟩

/-- Nothing is done. -/
theorem filesDone_refl {w w' : World} {S : Nat → Prop} {p o : Nat} {mb : Option Nat} {cs : Array Value} {l : Fm (List Nat)} (hp : w.heap[p]? = some (.cells cs 133 (0, 0))) (hc0 : cs[o]? = some (.map mb)) (hc1 : cs[o + 1]? = some (.int .i64 (tot l : Int)))
    (ht : TM w S mb l) (hb : Below w.heap.size w w') : FilesDone S p o mb cs l w w' mb := by
  have hpl := (Array.getElem?_eq_some_iff.1 hp).1
  refine ⟨?_, (ht.keep (kept_new hb _) (fun b e => hb.block b (by subst e; exact ht.lt)) fun j h => .inl h), fr_below hb _, .inl rfl⟩
  rw [set_same hc0, set_same hc1]
  exact (hb.block p hpl).trans hp

theorem fsz_tot {l : Fm (List Nat)} (h : Apart l) (n : Nm) : fsz l n ≤ tot l := by
  have := tot_del h n
  omega
theorem tot_fdel {l : Fm (List Nat)} (h : Apart l) (n : Nm) : tot (fdel l n) ≤ tot l := by
  have := tot_del h n
  omega

/-- A change as a value. -/
def chV (c : Ch) (v : Value) : Value := .agg #[.int .i64 (c.kind : Int), nmV c.name, nmV c.to, v]
structure ChOk (c : Ch) : Prop where
  kind : c.kind ≤ 2
  name : c.name.length ≤ 1000
  to : c.to.length ≤ 1000
  text : c.text.length ≤ 65536
  byte : ∀ y ∈ c.text, y < 256

def DoPost (S : Nat → Prop) (p o : Nat) (mb : Option Nat) (cs : Array Value) (l : Fm (List Nat)) (c : Ch) (w : World) (e : Ending) (w' : World) : Prop :=
  e = .returned (.tuple #[]) ∧ ∃ mb', FilesDone S p o mb cs (capply l c) w w' mb'

theorem maxLen_1000 {n : Nat} (h : n ≤ 1000) : n ≤ maxLen := Nat.le_trans h (by simp [maxLen])
theorem maxLen_62 {n : Nat} (h : n < 4611686018427387904) : n < maxLen := Nat.lt_of_lt_of_le h (by simp [maxLen])
theorem capply_no {l : Fm (List Nat)} {n to : Nm} {t : List Nat} (h : fhas l n = false) : capply l ⟨1, n, to, t⟩ = l := by
  unfold capply
  rw [fhas_get] at h
  cases hg : fget l n with
  | none => simp
  | some x => rw [hg] at h; cases h
theorem capply_rename {l : Fm (List Nat)} {n to : Nm} {t : List Nat} (h : fhas l n = true) : capply l ⟨1, n, to, t⟩ = fput (fdel l n) to ((fget l n).getD []) := by
  unfold capply
  rw [fhas_get] at h
  cases hg : fget l n with
  | none => rw [hg] at h; cases h
  | some x => simp
theorem capply_remove {l : Fm (List Nat)} {n to : Nm} {t : List Nat} : capply l ⟨2, n, to, t⟩ = fdel l n := by
  unfold capply
  cases hg : fget l n with
  | none => simp [fdel_none hg]
  | some x => simp

theorem cg0 {cs : Array Value} {o : Nat} {a x y : Value} (h0 : cs[o]? = some a) : ((cs.setIfInBounds o x).setIfInBounds (o + 1) y)[o]? = some x := by
  have := (Array.getElem?_eq_some_iff.1 h0).1
  rw [Array.getElem?_setIfInBounds_ne (by omega), Array.getElem?_setIfInBounds_self_of_lt this]
theorem cg1 {cs : Array Value} {o : Nat} {b x y : Value} (h1 : cs[o + 1]? = some b) : ((cs.setIfInBounds o x).setIfInBounds (o + 1) y)[o + 1]? = some y := by
  have := (Array.getElem?_eq_some_iff.1 h1).1
  rw [Array.getElem?_setIfInBounds_self_of_lt (by simpa using this)]

set_option maxHeartbeats 2000000 in
set_option maxRecDepth 100000 in
theorem do_any {w : World} {S : Nat → Prop} {p o : Nat} {mb : Option Nat} {cs : Array Value} {l : Fm (List Nat)} (hp : w.heap[p]? = some (.cells cs 133 (0, 0))) (hc0 : cs[o]? = some (.map mb)) (hc1 : cs[o + 1]? = some (.int .i64 (tot l : Int)))
    (ht : TM w S mb l) {c : Ch} (hc : ChOk c) {v : Value} (hv : At w (Typ w S 5) .u8 v c.text) (htot : tot l < 4611686018427387904) (hlen : l.length < 4611686018427387904) :
    Calls Tryz.prog 91 #[.pointer (some ⟨p, o, none⟩), chV c v] w (DoPost S p o mb cs l c w) := by
  obtain ⟨ao, cap, rfl, _, _, _⟩ := hv.reads.val
  obtain ⟨kind, name, to, text⟩ := c
  obtain ⟨zk, hzk⟩ : ∃ zk : Int, zk = (kind : Int) := ⟨_, rfl⟩
  obtain ⟨W1, hW1⟩ : ∃ W1, W1 = w.alloc (.cells #[.int .i64 zk, nmV name, nmV to, .slice ao text.length cap] 135) := ⟨_, rfl⟩
  have hb1 : Below w.heap.size w W1 := by rw [hW1]; exact (Below.refl _ _).alloc (Nat.le_refl _) _
  have hpl := (Array.getElem?_eq_some_iff.1 hp).1
  have hap := ht.apart
  have hp1 := (hb1.block p hpl).trans hp
  have ht1 : TM W1 S mb l := ht.keep (kept_new hb1 _) (fun b e => hb1.block b (by subst e; exact ht.lt)) fun j h => h
  have hv1 : At W1 (Typ W1 S 5) .u8 (.slice ao text.length cap) text := hv.typ (kept_new hb1 _) fun j h => h
  have hx : W1.heap[w.heap.size]? = some (.cells #[.int .i64 zk, nmV name, nmV to, .slice ao text.length cap] 135 (0, 0)) := by rw [hW1]; exact heap_alloc_new _ _
  have hpc : W1.cell? ⟨p, o, none⟩ = some (.map mb) := by rw [cell_of_row W1 p o _ _ _ hp1]; exact hc0
  obtain ⟨es, hm1, hz1, hS1⟩ := id ht1
  have HM1 := Lib.hid hm1
  have HHAS : Hid (fhas es name = fhas l name) := Lib.hid (hz1.has name)
  have HP1 := Lib.hid hp1
  have HT1 := Lib.hid ht1
  have HV1 := Lib.hid hv1
  have HX := Lib.hid hx
  have HPC := Lib.hid hpc
  have HAP := Lib.hid hap
  have HC := Lib.hid hc
  have HW1 := Lib.hid hW1
  have HB1 := Lib.hid hb1
  have HC0 := Lib.hid hc0
  have HC1 := Lib.hid hc1
  have HN : Hid (name.length ≤ maxLen) := Lib.hid (maxLen_1000 hc.name)
  have HT : Hid (to.length ≤ maxLen) := Lib.hid (maxLen_1000 hc.to)
  have HX2 : Hid (text.length < 4611686018427387904) := Lib.hid (Nat.lt_of_le_of_lt hc.text (by omega))
  have HK : Hid (kind ≤ 2) := Lib.hid hc.kind
  have HPW : Hid (p ≠ w.heap.size) := Lib.hid (Nat.ne_of_lt hpl)
  have HMW : Hid (∀ b, mb = some b → w.heap.size ≠ b) := Lib.hid fun b e h => by
    subst e h
    obtain ⟨e, c, h⟩ := ht1.obj
    rw [h] at hx
    cases hx
  clear hp hc0 hc1 ht hv hW1 hb1 hc hpl hp1 ht1 hv1 hx hpc hm1 hz1 hS1 hap
  unfold chV
  simp only []
  rw [← hzk]
  have HZK := Lib.hid hzk
  clear hzk
  go_enter Tryz.func91, Tryz.ntmps91
  rcases (show kind = 0 ∨ kind = 1 ∨ kind = 2 by have := HK.out; omega) with rfl | rfl | rfl
  · obtain rfl : zk = 0 := HZK.out
    go_wp2_with fail
    rw [← HW1.out]
    refine (dput_any HP1.out HC0.out HC1.out HT1.out HN.out HV1.out HX2.out htot (maxLen_62 hlen)).mono ?_
    rintro e w2 ⟨rfl, mb2, hd⟩
    have HD := Lib.hid (hd.back HB1.out)
    clear hd
    go_wp2
    first | go_end0 | (simp only [Exit.inBlock, Exit.then]; refine bodyPost_ret (results_none rfl _ _ _) rfl ?_) | refine bodyPost_ret (results_none rfl _ _ _) rfl ?_
    exact ⟨rfl, _, HD.out⟩
  · obtain rfl : zk = 1 := HZK.out
    go_wp2_with fail
    rw [← HW1.out]
    refine (has_any HPC.out HM1.out HN.out).mono ?_
    rintro e W1 ⟨rfl, rfl⟩
    rw [HHAS.out]
    have x1 : W1.cell? ⟨w.heap.size, 1, none⟩ = some (nmV name) := by rw [cell_of_row _ _ 1 _ _ _ HX.out]; rfl
    have x2 : W1.cell? ⟨w.heap.size, 2, none⟩ = some (nmV to) := by rw [cell_of_row _ _ 2 _ _ _ HX.out]; rfl
    cases hh : fhas l name
    · have HH := Lib.hid hh
      clear hh
      go_wp2
      first | go_end0 | (simp only [Exit.inBlock, Exit.then]; refine bodyPost_ret (results_none rfl _ _ _) rfl ?_) | refine bodyPost_ret (results_none rfl _ _ _) rfl ?_
      refine ⟨rfl, mb, ?_⟩
      rw [capply_no HH.out]
      exact (filesDone_refl HP1.out HC0.out HC1.out HT1.out (Below.refl _ _)).back HB1.out
    · have HH := Lib.hid hh
      clear hh
      have X1 := Lib.hid x1
      have X2 := Lib.hid x2
      have HXL : Hid (w.heap.size < W1.heap.size) := Lib.hid (Array.getElem?_eq_some_iff.1 HX.out).1
      have HNOT : Hid (¬ (w.heap.size = p ∨ mb = some w.heap.size)) := Lib.hid (by
        rintro (h | h)
        · exact HPW.out h.symm
        · exact HMW.out _ h rfl)
      go_wp2_with fail
      go_region_held3 (fun w' => w'.cell? ⟨w.heap.size, 1, none⟩ = some (nmV name) ∧ w'.cell? ⟨w.heap.size, 2, none⟩ = some (nmV to)) (go_keep) (first
        | (go_at_call 129; refine (dtake_any (w := W1.drew) HP1.out HC0.out HC1.out (HT1.out.keep ⟨Nat.le_refl _, fun _ _ _ => rfl⟩ (fun _ _ => rfl) fun _ h => h) HN.out htot).mono ?_
           rintro e wx ⟨vx, rfl, hat, hd⟩
           obtain ⟨ax, cx, rfl, _, _, _⟩ := hat.reads.val
           have x1 : wx.cell? ⟨w.heap.size, 1, none⟩ = some (nmV name) := (World.cell?_of_block (hd.fr.block _ HXL.out HNOT.out)).trans X1.out
           have x2 : wx.cell? ⟨w.heap.size, 2, none⟩ = some (nmV to) := (World.cell?_of_block (hd.fr.block _ HXL.out HNOT.out)).trans X2.out
           have Y1 := Lib.hid x1
           have Y2 := Lib.hid x2
           have HAT := Lib.hid hat
           have HD := Lib.hid hd
           clear hat hd)
        | (go_at_call 127
           refine (dput_any HD.out.blk (cg0 HC0.out) (cg1 HC1.out) HD.out.tm HT.out HAT.out (Nat.lt_of_le_of_lt (fsz_tot HAP.out name) htot) (Nat.lt_of_le_of_lt (tot_fdel HAP.out name) htot) (maxLen_62 (Nat.lt_of_le_of_lt (fdel_length _ _) hlen))).mono ?_
           rintro e wy ⟨rfl, mb2, hd2⟩
           have hlx := Nat.lt_of_lt_of_le HXL.out HD.out.fr.size
           have x1 : wy.cell? ⟨w.heap.size, 1, none⟩ = some (nmV name) := (World.cell?_of_block (hd2.fr.block _ hlx HNOT.out)).trans Y1.out
           have x2 : wy.cell? ⟨w.heap.size, 2, none⟩ = some (nmV to) := (World.cell?_of_block (hd2.fr.block _ hlx HNOT.out)).trans Y2.out
           have HD2 := Lib.hid hd2
           clear hd2 hlx)
)
      first | go_end0 | (simp only [Exit.inBlock, Exit.then]; refine bodyPost_ret (results_none rfl _ _ _) rfl ?_) | refine bodyPost_ret (results_none rfl _ _ _) rfl ?_
      refine ⟨rfl, mb2, ?_⟩
      rw [capply_rename HH.out]
      have h1 : FilesDone S p o mb cs (fdel l name) W1 _ mb := ⟨HD.out.blk, HD.out.tm, ⟨HD.out.fr.os, HD.out.fr.tape, HD.out.fr.output, HD.out.fr.size, HD.out.fr.block⟩, HD.out.mb⟩
      exact (h1.trans HD2.out).back HB1.out
  · obtain rfl : zk = 2 := HZK.out
    go_wp2_with fail
    rw [← HW1.out]
    refine (dtake_any HP1.out HC0.out HC1.out HT1.out HN.out htot).mono ?_
    rintro e w2 ⟨v2, rfl, hat, hd⟩
    have HD := Lib.hid (hd.back HB1.out)
    obtain ⟨ao2, cap2, rfl, _, _, _⟩ := hat.reads.val
    clear hat hd
    go_wp2
    first | go_end0 | (simp only [Exit.inBlock, Exit.then]; refine bodyPost_ret (results_none rfl _ _ _) rfl ?_) | refine bodyPost_ret (results_none rfl _ _ _) rfl ?_
    exact ⟨rfl, mb, by rw [capply_remove]; exact HD.out⟩

end Go.Proofs.YtlckadlkgjfjcaaGreatDoor


namespace Go.Proofs.YtlckadlkgjfjcaaGreatDoor
open Go.RowKit

def chRow (x : Ch × Value) : List Value := [.int .i64 (x.1.kind : Int), nmV x.1.name, nmV x.1.to, x.2]
/-- The changes in memory. -/
def CR (w : World) (S : Nat → Prop) (cv : Value) (chs : List Ch) : Prop :=
  ∃ ps : List (Ch × Value), ps.map (·.1) = chs ∧ RecOwn w 0 135 4 cv (ps.map chRow) ∧ (∀ j, cv.ownBlock = some j → S j) ∧ ∀ x ∈ ps, At w (Typ w S 5) .u8 x.2 x.1.text
theorem CR.keep {w w' : World} {S S' : Nat → Prop} {cv : Value} {chs : List Ch} (h : CR w S cv chs) (hk : Kept (Typ w S 5) w w') (hb : ∀ j, cv.ownBlock = some j → w'.heap[j]? = w.heap[j]?) (hs : ∀ j, S j → S' j) : CR w' S' cv chs := by
  obtain ⟨ps, h1, h2, h3, h4⟩ := h
  exact ⟨ps, h1, h2.keep hb, fun j hj => hs j (h3 j hj), fun x hx => (h4 x hx).typ hk hs⟩
theorem CR.block {w : World} {S : Nat → Prop} {cv : Value} {chs : List Ch} (h : CR w S cv chs) {j : Nat} (hj : cv.ownBlock = some j) : S j ∧ j < w.heap.size ∧ ∃ cs, w.heap[j]? = some (.cells cs 135 (0, 0)) := by
  obtain ⟨ps, h1, h2, h3, h4⟩ := h
  exact ⟨h3 j hj, (h2.block hj).2⟩
theorem CR.val {w : World} {S : Nat → Prop} {cv : Value} {chs : List Ch} (h : CR w S cv chs) : ∃ ao cap, cv = .slice ao chs.length cap ∧ chs.length ≤ cap ∧ cap ≤ maxLen ∧ (ao = none → cap = 0) := by
  obtain ⟨ps, rfl, h2, h3, h4⟩ := h
  have := h2.val
  simpa using this
theorem cr_nil (w : World) (S : Nat → Prop) : CR w S (.slice none 0 0) [] := ⟨[], rfl, recOwn_nil _ _ _ _, fun j hj => (by cases hj), by simp⟩

/-- How many files and changes there are: no more than 2^40 are spoken of. -/
def DS.sz (d : DS) : Nat := d.sure.length + d.chs.length
/-- A disk at block p; all its blocks are of S. -/
structure DkV (w : World) (S : Nat → Prop) (p : Nat) (m1 m2 : Option Nat) (cv : Value) (d : DS) : Prop where
  blk : w.heap[p]? = some (.cells #[.int .i64 (d.room : Int), .map m1, .int .i64 (tot d.sure : Int), .map m2, .int .i64 (tot d.shown : Int), cv, .int .i64 d.fuse, .bool d.down] 133 (0, 0))
  inS : S p
  lt : ∀ j, S j → j < w.heap.size
  sure : TM w S m1 d.sure
  shown : TM w S m2 d.shown
  apart : ∀ b, m1 = some b → m2 ≠ some b
  chs : CR w S cv d.chs
  room : d.room ≤ 1073741824
  fuse : -1 ≤ d.fuse ∧ d.fuse ≤ 9223372036854775807
  ok : ∀ c ∈ d.chs, ChOk c
  small : Small 65536 d.sure
def Dk (w : World) (S : Nat → Prop) (p : Nat) (d : DS) : Prop := ∃ m1 m2 cv, DkV w S p m1 m2 cv d

section
variable {w w' : World} {S : Nat → Prop} {p : Nat} {m1 m2 : Option Nat} {cv : Value} {d : DS}
theorem DkV.plt (h : DkV w S p m1 m2 cv d) : p < w.heap.size := (Array.getElem?_eq_some_iff.1 h.blk).1
theorem DkV.smallShown (h : DkV w S p m1 m2 cv d) : Small 65536 d.shown := h.small.shown fun c hc => ⟨(h.ok c hc).text, (h.ok c hc).byte⟩
theorem small_tot {l : Fm (List Nat)} {n : Nat} (h : Small 65536 l) (hl : l.length ≤ n) (hn : n < 1099511627776) : tot l < 4611686018427387904 := by
  have h1 := tot_le fun f hf => (h f hf).1
  have h2 : l.length * 65536 ≤ n * 65536 := Nat.mul_le_mul_right _ hl
  omega
theorem DkV.totShown (h : DkV w S p m1 m2 cv d) (hd : d.sz < 1099511627776) : tot d.shown < 4611686018427387904 := small_tot h.smallShown (shownOf_length d.chs d.sure) hd
theorem lenShown (d : DS) : d.shown.length ≤ d.sz := shownOf_length d.chs d.sure
/-- A disk's block is neither a map's, nor its changes', nor one of bytes. -/
theorem DkV.pm1 (h : DkV w S p m1 m2 cv d) : ∀ b, m1 = some b → b ≠ p := fun b e hb => by
  subst e hb
  obtain ⟨e, c, ho⟩ := h.sure.obj
  have := ho.symm.trans h.blk
  cases this
theorem DkV.pm2 (h : DkV w S p m1 m2 cv d) : ∀ b, m2 = some b → b ≠ p := fun b e hb => by
  subst e hb
  obtain ⟨e, c, ho⟩ := h.shown.obj
  have := ho.symm.trans h.blk
  cases this
theorem DkV.pcv (h : DkV w S p m1 m2 cv d) : ∀ b, cv.ownBlock = some b → b ≠ p := fun b e hb => by
  subst hb
  obtain ⟨_, _, cs, hc⟩ := h.chs.block e
  have := hc.symm.trans h.blk
  cases this
theorem DkV.m1cv (h : DkV w S p m1 m2 cv d) : ∀ b, m1 = some b → cv.ownBlock ≠ some b := fun b e hb => by
  subst e
  obtain ⟨_, _, cs, hc⟩ := h.chs.block hb
  obtain ⟨e, c, ho⟩ := h.sure.obj
  have := ho.symm.trans hc
  cases this
theorem DkV.m2cv (h : DkV w S p m1 m2 cv d) : ∀ b, m2 = some b → cv.ownBlock ≠ some b := fun b e hb => by
  subst e
  obtain ⟨_, _, cs, hc⟩ := h.chs.block hb
  obtain ⟨e, c, ho⟩ := h.shown.obj
  have := ho.symm.trans hc
  cases this
theorem DkV.c0 (h : DkV w S p m1 m2 cv d) : w.cell? ⟨p, 0, none⟩ = some (.int .i64 (d.room : Int)) := by rw [cell_of_row w p 0 _ _ _ h.blk]; rfl
theorem DkV.c1 (h : DkV w S p m1 m2 cv d) : w.cell? ⟨p, 1, none⟩ = some (.map m1) := by rw [cell_of_row w p 1 _ _ _ h.blk]; rfl
theorem DkV.c2 (h : DkV w S p m1 m2 cv d) : w.cell? ⟨p, 2, none⟩ = some (.int .i64 (tot d.sure : Int)) := by rw [cell_of_row w p 2 _ _ _ h.blk]; rfl
theorem DkV.c3 (h : DkV w S p m1 m2 cv d) : w.cell? ⟨p, 3, none⟩ = some (.map m2) := by rw [cell_of_row w p 3 _ _ _ h.blk]; rfl
theorem DkV.c4 (h : DkV w S p m1 m2 cv d) : w.cell? ⟨p, 4, none⟩ = some (.int .i64 (tot d.shown : Int)) := by rw [cell_of_row w p 4 _ _ _ h.blk]; rfl
theorem DkV.c5 (h : DkV w S p m1 m2 cv d) : w.cell? ⟨p, 5, none⟩ = some cv := by rw [cell_of_row w p 5 _ _ _ h.blk]; rfl
theorem DkV.c6 (h : DkV w S p m1 m2 cv d) : w.cell? ⟨p, 6, none⟩ = some (.int .i64 d.fuse) := by rw [cell_of_row w p 6 _ _ _ h.blk]; rfl
theorem DkV.c7 (h : DkV w S p m1 m2 cv d) : w.cell? ⟨p, 7, none⟩ = some (.bool d.down) := by rw [cell_of_row w p 7 _ _ _ h.blk]; rfl
theorem DkV.fz (h : DkV w S p m1 m2 cv d) (i : Nat) : w.frozen? ⟨p, i, none⟩ = false := frozen_of_row w p i _ _ h.blk

/-- What changes none of a disk's blocks leaves the disk as it was. -/
theorem DkV.keep (h : DkV w S p m1 m2 cv d) (hk : Kept S w w') : DkV w' S p m1 m2 cv d := by
  have hk2 : Kept (Typ w S 5) w w' := hk.mono fun j _ hj => hj.1
  exact ⟨(hk.block p h.plt h.inS).trans h.blk, h.inS, fun j hj => Nat.lt_of_lt_of_le (h.lt j hj) hk.size,
    h.sure.keep hk2 (fun b e => hk.block b (by subst e; exact h.sure.lt) (by obtain ⟨_, _, _, hs⟩ := h.sure; exact hs b e)) fun _ hj => hj,
    h.shown.keep hk2 (fun b e => hk.block b (by subst e; exact h.shown.lt) (by obtain ⟨_, _, _, hs⟩ := h.shown; exact hs b e)) fun _ hj => hj,
    h.apart, h.chs.keep hk2 (fun j hj => hk.block j (h.chs.block hj).2.1 (h.chs.block hj).1) fun _ hj => hj, h.room, h.fuse, h.ok, h.small⟩
theorem Dk.keep (h : Dk w S p d) (hk : Kept S w w') : Dk w' S p d := by
  obtain ⟨m1, m2, cv, h⟩ := h
  exact ⟨m1, m2, cv, h.keep hk⟩
theorem Dk.inS (h : Dk w S p d) : S p := by obtain ⟨m1, m2, cv, h⟩ := h; exact h.inS
theorem Dk.lt (h : Dk w S p d) {j : Nat} (hj : S j) : j < w.heap.size := by obtain ⟨m1, m2, cv, h⟩ := h; exact h.lt j hj
/-- The fuse and the power are set. -/
theorem DkV.set (h : DkV w S p m1 m2 cv d) (hfr : Fr (fun j => j = p) w w') {f : Int} {dn : Bool}
    (hb : w'.heap[p]? = some (.cells #[.int .i64 (d.room : Int), .map m1, .int .i64 (tot d.sure : Int), .map m2, .int .i64 (tot d.shown : Int), cv, .int .i64 f, .bool dn] 133 (0, 0))) (hf : -1 ≤ f ∧ f ≤ 9223372036854775807) :
    DkV w' S p m1 m2 cv { d with fuse := f, down := dn } := by
  have hk2 : Kept (Typ w S 5) w w' := hfr.kept _ fun j hj hT e => by
    subst e
    exact typ_not_other h.blk (by decide) hT
  exact ⟨hb, h.inS, fun j hj => Nat.lt_of_lt_of_le (h.lt j hj) hfr.size,
    h.sure.keep hk2 (fun b e => hfr.block b (by subst e; exact h.sure.lt) (h.pm1 b e)) fun _ hj => hj,
    h.shown.keep hk2 (fun b e => hfr.block b (by subst e; exact h.shown.lt) (h.pm2 b e)) fun _ hj => hj,
    h.apart, h.chs.keep hk2 (fun j hj => hfr.block j (h.chs.block hj).2.1 (h.pcv j hj)) fun _ hj => hj, h.room, hf, h.ok, h.small⟩
end

set_option maxHeartbeats 400000 in
set_option maxRecDepth 100000 in
theorem able_any {w : World} {S : Nat → Prop} {p : Nat} {m1 m2 : Option Nat} {cv : Value} {d : DS} (h : DkV w S p m1 m2 cv d) :
    Calls Tryz.prog 183 #[.pointer (some ⟨p, 0, none⟩)] w fun e w' => e = .returned (errV (if d.down then 14 else 0)) ∧ w' = w := by
  have c7 := h.c7
  clear h
  go_enter Tryz.func183, Tryz.ntmps183
  cases hd : d.down
  · rw [hd] at c7
    clear hd
    go_wp2
    go_ret
    exact ⟨rfl, rfl⟩
  · rw [hd] at c7
    clear hd
    go_wp2
    go_ret
    exact ⟨rfl, rfl⟩

def OperPost (S : Nat → Prop) (p : Nat) (m1 m2 : Option Nat) (cv : Value) (d : DS) (w : World) (e : Ending) (w' : World) : Prop :=
  e = .returned (errV (dwork d).2) ∧ DkV w' S p m1 m2 cv (dwork d).1 ∧ Fr (fun j => j = p) w w'

set_option maxHeartbeats 1000000 in
set_option maxRecDepth 100000 in
theorem operate_any {w : World} {S : Nat → Prop} {p : Nat} {m1 m2 : Option Nat} {cv : Value} {d : DS} (h : DkV w S p m1 m2 cv d) :
    Calls Tryz.prog 237 #[.pointer (some ⟨p, 0, none⟩)] w (OperPost S p m1 m2 cv d w) := by
  have c6 := h.c6
  have f6 := h.fz 6
  have f7 := h.fz 7
  have c7 := h.c7
  have hfu := h.fuse
  have H := Lib.hid h
  clear h
  obtain ⟨room, sure, chs, fuse, down⟩ := d
  simp only [] at c6 c7 hfu
  go_enter Tryz.func237, Tryz.ntmps237
  go_wp2_with fail
  refine (able_any H.out).mono ?_
  rintro e w ⟨rfl, rfl⟩
  simp only []
  cases down
  · rw [if_neg (by decide), errV_zero]
    by_cases hz : fuse = 0
    · subst hz
      go_wp2
      go_ret
      refine ⟨rfl, H.out.set (fr_set w p 7 (.bool true)) ?_ (by simp), fr_set w p 7 _⟩
      exact heap_setCell_same w p 7 _ _ _ H.out.blk
    · by_cases hm : fuse = -1
      · subst hm
        go_wp2
        go_ret
        exact ⟨rfl, H.out, Fr.refl _ _⟩
      · have hw : wrap64 (fuse - 1) = fuse - 1 := w64_id (by omega) (by omega)
        have HW : Hid (dwork ⟨room, sure, chs, fuse, false⟩ = (⟨room, sure, chs, fuse - 1, false⟩, 0)) := Lib.hid (by simp [dwork, hz, hm])
        have HF : Hid (-1 ≤ fuse - 1 ∧ fuse - 1 ≤ 9223372036854775807) := Lib.hid (by omega)
        go_wp2
        go_ret
        unfold OperPost
        rw [HW.out]
        refine ⟨rfl, H.out.set (fr_set w p 6 (.int .i64 (fuse - 1))) ?_ HF.out, fr_set w p 6 _⟩
        exact heap_setCell_same w p 6 _ _ _ H.out.blk
  · rw [if_pos rfl]
    have e14 : errV 14 = .iface 41 (.int .i64 14) := errV_pos (by decide)
    rw [e14]
    go_wp2
    go_ret
    exact ⟨rfl, H.out, Fr.refl _ _⟩

end Go.Proofs.YtlckadlkgjfjcaaGreatDoor

namespace Go.Proofs.YtlckadlkgjfjcaaGreatDoor
open Go.RowKit

def NewDPost (room : Int) (w : World) (e : Ending) (w' : World) : Prop :=
  (0 ≤ room ∧ room ≤ 1073741824 ∧ e = .returned (.tuple #[.pointer (some ⟨w.heap.size, 0, none⟩), .nilIface]) ∧ Dk w' (fun j => j = w.heap.size) w.heap.size (dnew room.toNat) ∧ Below w.heap.size w w' ∧ w'.heap.size = w.heap.size + 1) ∨
  (¬ (0 ≤ room ∧ room ≤ 1073741824) ∧ e = .returned (.tuple #[.pointer none, errV 1]) ∧ w' = w)

set_option maxHeartbeats 400000 in
set_option maxRecDepth 100000 in
theorem newD_any (room : Int) (w : World) : Calls Tryz.prog 109 #[.int .i64 room] w (NewDPost room w) := by
  go_enter Tryz.func109, Tryz.ntmps109
  by_cases h0 : room < 0
  · go_wp2
    go_ret2
    exact .inr ⟨by omega, rfl, rfl⟩
  · by_cases h1 : 1073741824 < room
    · go_wp2
      go_ret2
      exact .inr ⟨by omega, rfl, rfl⟩
    · go_wp2
      go_ret2
      have hr : ((room.toNat : Nat) : Int) = room := Int.toNat_of_nonneg (by omega)
      have hb : Below w.heap.size w (w.alloc (.cells #[.int .i64 room, .map none, .int .i64 0, .map none, .int .i64 0, .slice none 0 0, .int .i64 (-1), .bool false] 133)) := (Below.refl _ _).alloc (Nat.le_refl _) _
      refine .inl ⟨by omega, by omega, rfl, ⟨none, none, .slice none 0 0, ?_, rfl, fun j hj => (by subst hj; simp), ⟨[], rfl, .nil, fun b e => (by cases e)⟩, ⟨[], rfl, .nil, fun b e => (by cases e)⟩, fun b e => (by cases e), cr_nil _ _, ?_, ?_, ?_, ?_⟩, hb, by simp⟩
      · show _ = some (Obj.cells #[.int .i64 (room.toNat : Int), _, _, _, _, _, _, _] _ _)
        rw [hr]
        exact heap_alloc_new _ _
      · show room.toNat ≤ 1073741824
        omega
      · exact ⟨(by decide : (-1 : Int) ≤ -1), (by decide : (-1 : Int) ≤ 9223372036854775807)⟩
      · intro c hc; cases hc
      · intro f hf; cases hf

set_option maxHeartbeats 400000 in
set_option maxRecDepth 100000 in
theorem fuseD_any {w : World} {S : Nat → Prop} {p : Nat} {d : DS} (h : Dk w S p d) (n : Int) (hn : n ≤ 9223372036854775807) :
    Calls Tryz.prog 53 #[.pointer (some ⟨p, 0, none⟩), .int .i64 n] w fun e w' =>
      e = .returned (errV (if n < 0 then 1 else 0)) ∧ Dk w' S p (if n < 0 then d else { d with fuse := n }) ∧ Fr (fun j => j = p) w w' := by
  obtain ⟨m1, m2, cv, h⟩ := h
  have c6 := h.c6
  have f6 := h.fz 6
  have H := Lib.hid h
  clear h
  go_enter Tryz.func53, Tryz.ntmps53
  by_cases hneg : n < 0
  · go_wp2
    go_ret
    exact ⟨rfl, ⟨_, _, _, H.out⟩, Fr.refl _ _⟩
  · go_wp2
    go_ret
    refine ⟨rfl, ⟨m1, m2, cv, ?_⟩, fr_set w p 6 _⟩
    have := H.out.set (fr_set w p 6 (.int .i64 n)) (f := n) (dn := d.down) (heap_setCell_same w p 6 _ _ _ H.out.blk) ⟨by omega, hn⟩
    exact this

set_option maxHeartbeats 400000 in
set_option maxRecDepth 100000 in
theorem downD_any {w : World} {S : Nat → Prop} {p : Nat} {d : DS} (h : Dk w S p d) :
    Calls Tryz.prog 104 #[.pointer (some ⟨p, 0, none⟩)] w fun e w' => e = .returned (.bool d.down) ∧ w' = w := by
  obtain ⟨m1, m2, cv, h⟩ := h
  have c7 := h.c7
  clear h
  go_enter Tryz.func104, Tryz.ntmps104
  go_wp2
  go_ret
  exact ⟨rfl, rfl⟩

/-! ### Names -/
set_option maxHeartbeats 1000000 in
set_option maxRecDepth 100000 in
theorem sign_any (x : Nat) (w : World) : Calls Tryz.prog 241 #[.int .u8 (x : Int)] w fun e w' =>
    e = .returned (.bool ((decide (97 ≤ x) && decide (x ≤ 122)) || (decide (48 ≤ x) && decide (x ≤ 57)) || x == 45 || x == 46 || x == 126)) ∧ w' = w := by
  go_enter Tryz.func241, Tryz.ntmps241
  go_wp2
  all_goals (go_ret; refine ⟨ret_bool ?_, rfl⟩)
  all_goals (rw [Bool.eq_iff_iff]; simp only [Bool.or_eq_true, Bool.and_eq_true, decide_eq_true_eq, beq_iff_eq, eq_self, true_iff]; omega)

end Go.Proofs.YtlckadlkgjfjcaaGreatDoor

namespace Go.Proofs.YtlckadlkgjfjcaaGreatDoor
open Go.RowKit

def chN (n : Nm) (i : Nat) : Nat := (n.getD i 0).toNat
theorem size_nm (n : Nm) : ByteArray.size ⟨n.toArray⟩ = n.length := by simp [ByteArray.size]
theorem run_chN (n : Nm) (i : Nat) (hi : i < n.length) (w : World) : (Instr.index 9 (.string ⟨n.toArray⟩) (.int .i64 (i : Int))).run Tryz.prog w = .ok (.int .u8 ((chN n i : Nat) : Int)) w := by
  have hs := size_nm n
  rw [run_index_string w 9 _ .i64 (i : Int) Tryz.underlying9, dif_pos ⟨by omega, by omega⟩]
  have h : n.getD i 0 = (ByteArray.mk n.toArray)[i]'(by rw [hs]; exact hi) := by
    rw [List.getD, List.getElem?_eq_getElem hi]
    rfl
  simp only [Int.toNat_natCast, chN, h]
theorem all_take {n : Nm} {k : Nat} (h : k < n.length) : (n.take (k + 1)).all nsign = ((n.take k).all nsign && nsign (n.getD k 0)) := by
  rw [List.take_add_one, List.getElem?_eq_getElem h, Option.toList_some, List.all_append]
  simp [List.getD, List.getElem?_eq_getElem h]
theorem all_false {n : Nm} {k : Nat} (h : k < n.length) (hs : nsign (n.getD k 0) = false) : n.all nsign = false := by
  rw [List.all_eq_false]
  exact ⟨n[k], List.getElem_mem h, by
    have : n.getD k 0 = n[k] := by rw [List.getD, List.getElem?_eq_getElem h]; rfl
    rw [← this, hs]; decide⟩

set_option maxHeartbeats 1000000 in
set_option maxRecDepth 100000 in
theorem named_any (n : Nm) (hn : n.length ≤ 9223372036854775807) (w : World) : Calls Tryz.prog 185 #[nmV n] w fun e w' => e = .returned (.bool (named n)) ∧ w' = w := by
  have hs := size_nm n
  unfold nmV
  obtain ⟨s, hsn⟩ : ∃ s : ByteArray, s = ⟨n.toArray⟩ := ⟨_, rfl⟩
  rw [← hsn] at hs ⊢
  have HIX : Hid (∀ i, i < n.length → ∀ w : World, (Instr.index 9 (.string s) (.int .i64 (i : Int))).run Tryz.prog w = .ok (.int .u8 ((chN n i : Nat) : Int)) w) := Lib.hid (by rw [hsn]; exact fun i hi w => run_chN n i hi w)
  clear hsn
  go_enter Tryz.func185, Tryz.ntmps185
  by_cases h0 : n.length = 0
  · have HZ : Hid (named n = false) := Lib.hid (by unfold named; simp [h0])
    rw [h0] at hs
    clear h0
    go_wp2
    go_ret
    exact ⟨by rw [HZ.out]; rfl, rfl⟩
  · by_cases h24 : 24 < n.length
    · have HZ : Hid (named n = false) := Lib.hid (by
        unfold named
        have : decide (n.length ≤ 24) = false := decide_eq_false (by omega)
        rw [this]; simp)
      have h0i : ¬ ((n.length : Int) = 0) := by omega
      have h24i : (24 : Int) < (n.length : Int) := by omega
      go_wp2
      go_ret
      exact ⟨by rw [HZ.out]; rfl, rfl⟩
    · have h0i : ¬ ((n.length : Int) = 0) := by omega
      have h24i : ¬ (24 : Int) < (n.length : Int) := by omega
      have HN : Hid (named n = n.all nsign) := Lib.hid (by
        unfold named
        have e1 : decide (1 ≤ n.length) = true := decide_eq_true (by omega)
        have e2 : decide (n.length ≤ 24) = true := decide_eq_true (by omega)
        rw [e1, e2]; simp)
      go_wp2
      go_loopw [3, 14] (fun _ i wr => ∃ k : Nat, k ≤ n.length ∧ i = .int .i64 (k : Int) ∧ (n.take k).all nsign = true ∧ wr = w)
        (fun _ i _ => n.length - (intOf i).toNat)
      case atStart => exact ⟨0, Nat.zero_le _, rfl, rfl, rfl⟩
      case round =>
        obtain ⟨k, hk, rfl, hall, rfl⟩ := hrel
        have HALL := Lib.hid hall
        clear hall
        by_cases hlt : k < n.length
        · have hix := HIX.out k hlt
          have hlti : (k : Int) < n.length := by omega
          have HK := Lib.hid hlt
          go_wp2_with fail
          refine (sign_any _ _).mono ?_
          rintro e w' ⟨rfl, rfl⟩
          rw [show ((decide (97 ≤ chN n k) && decide (chN n k ≤ 122)) || (decide (48 ≤ chN n k) && decide (chN n k ≤ 57)) || chN n k == 45 || chN n k == 46 || chN n k == 126) = nsign (n.getD k 0) from rfl]
          cases hsg : nsign (n.getD k 0)
          · have HF := Lib.hid (all_false hlt hsg)
            clear hsg
            go_wp2
            go_ret
            exact ⟨by rw [HN.out, HF.out]; rfl, rfl⟩
          · have HT := Lib.hid (show (n.take (k + 1)).all nsign = true by rw [all_take hlt, HALL.out, hsg]; rfl)
            clear hsg
            go_wp2
            go_roundw
            case rel => exact ⟨k + 1, HK.out, by have := HK.out; go_num, HT.out, trivial⟩
            case measure =>
              have := HK.out
              simp [intOf]
              omega
        · obtain rfl : k = n.length := by omega
          go_wp2
          go_ret
          have := HALL.out
          rw [List.take_of_length_le (Nat.le_refl _)] at this
          exact ⟨by rw [HN.out, this]; rfl, rfl⟩

end Go.Proofs.YtlckadlkgjfjcaaGreatDoor
