/- Files in memory: the contracts of take, and of do. -/
import Derived.Test.YtmjpckodcafjiaaGreatDskC
import Derived.Maps.OwnSet
namespace Go.Proofs.YtmjpckodcafjiaaGreat
open Go.RowKit

def TakePost (S : Nat → Prop) (p o : Nat) (mb : Option Nat) (cs : Array Value) (l : Fm (List Nat)) (n : Nm) (w : World) (e : Ending) (w' : World) : Prop :=
  ∃ v, e = .returned v ∧ At w' (Typ w' (Ext S w w') 5) .u8 v ((fget l n).getD []) ∧ FilesDone S p o mb cs (fdel l n) w w' mb

theorem set_same {cs : Array Value} {o : Nat} {v : Value} (h : cs[o]? = some v) : cs.setIfInBounds o v = cs := by
  apply Array.ext_getElem?
  intro i
  by_cases hi : i = o
  · subst hi
    rw [h, Array.getElem?_setIfInBounds_self_of_lt (Array.getElem?_eq_some_iff.1 h).1]
  · rw [Array.getElem?_setIfInBounds_ne (Ne.symm hi)]

theorem sub_wrap {a c d : Nat} (h : a < 4611686018427387904) (hc : a = d + c) : wrap64 ((a : Int) - (c : Int)) = (d : Int) := by
  rw [w64_id (by omega) (by omega)]
  omega

set_option maxHeartbeats 1000000 in
set_option maxRecDepth 100000 in
theorem take_any {w : World} {S : Nat → Prop} {p o : Nat} {mb : Option Nat} {cs : Array Value} {l : Fm (List Nat)} (hp : w.heap[p]? = some (.cells cs 73 (0, 0))) (hc0 : cs[o]? = some (.map mb)) (hc1 : cs[o + 1]? = some (.int .i64 (tot l : Int)))
    (ht : TM w S mb l) {n : Nm} (hn : n.length ≤ maxLen) (htot : tot l < 4611686018427387904) :
    Calls Tryz.prog 79 #[.pointer (some ⟨p, o, none⟩), nmV n] w (TakePost S p o mb cs l n w) := by
  have hap := ht.apart
  obtain ⟨es, hm, hz, hSb⟩ := ht
  have c0 : w.cell? ⟨p, o, none⟩ = some (.map mb) := by rw [cell_of_row w p o _ _ _ hp]; exact hc0
  have c1 : w.cell? ⟨p, o + 1, none⟩ = some (.int .i64 (tot l : Int)) := by rw [cell_of_row w p (o + 1) _ _ _ hp]; exact hc1
  have f1 : w.frozen? ⟨p, o + 1, none⟩ = false := frozen_of_row w p (o + 1) _ _ hp
  have hl := hm.look hn
  obtain ⟨v, hv⟩ : ∃ v, v = (fget es n).getD (.slice none 0 0) := ⟨_, rfl⟩
  have hat := zip_val hz n
  rw [← hv] at hl hat
  obtain ⟨ao, cap, rfl, _, _, _⟩ := hat.reads.val
  have hfl : ((fget l n).getD []).length = fsz l n := rfl
  rw [hfl] at hl hat
  obtain ⟨z, hzt⟩ : ∃ z, z = tot (fdel l n) := ⟨_, rfl⟩
  have hwr : wrap64 ((tot l : Int) - (fsz l n : Int)) = (z : Int) := sub_wrap htot (by rw [hzt]; exact tot_del hap n)
  obtain ⟨W1, hW1⟩ : ∃ W1, W1 = w.setCell ⟨p, o + 1, none⟩ (.int .i64 (z : Int)) := ⟨_, rfl⟩
  have hbp : W1.heap[p]? = some (.cells (cs.setIfInBounds (o + 1) (.int .i64 (z : Int))) 73 (0, 0)) := by rw [hW1]; exact heap_setCell_same w p (o + 1) _ _ _ hp
  have hfr : Fr (fun j => j = p) w W1 := by rw [hW1]; exact fr_set w p (o + 1) _
  have c2 : W1.cell? ⟨p, o, none⟩ = some (.map mb) := by rw [cell_of_row W1 p o _ _ _ hbp, Array.getElem?_setIfInBounds_ne (by omega)]; exact hc0
  have HM1 : Hid (MapV W1 mb es) := Lib.hid (hm.keep fun b e => hfr.block b (by subst e; exact hm.lt) (by
    rintro rfl
    subst e
    obtain ⟨e, c, h⟩ := hm.obj
    rw [h] at hp
    cases hp))
  have HPM : Hid (∀ b, mb = some b → p ≠ b) := Lib.hid fun b e h => by
    subst h e
    obtain ⟨e, c, h⟩ := hm.obj
    rw [h] at hp
    cases hp
  have HM := Lib.hid hm
  have HAT := Lib.hid hat
  have HZ := Lib.hid hz
  have HP := Lib.hid hp
  have HSB := Lib.hid hSb
  have HC1 := Lib.hid hc1
  have HC0 := Lib.hid hc0
  have HZT := Lib.hid hzt
  have HW1 := Lib.hid hW1
  have HBP := Lib.hid hbp
  have HFR := Lib.hid hfr
  have HKEY := Lib.hid (key_nm hn)
  clear hm hat hz hp hSb hap hzt hc0 hc1 hfl hW1 hbp hfr
  obtain ⟨nv, hnv⟩ : ∃ nv, nv = nmV n := ⟨_, rfl⟩
  rw [← hnv] at hl HKEY ⊢
  have HNV := Lib.hid hnv
  clear hnv
  have HVV := Lib.hid hv
  clear hv
  -- the end, whatever the map is
  have fin : ∀ w2 : World, (∀ b, mb = some b → MapV w2 (some b) (fdel es n)) → (mb = none → w2 = W1) → Fr (fun j => mb = some j) W1 w2 →
      At w2 (Typ w2 (Ext S w w2) 5) .u8 (.slice ao (fsz l n) cap) ((fget l n).getD []) ∧ FilesDone S p o mb cs (fdel l n) w w2 mb := by
    intro w2 h1 h2 h3
    have hFR : Fr (fun j => j = p ∨ mb = some j) w w2 := HFR.out.trans h3 (fun _ _ h => .inl h) (fun _ _ h => .inr h)
    have hk : Kept (Typ w S 5) w w2 := hFR.kept _ fun j hj hT => by
      rintro (rfl | h)
      · exact typ_not_other HP.out (by decide) hT
      · have hm := HM.out
        rw [h] at hm
        exact typ_not_map hm.obj hT
    refine ⟨HAT.out.typ hk fun j h => .inl h, ?_, ?_, hFR, .inl rfl⟩
    · rw [set_same HC0.out, ← HZT.out]
      refine (h3.block p (by have := (Array.getElem?_eq_some_iff.1 HBP.out).1; exact this) fun h => HPM.out _ h rfl).trans HBP.out
    · refine ⟨fdel es n, ?_, (HZ.out.mono fun a b' h => h.typ hk fun j h => .inl h).del n, fun b' e => .inl (HSB.out b' e)⟩
      cases mb with
      | none => have hm := HM.out; obtain rfl : es = [] := hm; rfl
      | some b => exact h1 b rfl
  have FIN := Lib.hid fin
  clear fin
  go_enter Tryz.func79, Tryz.ntmps79
  cases mb with
  | none =>
    have hdr := fun (w : World) ty => Maps.drop_nil (P := Tryz.prog) (w := w) (t := 68) (e := 41) keyed_str Tryz.underlying68 HKEY.out ty
    go_wp2
    rw [← HW1.out]
    go_ret
    exact ⟨_, rfl, FIN.out W1 (fun b e => by cases e) (fun _ => rfl) (Fr.refl _ _)⟩
  | some b =>
    go_wp2_with (at_delete; go_must (refine wpList_delete_own _ rfl _ _ 68 9 rfl 41 keyed_str Tryz.underlying68 hv b es.length (.map (es.map ent)) rfl (by rw [← HW1.out]; exact HM1.out) _ _ rfl HKEY.out ?_))
    rw [← HW1.out]
    intro w2 hown2 hturn2
    rw [del_ent] at hown2
    have hf := FIN.out w2 (fun b' e => by cases e; exact tight hown2) (fun e => by cases e) (by have := fr_grown hturn2.grown; exact this.mono fun j _ h => h.symm)
    have HF := Lib.hid hf
    clear hf hown2 hturn2
    go_wp2
    go_ret
    exact ⟨_, rfl, HF.out⟩

end Go.Proofs.YtmjpckodcafjiaaGreat
