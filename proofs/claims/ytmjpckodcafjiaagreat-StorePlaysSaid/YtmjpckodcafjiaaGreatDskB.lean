/- Files in memory: the contracts of has, sizeOf, many, text. -/
import Derived.Test.YtmjpckodcafjiaaGreatDskA
import Derived.Laws.DeepNot64
import Derived.Lib.Hide
namespace Go.Proofs.YtmjpckodcafjiaaGreat
open Go.RowKit

/-- A map of texts in memory; all its blocks are of S. -/
def TM (w : World) (S : Nat → Prop) (mb : Option Nat) (l : Fm (List Nat)) : Prop :=
  ∃ es, MapV w mb es ∧ Zip (At w (Typ w S 5) .u8) es l ∧ ∀ b, mb = some b → S b

theorem TM.apart {w : World} {S : Nat → Prop} {mb : Option Nat} {l : Fm (List Nat)} (h : TM w S mb l) : Apart l := by
  obtain ⟨es, hm, hz, _⟩ := h
  exact hm.apart.zip hz
/-- What is kept: the map's block, and the blocks of bytes. -/
theorem TM.keep {w w' : World} {S S' : Nat → Prop} {mb : Option Nat} {l : Fm (List Nat)} (h : TM w S mb l) (hk : Kept (Typ w S 5) w w') (hb : ∀ b, mb = some b → w'.heap[b]? = w.heap[b]?) (hs : ∀ j, S j → S' j) : TM w' S' mb l := by
  obtain ⟨es, hm, hz, hS⟩ := h
  exact ⟨es, hm.keep hb, hz.mono fun a b hat => hat.typ hk hs, fun b e => hs b (hS b e)⟩
theorem TM.lt {w : World} {S : Nat → Prop} {b : Nat} {l : Fm (List Nat)} (h : TM w S (some b) l) : b < w.heap.size := by
  obtain ⟨es, hm, _⟩ := h
  exact hm.lt
theorem TM.obj {w : World} {S : Nat → Prop} {b : Nat} {l : Fm (List Nat)} (h : TM w S (some b) l) : ∃ e c, w.heap[b]? = some (.map e c) := by
  obtain ⟨es, hm, _⟩ := h
  exact hm.obj

set_option maxHeartbeats 400000 in
set_option maxRecDepth 100000 in
theorem has_any {w : World} {p o : Nat} {mb : Option Nat} {es : Fm Value} (hc : w.cell? ⟨p, o, none⟩ = some (.map mb)) (hm : MapV w mb es) {n : Nm} (hn : n.length ≤ maxLen) :
    Calls Tryz.prog 65 #[.pointer (some ⟨p, o, none⟩), nmV n] w fun e w' => e = .returned (.bool (fhas es n)) ∧ w' = w := by
  have hl := hm.lookOk hn
  unfold nmV at hl ⊢
  go_enter Tryz.func65, Tryz.ntmps65
  go_wp2
  go_ret
  exact ⟨rfl, rfl⟩

set_option maxHeartbeats 400000 in
set_option maxRecDepth 100000 in
theorem many_any {w : World} {p o : Nat} {mb : Option Nat} {es : Fm Value} (hc : w.cell? ⟨p, o, none⟩ = some (.map mb)) (hm : MapV w mb es) :
    Calls Tryz.prog 86 #[.pointer (some ⟨p, o, none⟩)] w fun e w' => e = .returned (.int .i64 (es.length : Int)) ∧ w' = w := by
  have hl := fun ty => hm.len ty
  go_enter Tryz.func86, Tryz.ntmps86
  go_wp2
  go_ret
  exact ⟨rfl, rfl⟩

/-- What a look-up hands back reads as what stands there. -/
theorem zip_val {w : World} {B : Nat → Prop} {es : Fm Value} {l : Fm (List Nat)} (hz : Zip (At w B .u8) es l) (n : Nm) : At w B .u8 ((fget es n).getD (.slice none 0 0)) ((fget l n).getD []) := by
  rcases hz.get n with ⟨h1, h2⟩ | ⟨a, b, h1, h2, h⟩
  · rw [h1, h2]
    exact ⟨⟨none, 0, rfl, by simp, by simp [maxLen], fun _ => rfl, .inl rfl⟩, .inl rfl⟩
  · rw [h1, h2]; exact h

set_option maxHeartbeats 400000 in
set_option maxRecDepth 100000 in
theorem sizeOf_any {w : World} {p o : Nat} {mb : Option Nat} {es : Fm Value} {l : Fm (List Nat)} {B : Nat → Prop} (hc : w.cell? ⟨p, o, none⟩ = some (.map mb)) (hm : MapV w mb es) (hz : Zip (At w B .u8) es l) {n : Nm} (hn : n.length ≤ maxLen) :
    Calls Tryz.prog 87 #[.pointer (some ⟨p, o, none⟩), nmV n] w fun e w' => e = .returned (.int .i64 (fsz l n : Int)) ∧ w' = w := by
  have hl := hm.look hn
  obtain ⟨ao, cap, hv, _, _, _⟩ := (zip_val hz n).reads.val
  rw [hv] at hl
  unfold nmV at hl ⊢
  clear hv
  go_enter Tryz.func87, Tryz.ntmps87
  go_wp2
  go_ret
  exact ⟨rfl, rfl⟩

set_option maxHeartbeats 400000 in
set_option maxRecDepth 100000 in
theorem text_any {w : World} {p o : Nat} {mb : Option Nat} {es : Fm Value} {l : Fm (List Nat)} {B : Nat → Prop} (hc : w.cell? ⟨p, o, none⟩ = some (.map mb)) (hm : MapV w mb es) (hz : Zip (At w B .u8) es l) {n : Nm} (hn : n.length ≤ maxLen)
    (hx : fsz l n ≤ 100000000) :
    Calls Tryz.prog 66 #[.pointer (some ⟨p, o, none⟩), nmV n] w fun e w' => ∃ v', e = .returned v' ∧ Owns w' w.heap.size 5 .u8 v' ((fget l n).getD []) ∧ Below w.heap.size w w' := by
  have hl := hm.look hn
  have hr := (zip_val hz n).reads
  obtain ⟨v, hv⟩ : ∃ v, v = (fget es n).getD (.slice none 0 0) := ⟨_, rfl⟩
  rw [← hv] at hl hr
  have hcl := clone_any v _ w hr (by unfold fsz at hx; omega)
  have HC := Lib.hid hcl
  clear hv hr hcl
  unfold nmV at hl ⊢
  go_enter Tryz.func66, Tryz.ntmps66
  go_wp2_with fail
  refine HC.out.mono ?_
  rintro e w' ⟨v', rfl, ho, hb⟩
  obtain ⟨ao, cap, rfl, _, _, _⟩ := ho.reads.val
  go_wp2
  go_ret
  exact ⟨_, rfl, ho, hb⟩

end Go.Proofs.YtmjpckodcafjiaaGreat
