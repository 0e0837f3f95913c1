/- A disk in memory: the contracts of lose, Start, and a change's loading. -/
import Derived.Test.YtmjpckodcafjiaaGreatDskI
namespace Go.Proofs.YtmjpckodcafjiaaGreat
open Go.RowKit

/-- What lies in a disk's block, whatever is shown. -/
def blkD (room : Int) (m1 : Option Nat) (z1 : Int) (x3 x4 x5 x6 x7 : Value) : Array Value := #[.int .i64 room, .map m1, .int .i64 z1, x3, x4, x5, x6, x7]
def LosePost (S : Nat → Prop) (p : Nat) (room : Int) (m1 : Option Nat) (l : Fm (List Nat)) (x6 x7 : Value) (w : World) (e : Ending) (w' : World) : Prop :=
  e = .returned (.tuple #[]) ∧ ∃ mb', w'.heap[p]? = some (.cells (blkD room m1 (tot l : Int) (.map mb') (.int .i64 (tot l : Int)) (.slice none 0 0) x6 x7) 73 (0, 0)) ∧
    TM w' (Ext S w w') m1 l ∧ TM w' (Ext S w w') mb' l ∧ (∀ b, m1 = some b → mb' ≠ some b) ∧ Fr (fun j => j = p) w w'

set_option maxHeartbeats 1000000 in
set_option maxRecDepth 100000 in
theorem lose_any {w : World} {S : Nat → Prop} {p : Nat} {room : Int} {m1 : Option Nat} {l : Fm (List Nat)} {x3 x4 x5 x6 x7 : Value} (hp : w.heap[p]? = some (.cells (blkD room m1 (tot l : Int) x3 x4 x5 x6 x7) 73 (0, 0)))
    (ht : TM w S m1 l) : Calls Tryz.prog 62 #[.pointer (some ⟨p, 0, none⟩)] w (LosePost S p room m1 l x6 x7 w) := by
  have c5 : w.cell? ⟨p, 5, none⟩ = some x5 := by rw [cell_of_row _ _ 5 _ _ _ hp]; rfl
  have f5 := frozen_of_row w p 5 _ _ hp
  obtain ⟨W1, hW1⟩ : ∃ W1, W1 = w.setCell ⟨p, 5, none⟩ (.slice none 0 0) := ⟨_, rfl⟩
  have hp1 : W1.heap[p]? = some (.cells (blkD room m1 (tot l : Int) x3 x4 (.slice none 0 0) x6 x7) 73 (0, 0)) := by rw [hW1]; exact heap_setCell_same w p 5 _ _ _ hp
  have hfr1 : Fr (fun j => j = p) w W1 := by rw [hW1]; exact fr_set w p 5 _
  have hpm : ∀ b, m1 = some b → b ≠ p := fun b e hb => by
    subst e hb
    obtain ⟨e, c, ho⟩ := ht.obj
    have := ho.symm.trans hp
    cases this
  have hk1 : Kept (Typ w S 5) w W1 := hfr1.kept _ fun j hj hT e => by
    subst e
    exact typ_not_other hp (by decide) hT
  have ht1 : TM W1 S m1 l := ht.keep hk1 (fun b e => hfr1.block b (by subst e; exact ht.lt) (hpm b e)) fun _ h => h
  have HAP := Lib.hid (apart_any (w := W1) (p := p) (o := 1) (mb := m1) (z := (tot l : Int)) hp1 rfl rfl (fun b e => by subst e; exact ht1.obj))
  have HP1 := Lib.hid hp1
  have HT1 := Lib.hid ht1
  have HFR1 := Lib.hid hfr1
  have HPM := Lib.hid hpm
  have HW1 := Lib.hid hW1
  clear hp hW1 hp1 hfr1 hpm hk1 ht1 ht
  go_enter Tryz.func62, Tryz.ntmps62
  go_wp2_with fail
  rw [← HW1.out]
  refine HAP.out.mono ?_
  rintro e w2 ⟨mb', rfl, hb2, hcase⟩
  have hpl := (Array.getElem?_eq_some_iff.1 HP1.out).1
  have hp2 := (hb2.block p hpl).trans HP1.out
  have c3 : w2.cell? ⟨p, 3, none⟩ = some x3 := by rw [cell_of_row _ _ 3 _ _ _ hp2]; rfl
  have c4 : w2.cell? ⟨p, 4, none⟩ = some x4 := by rw [cell_of_row _ _ 4 _ _ _ hp2]; rfl
  have f3 := frozen_of_row w2 p 3 _ _ hp2
  have f4 := frozen_of_row w2 p 4 _ _ hp2
  have HB2 := Lib.hid hb2
  have HCASE := Lib.hid hcase
  have HP2 := Lib.hid hp2
  clear hb2 hcase hp2 hpl c5 f5
  go_wp2
  first | go_end0 | (simp only [Exit.inBlock, Exit.then]; refine bodyPost_ret (results_none rfl _ _ _) rfl ?_) | refine bodyPost_ret (results_none rfl _ _ _) rfl ?_
  obtain ⟨W3, hW3⟩ : ∃ W3, W3 = (w2.setCell ⟨p, 3, none⟩ (.map mb')).setCell ⟨p, 4, none⟩ (.int .i64 (tot l : Int)) := ⟨_, rfl⟩
  rw [← hW3]
  have hp3 : W3.heap[p]? = some (.cells (blkD room m1 (tot l : Int) (.map mb') (.int .i64 (tot l : Int)) (.slice none 0 0) x6 x7) 73 (0, 0)) := by
    rw [hW3]; exact heap_setCell_same _ p 4 _ _ _ (heap_setCell_same w2 p 3 _ _ _ HP2.out)
  have hfr2 : Fr (fun j => j = p) w2 W3 := by rw [hW3]; exact Fr.trans (fr_set w2 p 3 _) (fr_set _ p 4 _) (fun _ _ h => h) (fun _ _ h => h)
  have hfr : Fr (fun j => j = p) w W3 := HFR1.out.trans ((fr_below HB2.out (fun j => j = p)).trans hfr2 (U := fun j => j = p) (fun _ _ h => h) (fun _ _ h => h)) (fun _ _ h => h) (fun _ _ h => h)
  have hfr12 : Fr (fun j => j = p) W1 W3 := (fr_below HB2.out (fun j => j = p)).trans hfr2 (fun _ _ h => h) (fun _ _ h => h)
  have hk : Kept (Typ W1 S 5) W1 W3 := hfr12.kept _ fun j hj hT e => by
    subst e
    exact typ_not_other HP1.out (by decide) hT
  refine ⟨rfl, mb', hp3, HT1.out.keep hk (fun b e => hfr12.block b (by subst e; exact HT1.out.lt) (HPM.out b e)) fun j h => .inl h, ?_, ?_, hfr⟩
  · obtain ⟨es, hm, hz, hS⟩ := HT1.out
    refine ⟨es, ?_, hz.mono fun a b h => h.typ hk fun j h => .inl h, fun b e => ?_⟩
    · rcases HCASE.out with ⟨h1, h2⟩ | ⟨b, b', es', clock, h1, h2, h3, h4, h5⟩
      · subst h1 h2; exact hm
      · subst h1 h2
        obtain ⟨e1, c1, hb, F, hsz, hD⟩ := hm
        have h6 := hb.symm.trans h4
        cases h6
        exact ⟨_, _, (hfr2.block b' (Array.getElem?_eq_some_iff.1 h5).1 fun e => by
          have := (Array.getElem?_eq_some_iff.1 HP1.out).1
          omega).trans h5, F, hsz, hD⟩
    · rcases HCASE.out with ⟨h1, h2⟩ | ⟨b1, b', es', clock, h1, h2, h3, h4, h5⟩
      · subst h2; cases e
      · subst h2
        cases e
        exact .inr ⟨Nat.le_trans HFR1.out.size h3, Nat.lt_of_lt_of_le (Array.getElem?_eq_some_iff.1 h5).1 hfr2.size⟩
  · intro b e hb
    rcases HCASE.out with ⟨h1, h2⟩ | ⟨b1, b', es', clock, h1, h2, h3, h4, h5⟩
    · rw [e] at h1; cases h1
    · rw [h2] at hb
      cases hb
      subst e
      have := HT1.out.lt
      omega

end Go.Proofs.YtmjpckodcafjiaaGreat
