/- A store that a statement drives; the chapter's example (alive). -/
import Derived.Test.YtmjpckodcafjiaaGreatStC
import Derived.Test.YtmjpckodcafjiaaGreatDskR
import Derived.Test.YtmjpckodcafjiaaGreatDskU
namespace Go.Proofs.YtmjpckodcafjiaaGreat
open Go.RowKit

/-- A store at block q, and its disk at p, both made behind w0; nothing of w0 was written. -/
def Sd (w0 w : World) (p q : Nat) (d : DS) : Prop := ∃ S, Dk w S p d ∧ (∀ j, S j → w0.heap.size ≤ j) ∧ Below w0.heap.size w0 w ∧ AtS w q p ∧ ¬ S q
section
variable {w0 w w' W : World} {p q : Nat} {d : DS}
theorem Sd.drv (h : Sd w0 w p q d) : Drv w0 w p d := by obtain ⟨S, h1, h2, h3, _⟩ := h; exact ⟨S, h1, h2, h3⟩
theorem Sd.below (h : Sd w0 w p q d) : Below w0.heap.size w0 w := h.drv.below
theorem Sd.cell (h : Sd w0 w p q d) : w.cell? ⟨q, 0, none⟩ = some (.pointer (some ⟨p, 0, none⟩)) := by obtain ⟨S, _, _, _, h, _⟩ := h; exact h.1
theorem Sd.more (h : Sd w0 w p q d) (hb : Below w.heap.size w w') : Sd w0 w' p q d := by
  obtain ⟨S, h1, h2, h3, h4, h5⟩ := h
  exact ⟨S, h1.keep (kept_new hb S), h2, h3.trans (hb.mono h3.size), ⟨(World.cell?_of_block (hb.block q h4.2)).trans h4.1, Nat.lt_of_lt_of_le h4.2 hb.size⟩, h5⟩
theorem sd_post {S : Nat → Prop} {d' : DS} (h2 : ∀ j, S j → w0.heap.size ≤ j) (h3 : Below w0.heap.size w0 w) (h4 : AtS w q p) (h5 : ¬ S q) (hp : DPost S p w w' d') : Sd w0 w' p q d' := by
  have h6 := h4.post h5 hp
  obtain ⟨S', hd, hf, _, ht⟩ := hp
  refine ⟨S', hd, fun j hj => ?_, h3.trans (hf.below h3.size fun j hj h => Nat.not_le_of_lt hj (h2 j h)), h6, fun hS => ?_⟩
  · rcases ht j hj with h | h
    · exact h2 j h
    · exact Nat.le_trans h3.size h
  · rcases ht q hS with h | h
    · exact h5 h
    · exact absurd h4.2 (Nat.not_lt.2 h)
def SdPost (w0 : World) (p q : Nat) (r : DS × Nat) (e : Ending) (w' : World) : Prop := e = .returned (errV r.2) ∧ Sd w0 w' p q r.1
theorem Sd.put (h : Sd w0 w p q d) (hb : Below w.heap.size w W) (hsz : d.sz < 1000000000) {n : Nm} (hn : n.length < 9223372036854775807) {v : Value} {b : List Nat} {V : Nat → Prop} (hv : At W V .u8 v b) (hV : ∀ j, V j → j < w0.heap.size ∨ w.heap.size ≤ j) (hby : ∀ y ∈ b, y < 256) :
    Calls Tryz.prog 17 #[.pointer (some ⟨q, 0, none⟩), nmV n, v] W (SdPost w0 p q (sput d n b)) := by
  have hm := h.more hb
  obtain ⟨S, h1, h2, h3, h4, h5⟩ := h
  have h6 : Below w0.heap.size w0 W := h3.trans (hb.mono h3.size)
  have h7 : AtS W q p := ⟨(World.cell?_of_block (hb.block q h4.2)).trans h4.1, Nat.lt_of_lt_of_le h4.2 hb.size⟩
  refine (put_store (h1.keep (kept_new hb S)) h7 h5 hsz hn (hv.mono fun j _ hj hS => ?_) hby).mono fun e w' hp => ⟨hp.1, sd_post h2 h6 h7 h5 hp.2⟩
  rcases hV j hj with h8 | h8
  · exact Nat.not_le_of_lt h8 (h2 j hS)
  · exact absurd (h1.lt hS) (Nat.not_lt.2 h8)
theorem Sd.delete (h : Sd w0 w p q d) (hsz : d.sz < 1000000000) {n : Nm} (hn : n.length ≤ 9223372036854775807) :
    Calls Tryz.prog 18 #[.pointer (some ⟨q, 0, none⟩), nmV n] w (SdPost w0 p q (sdelete d n)) := by
  obtain ⟨S, h1, h2, h3, h4, h5⟩ := h
  exact (delete_store h1 h4 h5 hsz hn).mono fun e w' hp => ⟨hp.1, sd_post h2 h3 h4 h5 hp.2⟩
theorem Sd.get (h : Sd w0 w p q d) {n : Nm} (hn : n.length ≤ 1000) :
    Calls Tryz.prog 14 #[.pointer (some ⟨q, 0, none⟩), nmV n] w (ReadDPost (sget d n) w) := by
  obtain ⟨S, h1, h2, h3, h4, h5⟩ := h
  exact get_store h1 h4 hn
theorem Drv.open (h : Drv w0 w p d) (hsz : d.sz ≤ 500000) :
    Calls Tryz.prog 10 #[.pointer (some ⟨p, 0, none⟩)] w fun e w' => ((sopen d).2 ≠ 0 ∧ e = .returned (.tuple #[.pointer none, errV (sopen d).2]) ∧ Drv w0 w' p (sopen d).1) ∨ ((sopen d).2 = 0 ∧ ∃ q, e = .returned (.tuple #[.pointer (some ⟨q, 0, none⟩), .nilIface]) ∧ Sd w0 w' p q (sopen d).1) := by
  obtain ⟨S, h1, h2, h3⟩ := h
  refine (open_store h1 hsz).mono fun e w' hp => ?_
  rcases hp with ⟨hz, he, hp⟩ | ⟨hz, q, w1, he, hp, hq, hb, ha⟩
  · exact .inl ⟨hz, he, Drv.post h2 h3 hp⟩
  · refine .inr ⟨hz, q, he, ?_⟩
    obtain ⟨S', hd, hs, hbel⟩ := Drv.post h2 h3 hp
    exact ⟨S', hd.keep (kept_new hb S'), hs, hbel.trans (hb.mono hbel.size), ha, fun hS => absurd (hd.lt hS) (by omega)⟩
end

/-! ### The chapter's example -/
def aD : DS := ⟨100, [([97], [120])], [], -1, false⟩
theorem al_open : sopen (dnew 100) = (dnew 100, 0) := by
  have h : dlist (dnew 100) = ([], 0) := by
    unfold dlist
    rw [if_neg (by decide)]
    show (srt ([] : List Nm), 0) = _
    unfold srt
    simp
  unfold sopen
  rw [h]
  rfl
theorem al_put : sput (dnew 100) [97] [120] = (aD, 0) := by rfl
theorem al_cut : dstart (dcut aD []) = aD := by rfl
theorem al_again : sopen aD = (aD, 0) := by
  have h : dlist aD = ([[97]], 0) := by
    unfold dlist
    rw [if_neg (by decide)]
    show (srt ([[97]] : List Nm), 0) = _
    unfold srt
    simp
  unfold sopen
  rw [h]
  rfl
theorem al_get : sget aD [97] = ([120], 0) := by rfl

set_option maxHeartbeats 2000000 in
set_option maxRecDepth 100000 in
theorem alive7_any (w : World) : Calls Tryz.prog 5 #[] w fun e w' => e = .returned (.bool true) ∧ Below w.heap.size w w' := by
  go_enter Tryz.func5, Tryz.ntmps5
  go_wp2_with fail
  refine (newD_any 100 w).mono ?_
  rintro e w1 (⟨_, _, rfl, hd1, hb1, hs1⟩ | ⟨h, _⟩)
  case inr => exact absurd ⟨by decide, by decide⟩ h
  have HD1 : Hid (Drv w w1 w.heap.size (dnew 100)) := Lib.hid (drv_new (Below.refl _ _) hd1 hb1)
  clear hd1 hb1 hs1
  obtain ⟨p, hp⟩ : ∃ p, p = w.heap.size := ⟨_, rfl⟩
  rw [← hp] at HD1 ⊢
  clear hp
  go_wp2_with fail
  refine (HD1.out.open (by decide)).mono ?_
  rw [al_open]
  rintro e w2 (⟨h, _⟩ | ⟨_, q, rfl, hs2⟩)
  · exact absurd rfl h
  have HS2 := Lib.hid hs2
  clear hs2 HD1
  have hcv := fun (C : Array Value) (n c : Nat) => Lib.run_convert_bytes_const (P := Tryz.prog) w2 41 5 C n c Tryz.underlying41 Tryz.underlying5
  obtain ⟨W3, hW3⟩ : ∃ W3, W3 = w2.alloc (.cells #[.int .u8 120] 5 (1, 2)) := ⟨_, rfl⟩
  have hb3 : Below w2.heap.size w2 W3 := by rw [hW3]; exact (Below.refl _ _).alloc (Nat.le_refl _) _
  have hat : At W3 (fun j => j = w2.heap.size) .u8 (.slice (some ⟨w2.heap.size, 0, none⟩) 1 1) [120] := by
    rw [hW3]
    exact ⟨reads_marked w2 5 .u8 [120] _ _ (by simp [vals]) (by simp [maxLen]), .inr ⟨w2.heap.size, 0, 1, 1, rfl, rfl⟩⟩
  have hcall := HS2.out.put hb3 (by decide) (n := [97]) (by decide) hat (fun j hj => .inr (Nat.le_of_eq hj.symm)) (by simp)
  rw [al_put] at hcall
  have HC3 : Hid (Calls Tryz.prog 17 #[.pointer (some ⟨q, 0, none⟩), .string { data := #[97] }, .slice (some ⟨w2.heap.size, 0, none⟩) 1 1] W3 (SdPost w p q (aD, 0))) := Lib.hid hcall
  have HW3 := Lib.hid hW3
  clear hW3 hb3 hat hcall
  go_wp2_with fail
  rw [← HW3.out]
  refine HC3.out.mono ?_
  rintro e w4 ⟨rfl, hs4⟩
  rw [show errV ((aD, 0) : DS × Nat).2 = .nilIface from rfl]
  have HS4 := Lib.hid hs4
  clear hs4
  go_wp2_with fail
  refine (HS4.out.drv.cut (by decide) (kv := .slice none 0 0) (ks := []) ⟨none, 0, rfl, by simp, by simp [maxLen], fun _ => rfl, .inl rfl⟩).mono ?_
  rintro e w5 ⟨rfl, hd5⟩
  have HD5 := Lib.hid hd5
  clear hd5
  go_wp2_with fail
  refine HD5.out.start.mono ?_
  rw [al_cut]
  rintro e w6 ⟨rfl, hd6⟩
  have HD6 := Lib.hid hd6
  clear hd6
  go_wp2_with fail
  refine (HD6.out.open (by decide)).mono ?_
  rw [al_again]
  rintro e w7 (⟨h, _⟩ | ⟨_, q2, rfl, hs7⟩)
  · exact absurd rfl h
  have hg := hs7.get (n := [97]) (by decide)
  rw [al_get] at hg
  have HG : Hid (Calls Tryz.prog 14 #[.pointer (some ⟨q2, 0, none⟩), .string { data := #[97] }] w7 (ReadDPost ([120], 0) w7)) := Lib.hid hg
  have HB7 := Lib.hid hs7.below
  clear hg hs7
  go_wp2_with fail
  refine HG.out.mono ?_
  rintro e w8 ⟨v, rfl, ho8, hb8⟩
  have hc1 : (convert 41 9 v).run Tryz.prog w8 = .ok (.string (strOfNums (([120] : List Nat).map (fun n : Nat => (n : Int))))) w8 := conv_reads _ _ w8 ho8.reads
  rw [show strOfNums (([120] : List Nat).map (fun n : Nat => (n : Int))) = { data := #[120] } from rfl] at hc1
  obtain ⟨ao8, cap8, rfl, _, _, _⟩ := ho8.reads.val
  have HB8 := Lib.hid (HB7.out.trans (hb8.mono HB7.out.size))
  clear ho8 hb8
  rw [show errV (([120], 0) : List Nat × Nat).2 = .nilIface from rfl]
  have hc2 : (convert 41 9 (.slice ao8 1 cap8)).run Tryz.prog w8 = .ok (.string { data := #[120] }) w8 := hc1
  clear hc1
  go_wp2
  go_ret
  exact ⟨rfl, HB8.out⟩

end Go.Proofs.YtmjpckodcafjiaaGreat
