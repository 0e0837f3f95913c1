/- Package shelf: Tail, Unit, Next, Broken, by the program. · Package shelf: what a shelf is when its disk has changed, when it broke, when it has another unit. · Package shelf: Do, by the program. · Package shelf: deleteBut, by the program. -/
import Derived.Test.YtlckadlkgjfjcaaGreatDoorSdP
import Derived.Test.YtlckadlkgjfjcaaGreatDoorQi
namespace Go.Proofs.YtlckadlkgjfjcaaGreatDoor
open Go.RowKit
section
variable {w : World} {S : Nat → Prop} {h p q u m : Nat} {B : Nat → Prop} {U : US} {next : Nat} {br : Bool} {D : DS}
set_option maxHeartbeats 1000000 in
set_option maxRecDepth 100000 in
theorem shunit_any (s : ShelfAt w S h p q u m B U next br) :
    Calls Tryz.prog 56 #[.pointer (some ⟨h, 0, none⟩)] w fun r w' => ∃ u' m', r = .returned (.pointer (some ⟨u', 0, none⟩)) ∧ Un w' (fun j => B j ∧ j < w.heap.size) u' m' U ∧ w.heap.size ≤ u' ∧ w.heap.size ≤ m' ∧ Below w.heap.size w w' := by
  obtain ⟨x0, x1, _⟩ := s.x
  have HC := Lib.hid (ucopy_any (s.un.more (C := fun j => B j ∧ j < w.heap.size) (fun j hj hB => ⟨hB, hj⟩) (fun hc => s.un.nu hc.1) (fun hc => s.un.nm hc.1)) (fun j hj => hj.2))
  clear s
  go_enter Tryz.func56, Tryz.ntmps56
  go_wp2_with fail
  refine HC.out.mono ?_
  rintro r w2 ⟨u', m', rfl, h1, h2, h3, h4⟩
  have H := Lib.hid (And.intro h1 (And.intro h2 (And.intro h3 h4)))
  clear h1 h2 h3 h4
  go_wp2
  go_ret
  exact ⟨u', m', rfl, H.out⟩
theorem ShelfAt.old {w' : World} (s : ShelfAt w S h p q u m B U next br) (hb : Below w.heap.size w w') : ShelfAt w' S h p q u m B U next br :=
  ⟨(hb.block h (Array.getElem?_eq_some_iff.1 s.box).1).trans s.box, s.st.old hb, s.un.old hb, s.sh, s.hne, s.qne⟩
def sread (D : DS) (br : Bool) (U : US) (e a : Int) : IC × Nat := if sable D br ≠ 0 then ((0, []), sable D br) else uread U e a
set_option maxHeartbeats 1000000 in
set_option maxRecDepth 100000 in
theorem shread_any (hd : Dk w S p D) (s : ShelfAt w S h p q u m B U next br) (e : Int) {a : Int} (ha : I64 a) :
    Calls Tryz.prog 69 #[.pointer (some ⟨h, 0, none⟩), .int .i64 e, .int .i64 a] w (UReadPost w (sread D br U e a)) := by
  obtain ⟨W1, hW1⟩ : ∃ W1, W1 = w.alloc (.cells #[.int .i64 0, .slice none 0 0] 24) := ⟨_, rfl⟩
  have hb1 : Below w.heap.size w W1 := by rw [hW1]; exact (Below.refl _ _).alloc (Nat.le_refl _) _
  have hx1 : W1.heap[w.heap.size]? = some (.cells #[.int .i64 0, .slice none 0 0] 24 (0, 0)) := by rw [hW1]; exact heap_alloc_new _ _
  obtain ⟨b0, b1, b2, b3⟩ := blk2 hx1
  obtain ⟨x0, x1, _⟩ := (s.old hb1).x
  have HA := Lib.hid (shable_any (hd.keep (kept_new hb1 S)) (s.old hb1))
  have HT := Lib.hid (uread_any (s.old hb1).un e ha)
  have HB1 := Lib.hid hb1
  have HW1 := Lib.hid hW1
  have HX1 := Lib.hid hx1
  have HL1 : Hid (w.heap.size < W1.heap.size) := Lib.hid (Array.getElem?_eq_some_iff.1 hx1).1
  obtain ⟨R, hR⟩ : ∃ R, R = uread U e a := ⟨_, rfl⟩
  obtain ⟨c, hc⟩ : ∃ c, c = sable D br := ⟨_, rfl⟩
  have HS : Hid (sread D br U e a = if c ≠ 0 then ((0, []), c) else R) := Lib.hid (by rw [hc, hR]; rfl)
  rw [← hc] at HA
  rw [← hR] at HT
  rw [HS.out]
  clear s hd hR hc HS ha hW1 hb1 hx1
  by_cases hz : c = 0
  · subst hz
    rw [if_neg (fun h : (0 : Nat) ≠ 0 => h rfl)]
    rw [errV_zero] at HA
    go_enter Tryz.func69, Tryz.ntmps69
    go_wp2_with fail
    rw [← HW1.out]
    refine HA.out.mono ?_
    rintro r w' ⟨rfl, rfl⟩
    go_wp2_with fail
    refine HT.out.mono ?_
    rintro r w2 ⟨dv, rfl, ho, hb⟩
    obtain ⟨ao, cap, rfl, _, _, _⟩ := ho.reads.val
    obtain ⟨⟨kc, dc⟩, cc⟩ := R
    simp only at ho ⊢
    have HO := Lib.hid (And.intro ho hb)
    have hx2 := (hb.block w.heap.size HL1.out).trans HX1.out
    have HX2 := Lib.hid hx2
    clear ho hb b0 b1 b2 b3
    obtain ⟨b0, b1, b2, b3⟩ := blk2 hx2
    clear hx2
    go_wp2
    obtain ⟨q0, q1, _, _⟩ := blk2 (set2 (x := .int .i64 kc) (y := .slice ao dc.length cap) HX2.out)
    refine bodyPost_ret (v := .tuple #[.agg #[.int .i64 kc, .slice ao dc.length cap], errV cc]) (by simp [results, Tryz.results69, go_sem, q0, q1]) rfl ?_
    exact ⟨_, rfl, (HO.out.1.mono HB1.out.size).set2 (fun j hj => by have := HO.out.1.lt j hj; have := HL1.out; omega) _ _, ((HB1.out.trans (HO.out.2.mono HB1.out.size)).setCell (by simp) _).setCell (by simp) _⟩
  · rw [if_pos hz]
    rw [errV_pos hz] at HA
    have HZ := Lib.hid hz
    clear hz
    go_enter Tryz.func69, Tryz.ntmps69
    go_wp2_with fail
    rw [← HW1.out]
    refine HA.out.mono ?_
    rintro r w' ⟨rfl, rfl⟩
    go_wp2
    obtain ⟨q0, q1, _, _⟩ := blk2 (set2 (x := .int .i64 0) (y := .slice none 0 0) HX1.out)
    refine bodyPost_ret (v := .tuple #[.agg #[.int .i64 0, .slice none 0 0], .iface 41 (.int .i64 (c : Int))]) (by simp [results, Tryz.results69, go_sem, q0, q1]) rfl ?_
    exact ⟨.slice none 0 0, by rw [errV_pos HZ.out], World.ownsRow_nil _ _ _ _, (HB1.out.setCell (by simp) _).setCell (by simp) _⟩
end
end Go.Proofs.YtlckadlkgjfjcaaGreatDoor

namespace Go.Proofs.YtlckadlkgjfjcaaGreatDoor
open Go.RowKit
section
variable {w w' : World} {S S1 : Nat → Prop} {h p q u m : Nat} {B : Nat → Prop} {U : US} {next : Nat} {br : Bool} {D : DS}
theorem ShelfAt.hlt (s : ShelfAt w S h p q u m B U next br) : h < w.heap.size := (Array.getElem?_eq_some_iff.1 s.box).1
theorem ShelfAt.small (s : ShelfAt w S h p q u m B U next br) : ShelfAt w S h p q u m (fun j => B j ∧ j < w.heap.size) U next br :=
  ⟨s.box, s.st, s.un.more (fun _ hj hB => ⟨hB, hj⟩) (fun hc => s.un.nu hc.1) (fun hc => s.un.nm hc.1), ⟨s.sh.1, s.sh.2.1, s.sh.2.2.1, s.sh.2.2.2.1, fun j hj => s.sh.2.2.2.2 j hj.1⟩, ⟨s.hne.1, s.hne.2.1, s.hne.2.2.1, fun hc => s.hne.2.2.2 hc.1⟩, ⟨s.qne.1, s.qne.2.1, fun hc => s.qne.2.2 hc.1⟩⟩
/-- Its disk has changed. -/
theorem ShelfAt.fr (s : ShelfAt w S h p q u m B U next br) (hB : ∀ j, B j → j < w.heap.size) (hf : Fr S w w') (ht : ∀ j, S1 j → S j ∨ w.heap.size ≤ j) : ShelfAt w' S1 h p q u m B U next br := by
  have hl := s.hlt
  have hq := s.st.2
  have hu := s.un.ult
  have hm := s.un.mlt
  have n1 : ∀ j, j < w.heap.size → ¬ S j → ¬ S1 j := fun j hj hS h1 => (ht j h1).elim hS (by omega)
  refine ⟨(hf.block h hl s.sh.1).trans s.box, ⟨(World.cell?_of_block (a := ⟨q, 0, none⟩) (hf.block q hq s.sh.2.1)).trans s.st.1, Nat.lt_of_lt_of_le hq hf.size⟩, s.un.keep (hf.kept B fun j _ hj => s.sh.2.2.2.2 j hj) (hf.block u hu s.sh.2.2.1) (hf.block m hm s.sh.2.2.2.1), ⟨n1 h hl s.sh.1, n1 q hq s.sh.2.1, n1 u hu s.sh.2.2.1, n1 m hm s.sh.2.2.2.1, fun j hj => n1 j (hB j hj) (s.sh.2.2.2.2 j hj)⟩, s.hne, s.qne⟩
/-- It broke. -/
theorem ShelfAt.broke (s : ShelfAt w S h p q u m B U next br) : ShelfAt (w.setCell ⟨h, 3, none⟩ (.bool true)) S h p q u m B U next true := by
  have ho : ∀ j, j ≠ h → (w.setCell ⟨h, 3, none⟩ (.bool true)).heap[j]? = w.heap[j]? := fun j hj => Below.heap_setCell _ _ _ _ hj
  refine ⟨heap_setCell_same _ h 3 _ _ _ s.box, ⟨(World.cell?_of_block (a := ⟨q, 0, none⟩) (ho q (Ne.symm s.hne.1))).trans s.st.1, by simpa using s.st.2⟩, s.un.keep ⟨by simp, fun j _ hj => ho j (fun e => s.hne.2.2.2 (e ▸ hj))⟩ (ho u (Ne.symm s.hne.2.1)) (ho m (Ne.symm s.hne.2.2.1)), s.sh, s.hne, s.qne⟩
/-- It has another unit, and the next number. -/
theorem ShelfAt.moved {u' m' : Nat} {B' : Nat → Prop} {U' : US} (s : ShelfAt w S h p q u m B U next br) (hun : Un w B' u' m' U') (hs : ¬ S u' ∧ ¬ S m' ∧ ∀ j, B' j → ¬ S j) (hh : h ≠ u' ∧ h ≠ m' ∧ ¬ B' h) (hq : q ≠ u' ∧ q ≠ m' ∧ ¬ B' q) (next' : Nat) :
    ShelfAt ((w.setCell ⟨h, 1, none⟩ (.pointer (some ⟨u', 0, none⟩))).setCell ⟨h, 2, none⟩ (.int .i64 (next' : Int))) S h p q u' m' B' U' next' br := by
  have ho : ∀ j, j ≠ h → ((w.setCell ⟨h, 1, none⟩ (.pointer (some ⟨u', 0, none⟩))).setCell ⟨h, 2, none⟩ (.int .i64 (next' : Int))).heap[j]? = w.heap[j]? := fun j hj => (Below.heap_setCell _ _ _ _ hj).trans (Below.heap_setCell _ _ _ _ hj)
  refine ⟨heap_setCell_same _ h 2 _ _ _ (heap_setCell_same _ h 1 _ _ _ s.box), ⟨(World.cell?_of_block (a := ⟨q, 0, none⟩) (ho q (Ne.symm s.hne.1))).trans s.st.1, by simpa using s.st.2⟩, hun.keep ⟨by simp, fun j _ hj => ho j (fun e => hh.2.2 (e ▸ hj))⟩ (ho u' (Ne.symm hh.1)) (ho m' (Ne.symm hh.2.1)), ⟨s.sh.1, s.sh.2.1, hs.1, hs.2.1, hs.2.2⟩, ⟨s.hne.1, hh.1, hh.2.1, hh.2.2⟩, hq⟩
/-- A shelf beside its disk, behind something that was done to it. -/
def ShDone (w : World) (S : Nat → Prop) (h p q u m : Nat) (B : Nat → Prop) (D : DS) (U : US) (next : Nat) (br : Bool) (w' : World) : Prop :=
  ∃ (S1 : Nat → Prop) (u' m' : Nat) (B' : Nat → Prop), ShelfAt w' S1 h p q u' m' B' U next br ∧ Dk w' S1 p D ∧ Fr (fun j => S j ∨ j = h) w w' ∧ (∀ j, S j → S1 j) ∧ (∀ j, S1 j → S j ∨ w.heap.size ≤ j) ∧ (u' = u ∨ w.heap.size ≤ u') ∧ (m' = m ∨ w.heap.size ≤ m') ∧ ∀ j, B' j → B j ∨ w.heap.size ≤ j
theorem ShDone.same (s : ShelfAt w S h p q u m B U next br) (hd : Dk w S p D) (hb : Below w.heap.size w w') : ShDone w S h p q u m B D U next br w' :=
  ⟨S, u, m, B, s.old hb, hd.keep (kept_new hb S), fr_below hb _, fun _ h => h, fun _ h => .inl h, .inl rfl, .inl rfl, fun _ h => .inl h⟩
/-- What put did: the disk, and it may have broken. -/
theorem ShDone.put {w3 : World} {r : DS × Nat} {e : Ending} (s : ShelfAt w S h p q u m B U next false) (hb : Below w.heap.size w w3) (k : ShPut S p h w3 r e w') : e = .returned (errV r.2) ∧ ShDone w S h p q u m B r.1 U next (decide (r.2 = 14)) w' := by
  obtain ⟨w1, rfl, ⟨S1, hd, hf, hs, ht⟩, rfl⟩ := k
  refine ⟨rfl, ?_⟩
  have t := ((s.small.old hb).fr (fun j hj => Nat.lt_of_lt_of_le hj.2 hb.size) hf ht)
  have hf0 : Fr S w w1 := (fr_below hb S).trans hf (fun _ _ h => h) (fun _ _ h => h)
  have ht0 : ∀ j, S1 j → S j ∨ w.heap.size ≤ j := fun j hj => (ht j hj).imp id fun x => Nat.le_trans hb.size x
  by_cases hc : r.2 = 14
  · rw [if_pos hc, decide_eq_true hc]
    refine ⟨S1, u, m, _, t.broke, hd.keep ⟨by simp, fun j _ hj => Below.heap_setCell _ _ _ _ (fun e => t.sh.1 (by rw [e] at hj; exact hj))⟩, hf0.trans (fr_set w1 h 3 _) (fun _ _ h => .inl h) (fun _ _ h => .inr h), hs, ht0, .inl rfl, .inl rfl, fun _ hj => .inl hj.1⟩
  · rw [if_neg hc, decide_eq_false hc]
    exact ⟨S1, u, m, _, t, hd, hf0.mono fun _ _ h => .inl h, hs, ht0, .inl rfl, .inl rfl, fun _ hj => .inl hj.1⟩
end
end Go.Proofs.YtlckadlkgjfjcaaGreatDoor

namespace Go.Proofs.YtlckadlkgjfjcaaGreatDoor
open Go.RowKit
/-- What Do comes to: its answer, the disk then, the unit, the next number, is it broken, an error's number. -/
def sdoAct (D : DS) (U : US) (next : Nat) (br : Bool) (k e a : Int) (d : List Nat) : Int × DS × US × Nat × Bool × Nat :=
  if br = true then (0, D, U, next, true, 14)
  else if (rapply U k e a d).2.2 ≠ 0 then (0, D, U, next, false, (rapply U k e a d).2.2)
  else if 99999999 < next then (0, D, U, next, false, 5)
  else if (sput D (sname 114 next) (fr (rtext k.toNat e.toNat a.toNat d))).2 ≠ 0 then (0, (sput D (sname 114 next) (fr (rtext k.toNat e.toNat a.toNat d))).1, U, next, decide ((sput D (sname 114 next) (fr (rtext k.toNat e.toNat a.toNat d))).2 = 14), (sput D (sname 114 next) (fr (rtext k.toNat e.toNat a.toNat d))).2)
  else ((rapply U k e a d).1, (sput D (sname 114 next) (fr (rtext k.toNat e.toNat a.toNat d))).1, (rapply U k e a d).2.1, next + 1, false, 0)
theorem rapply_chk {U : US} {k e a : Int} {d : List Nat} (h : (rapply U k e a d).2.2 = 0) : rchk k e a d.length = 0 := by
  refine Classical.not_not.1 fun hc => ?_
  unfold rapply at h
  rw [if_pos hc] at h
  exact hc h
def ShDoPost (w : World) (S : Nat → Prop) (h p q u m : Nat) (B : Nat → Prop) (x : Int × DS × US × Nat × Bool × Nat) (r : Ending) (w' : World) : Prop :=
  r = .returned (.tuple #[.int .i64 x.1, errV x.2.2.2.2.2]) ∧ ShDone w S h p q u m B x.2.1 x.2.2.1 x.2.2.2.1 x.2.2.2.2.1 w'
section
variable {w : World} {S : Nat → Prop} {h p q u m : Nat} {B : Nat → Prop} {U : US} {next : Nat} {br : Bool} {D : DS}
theorem sdo_broke {k e a : Int} {d : List Nat} : sdoAct D U next true k e a d = (0, D, U, next, true, 14) := rfl
theorem sdo_bad {k e a : Int} {d : List Nat} {R : Int × US × Nat} (hR : R = rapply U k e a d) (hz : R.2.2 ≠ 0) : sdoAct D U next false k e a d = (0, D, U, next, false, R.2.2) := by
  rw [hR] at hz ⊢
  unfold sdoAct
  rw [if_neg (fun h : false = true => Bool.noConfusion h), if_pos hz]
theorem sdo_full {k e a : Int} {d : List Nat} (hz : (rapply U k e a d).2.2 = 0) (hn : 99999999 < next) : sdoAct D U next false k e a d = (0, D, U, next, false, 5) := by
  unfold sdoAct
  rw [if_neg (fun h : false = true => Bool.noConfusion h), if_neg (fun h => h hz), if_pos hn]
theorem sdo_fail {k e a : Int} {d : List Nat} {P : DS × Nat} (hz : (rapply U k e a d).2.2 = 0) (hn : ¬ 99999999 < next) (hP : sput D (sname 114 next) (fr (rtext k.toNat e.toNat a.toNat d)) = P) (hc : P.2 ≠ 0) : sdoAct D U next false k e a d = (0, P.1, U, next, decide (P.2 = 14), P.2) := by
  unfold sdoAct
  rw [if_neg (fun h : false = true => Bool.noConfusion h), if_neg (fun h => h hz), if_neg hn, hP, if_pos hc]
theorem sdo_fine {k e a : Int} {d : List Nat} {P : DS × Nat} {R : Int × US × Nat} (hR : R = rapply U k e a d) (hz : R.2.2 = 0) (hn : ¬ 99999999 < next) (hP : sput D (sname 114 next) (fr (rtext k.toNat e.toNat a.toNat d)) = P) (hc : P.2 = 0) : sdoAct D U next false k e a d = (R.1, P.1, R.2.1, next + 1, false, 0) := by
  rw [hR] at hz ⊢
  unfold sdoAct
  rw [if_neg (fun h : false = true => Bool.noConfusion h), if_neg (fun h => h hz), if_neg hn, hP, if_neg (fun h => h hc)]

set_option maxHeartbeats 8000000 in
set_option maxRecDepth 100000 in
theorem shdo_any (hd : Dk w S p D) (s : ShelfAt w S h p q u m B U next br) (hsz : D.sz ≤ 400000) (ht : Tens w) (hnx : next ≤ 1000000000) (k e : Int) {a : Int} (ha : I64 a) {v : Value} {d : List Nat} (hv : Reads w .u8 v d) (h8 : ∀ y ∈ d, y < 256) (hf8 : rchk k e a d.length = 0 → ∀ y ∈ fr (rtext k.toNat e.toNat a.toNat d), y < 256) :
    Calls Tryz.prog 110 #[.pointer (some ⟨h, 0, none⟩), .agg #[.int .i64 k, .int .i64 e, .int .i64 a, v]] w (ShDoPost w S h p q u m B (sdoAct D U next br k e a d)) := by
  obtain ⟨ao, cap, rfl, _, _, _⟩ := hv.val
  obtain ⟨nd, hnd⟩ : ∃ n, n = d.length := ⟨_, rfl⟩
  have HND := Lib.hid hnd
  rw [← hnd] at hv ⊢
  obtain ⟨W1, hW1⟩ : ∃ W1, W1 = w.alloc (.cells #[.int .i64 k, .int .i64 e, .int .i64 a, .slice ao nd cap] 67) := ⟨_, rfl⟩
  have hb1 : Below w.heap.size w W1 := by rw [hW1]; exact (Below.refl _ _).alloc (Nat.le_refl _) _
  have hx1 : W1.heap[w.heap.size]? = some (.cells #[.int .i64 k, .int .i64 e, .int .i64 a, .slice ao nd cap] 67 (0, 0)) := by rw [hW1]; exact heap_alloc_new _ _
  have hl1 : w.heap.size < W1.heap.size := (Array.getElem?_eq_some_iff.1 hx1).1
  obtain ⟨x0, x1, x2, x3, xf⟩ := (s.old hb1).x
  obtain ⟨y0, y1, y2, y3, yf⟩ := four_cells9 hx1
  have HS := Lib.hid s
  have HD := Lib.hid hd
  have HT := Lib.hid ht
  have HV := Lib.hid hv
  have H8 := Lib.hid h8
  have HF8 := Lib.hid hf8
  have HA := Lib.hid ha
  have HSZ := Lib.hid hsz
  have HB1 := Lib.hid hb1
  have HX1 := Lib.hid hx1
  have HL1 := Lib.hid hl1
  have HW1 := Lib.hid hW1
  have HWH := Lib.hid (whole_any (s.old hb1))
  have HCO := Lib.hid (ucopy_any (s.small.old hb1).un fun j hj => Nat.lt_trans hj.2 hl1)
  clear hd s hsz ht hv h8 hf8 ha hnd hW1 hb1 hx1 hl1
  cases br
  rotate_left
  · rw [if_pos rfl, errV_pos (by decide)] at HWH
    rw [sdo_broke]
    go_enter Tryz.func110, Tryz.ntmps110
    go_wp2_with fail
    rw [← HW1.out]
    refine HWH.out.mono ?_
    rintro r w' ⟨rfl, rfl⟩
    go_wp2
    go_ret2
    exact ⟨rfl, ShDone.same HS.out HD.out HB1.out⟩
  rw [if_neg (by decide), errV_zero] at HWH
  go_enter Tryz.func110, Tryz.ntmps110
  go_wp2_with fail
  rw [← HW1.out]
  refine HWH.out.mono ?_
  rintro r w' ⟨rfl, rfl⟩
  go_wp2_with fail
  refine HCO.out.mono ?_
  rintro r w2 ⟨u', m', rfl, hun2, hu2, hm2, hb2⟩
  have HUN2 := Lib.hid hun2
  have HUM : Hid (w'.heap.size ≤ u' ∧ w'.heap.size ≤ m') := Lib.hid ⟨hu2, hm2⟩
  have hb02 : Below w.heap.size w w2 := HB1.out.trans (hb2.mono HB1.out.size)
  have HB2 := Lib.hid hb2
  have HB02 := Lib.hid hb02
  have hx2 := (hb2.block w.heap.size HL1.out).trans HX1.out
  have HX2 := Lib.hid hx2
  clear x0 x1 x2 x3 xf y0 y1 y2 y3 yf
  obtain ⟨x0, x1, x2, x3, xf⟩ := (HS.out.old hb02).x
  obtain ⟨y0, y1, y2, y3, yf⟩ := four_cells9 hx2
  have HAP := Lib.hid (rapply_any hun2 k e HA.out (HV.out.new hb02) H8.out)
  obtain ⟨R, hR⟩ : ∃ R, R = rapply U k e a d := ⟨_, rfl⟩
  have HR := Lib.hid hR
  rw [← hR] at HAP
  clear hun2 hu2 hm2 hb2 hb02 hx2 hR
  go_wp2_with fail
  refine HAP.out.mono ?_
  rintro r w3 ⟨rfl, hp3⟩
  have hb23 : Below w'.heap.size w2 w3 := ⟨hp3.2.os, hp3.2.tape, hp3.2.output, hp3.2.size, fun j hj => hp3.2.block j (Nat.lt_of_lt_of_le hj HB2.out.size) (by have := HUM.out; omega)⟩
  have hb13 : Below w'.heap.size w' w3 := HB2.out.trans hb23
  have hb03 : Below w.heap.size w w3 := HB1.out.trans (hb13.mono HB1.out.size)
  have hx3 := (hb13.block w.heap.size HL1.out).trans HX1.out
  have HP3 := Lib.hid hp3
  have HB03 := Lib.hid hb03
  have HB13 := Lib.hid hb13
  have HX3 := Lib.hid hx3
  clear x0 x1 x2 x3 xf y0 y1 y2 y3 yf
  obtain ⟨x0, x1, x2, x3, xf⟩ := (HS.out.old hb03).x
  obtain ⟨y0, y1, y2, y3, yf⟩ := four_cells9 hx3
  clear hp3 hb23 hb13 hb03 hx3
  by_cases hz : R.2.2 = 0
  rotate_left
  · have HZ := Lib.hid hz
    rw [errV_pos hz]
    clear hz
    go_wp2
    go_ret2
    rw [sdo_bad HR.out HZ.out]
    exact ⟨by rw [errV_pos HZ.out]; rfl, ShDone.same HS.out HD.out HB03.out⟩
  have HZ : Hid ((rapply U k e a d).2.2 = 0) := Lib.hid (by rw [← HR.out]; exact hz)
  have HZR := Lib.hid hz
  rw [hz, errV_zero]
  clear hz
  by_cases hfl : 99999999 < next
  · have HFL := Lib.hid hfl
    have hfi : (99999999 : Int) < (next : Int) := by omega
    clear hfl
    go_wp2
    go_ret2
    rw [sdo_full HZ.out HFL.out]
    exact ⟨rfl, ShDone.same HS.out HD.out HB03.out⟩
  have HFL := Lib.hid hfl
  have hfi : ¬ (99999999 : Int) < (next : Int) := by omega
  have HPU := Lib.hid (rput_any k e a (.slice ao nd cap) d w3 (HV.out.new HB03.out) H8.out)
  have hchk := rapply_chk HZ.out
  have HCK := Lib.hid hchk
  clear hfl hchk
  go_wp2_with fail
  refine HPU.out.mono ?_
  rintro r w4 ⟨hb4, hcase⟩
  rcases hcase with ⟨hne, _⟩ | ⟨_, v4, rfl, ho4⟩
  · exact absurd HCK.out hne
  obtain ⟨ao4, cap4, rfl, _, _, _⟩ := ho4.reads.val
  obtain ⟨b4, hb4e⟩ : ∃ b, b = fr (rtext k.toNat e.toNat a.toNat d) := ⟨_, rfl⟩
  rw [← hb4e] at ho4 ⊢
  have hb04 : Below w.heap.size w w4 := HB03.out.trans (hb4.mono HB03.out.size)
  have hat4 : At w4 (fun j => ¬ S j) .u8 (.slice ao4 b4.length cap4) b4 := ho4.at'.mono fun j _ ho hS => by
    have h1 := HD.out.lt hS
    have h2 := ho.1
    have h3 := HB03.out.size
    omega
  have HP := Lib.hid (sput_any (HD.out.keep (kept_new hb04 S)) (HS.out.old hb04).box (HS.out.old hb04).st HS.out.sh.2.1 HS.out.sh.1 HSZ.out (HT.out.below hb04) (by have := HFL.out; omega) (mk := [114]) (by decide) hat4 (by rw [hb4e]; exact HF8.out (by have := HCK.out; exact this)))
  have HB4 := Lib.hid hb4
  have HB04 := Lib.hid hb04
  have HB4E := Lib.hid hb4e
  obtain ⟨P, hP⟩ : ∃ P, P = sput D ([114] ++ dig8 next) b4 := ⟨_, rfl⟩
  have HPE : Hid (sput D (sname 114 next) (fr (rtext k.toNat e.toNat a.toNat d)) = P) := Lib.hid (by rw [hP, hb4e]; rfl)
  rw [← hP, show (([114] : Nm)).toArray = #[114] from rfl] at HP
  obtain ⟨nb, hnb⟩ : ∃ n, n = b4.length := ⟨_, rfl⟩
  rw [← hnb] at HP ⊢
  clear x0 x1 x2 x3 xf y0 y1 y2 y3 yf
  obtain ⟨x0, x1, x2, x3, xf⟩ := (HS.out.old hb04).x
  clear hb4 ho4 hb04 hat4 hb4e hP hnb
  go_wp2_with fail
  refine HP.out.mono ?_
  rintro r w6 hp6
  obtain ⟨rfl, hsd⟩ := ShDone.put HS.out HB04.out hp6
  have HSD := Lib.hid hsd
  have HP6 := Lib.hid hp6
  clear hp6 hsd
  by_cases hc : P.2 = 0
  rotate_left
  · have HC := Lib.hid hc
    rw [errV_pos hc]
    clear hc
    go_wp2
    go_ret2
    rw [sdo_fail HZ.out HFL.out HPE.out HC.out]
    exact ⟨by rw [errV_pos HC.out]; rfl, HSD.out⟩
  have HC := Lib.hid hc
  obtain ⟨wx, _, ⟨S1, hd6, hf6, hs6, ht6⟩, hw⟩ := HP6.out
  rw [if_neg (by omega)] at hw
  subst hw
  rw [hc, errV_zero]
  have t := ((HS.out.small.old HB04.out).fr (fun j hj => Nat.lt_of_lt_of_le hj.2 HB04.out.size) hf6 ht6)
  have hsum : wrap64 ((next : Int) + 1) = ((next + 1 : Nat) : Int) := by
    have h1 := HFL.out
    simp only [wrap64]
    omega
  have HT6 := Lib.hid t
  have HD6 := Lib.hid hd6
  have HF6 := Lib.hid hf6
  have HS6 : Hid ((∀ j, S j → S1 j) ∧ ∀ j, S1 j → S j ∨ w4.heap.size ≤ j) := Lib.hid ⟨hs6, ht6⟩
  clear x0 x1 x2 x3 xf hc hd6 hf6 hs6 ht6
  obtain ⟨x0, x1, x2, x3, xf⟩ := t.x
  clear t
  go_wp2
  go_ret2
  rw [sdo_fine HR.out HZR.out HFL.out HPE.out HC.out]
  have z1 := HB1.out.size
  have z2 := HB2.out.size
  have z3 := HB13.out.size
  have z4 := HB4.out.size
  have z5 := HUM.out
  have z6 := HP3.out.2.size
  have z7 := HP3.out.1.ult
  have z8 := HP3.out.1.mlt
  have zh := HS.out.hlt
  have zq := HS.out.st.2
  have nS : ∀ j, S j → j < w.heap.size := fun j hj => HD.out.lt hj
  have nS1 : ∀ j, j < w4.heap.size → ¬ S j → ¬ S1 j := fun j hj hS h1 => (HS6.out.2 j h1).elim hS (by omega)
  have hun3 : Un w3 (fun j => ((B j ∧ j < w.heap.size) ∨ w2.heap.size ≤ j) ∧ j < w3.heap.size) u' m' R.2.1 := HP3.out.1.more (fun j hj hB => ⟨hB, hj⟩) (fun hc => HP3.out.1.nu hc.1) (fun hc => HP3.out.1.nm hc.1)
  have nBS : ∀ j, (((B j ∧ j < w.heap.size) ∨ w2.heap.size ≤ j) ∧ j < w3.heap.size) → ¬ S j := by
    rintro j ⟨hj | hj, _⟩ hS
    · exact HS.out.sh.2.2.2.2 j hj.1 hS
    · have := nS j hS; omega
  have hun6 := (hun3.old HB4.out).keep (HF6.out.kept _ fun j _ hj => nBS j hj) (HF6.out.block u' (by omega) (fun hS => by have := nS _ hS; omega)) (HF6.out.block m' (by omega) (fun hS => by have := nS _ hS; omega))
  refine ⟨rfl, S1, u', m', (fun j => ((B j ∧ j < w.heap.size) ∨ w2.heap.size ≤ j) ∧ j < w3.heap.size), ?_, HD6.out.keep ⟨by simp, fun j _ hj => (Below.heap_setCell _ _ _ _ (fun e => HT6.out.sh.1 (by rw [e] at hj; exact hj))).trans (Below.heap_setCell _ _ _ _ (fun e => HT6.out.sh.1 (by rw [e] at hj; exact hj)))⟩, ?_, HS6.out.1, ?_, .inr (by omega), .inr (by omega), ?_⟩
  · have hm := HT6.out.moved hun6 ⟨nS1 _ (by omega) (fun hS => by have := nS _ hS; omega), nS1 _ (by omega) (fun hS => by have := nS _ hS; omega), fun j hj => nS1 j (by omega) (nBS j hj)⟩
      ⟨by omega, by omega, by rintro ⟨hj | hj, _⟩; exact HS.out.hne.2.2.2 hj.1; omega⟩ ⟨by omega, by omega, by rintro ⟨hj | hj, _⟩; exact HS.out.qne.2.2 hj.1; omega⟩ (next + 1)
    first | exact hm | (rw [← hsum] at hm; exact hm)
  · have hf0 : Fr S w w6 := (fr_below HB04.out S).trans HF6.out (fun _ _ h => h) (fun _ _ h => h)
    exact (hf0.trans (fr_set w6 h 1 _) (fun _ _ h => .inl h) (fun _ _ h => .inr h)).trans (fr_set _ h 2 _) (fun _ _ h => h) (fun _ _ h => .inr h)
  · intro j hj
    exact (HS6.out.2 j hj).imp id fun x => by omega
  · rintro j ⟨hj | hj, _⟩
    · exact .inl hj.1
    · exact .inr (by omega)
end
end Go.Proofs.YtlckadlkgjfjcaaGreatDoor

namespace Go.Proofs.YtlckadlkgjfjcaaGreatDoor
open Go.RowKit
/-- What deleting all numbered names but one comes to. -/
def sdelBut (D : DS) (b : Nm) : List Nm → DS × Nat
  | [] => (D, 0)
  | n :: r => if n = b ∨ isNum n = false then sdelBut D b r else if (sdelete D n).2 ≠ 0 then ((sdelete D n).1, (sdelete D n).2) else sdelBut (sdelete D n).1 b r
theorem sdel_skip {D : DS} {b n : Nm} {r : List Nm} (h : n = b ∨ isNum n = false) : sdelBut D b (n :: r) = sdelBut D b r := by rw [sdelBut, if_pos h]
theorem sdel_stop {D : DS} {b n : Nm} {r : List Nm} (h : ¬ n = b) (h1 : isNum n = true) (h2 : (sdelete D n).2 ≠ 0) : sdelBut D b (n :: r) = sdelete D n := by
  rw [sdelBut, if_neg (by rintro (e | e); exact h e; rw [h1] at e; exact Bool.noConfusion e), if_pos h2]
theorem sdel_on {D : DS} {b n : Nm} {r : List Nm} (h : ¬ n = b) (h1 : isNum n = true) (h2 : (sdelete D n).2 = 0) : sdelBut D b (n :: r) = sdelBut (sdelete D n).1 b r := by
  rw [sdelBut, if_neg (by rintro (e | e); exact h e; rw [h1] at e; exact Bool.noConfusion e), if_neg (fun h => h h2)]
theorem sdelete_sz10 (d : DS) (n : Nm) : (sdelete d n).1.sz ≤ d.sz + 2 := by
  have h1 := (opOk_remove d n).sz
  have h2 := (opOk_sync (dremove d n).1).sz
  unfold sdelete
  split
  · simp only; omega
  · split <;> omega
theorem DPost.up {S : Nat → Prop} {p : Nat} {w w1 w2 : World} {d : DS} (h : DPost S p w w1 d) (hb : Below w1.heap.size w1 w2) : DPost S p w w2 d := by
  obtain ⟨S1, hd, hf, hs, ht⟩ := h
  exact ⟨S1, hd.keep (kept_new hb S1), hf.trans (fr_below hb fun _ => False) (fun _ _ h => h) (fun _ _ h => h.elim), hs, ht⟩
/-- What deleteBut comes to. -/
def sclean (D : DS) (b : Nm) : DS × Nat := if (slist D []).2 ≠ 0 then (D, (slist D []).2) else sdelBut D b (slist D []).1
section
variable {w : World} {S : Nat → Prop} {h p q u m : Nat} {B : Nat → Prop} {U : US} {next : Nat} {br : Bool} {D : DS}
set_option maxHeartbeats 8000000 in
set_option maxRecDepth 100000 in
theorem deleteBut_any (hd : Dk w S p D) (s : ShelfAt w S h p q u m B U next br) (hsz : D.sz ≤ 400000) (bn : Nm) :
    Calls Tryz.prog 101 #[.pointer (some ⟨h, 0, none⟩), nmV bn] w (ShPut S p h w (sclean D bn)) := by
  have HBOX : Hid (∀ W E, DPost S p w W E → W.heap[h]? = some (.cells #[.pointer (some ⟨q, 0, none⟩), .pointer (some ⟨u, 0, none⟩), .int .i64 (next : Int), .bool br] 150 (0, 0)) ∧ AtS W q p) := Lib.hid fun W E hW => by
    obtain ⟨S1, _, hf, _⟩ := hW
    exact ⟨(hf.block h s.hlt s.sh.1).trans s.box, (World.cell?_of_block (a := ⟨q, 0, none⟩) (hf.block q s.st.2 s.sh.2.1)).trans s.st.1, Nat.lt_of_lt_of_le s.st.2 hf.size⟩
  obtain ⟨x0, x1, x2, x3, xf⟩ := s.x
  have HSH := Lib.hid s
  have HSZ := Lib.hid hsz
  have HNS := Lib.hid (slist_names hd [])
  have HLI := Lib.hid (list_store hd s.st (by omega) [])
  rw [show nmV [] = Value.string ⟨#[]⟩ from rfl] at HLI
  obtain ⟨ns, hns⟩ : ∃ ns, ns = (slist D []).1 := ⟨_, rfl⟩
  obtain ⟨c1, hc1⟩ : ∃ c, c = (slist D []).2 := ⟨_, rfl⟩
  have HCL : Hid (sclean D bn = if c1 ≠ 0 then (D, c1) else sdelBut D bn ns) := Lib.hid (by rw [hns, hc1]; rfl)
  have hsl : slist D [] = (ns, c1) := by rw [hns, hc1]
  rw [hsl] at HLI HNS
  replace HNS : Hid ((∀ x ∈ ns, x.length ≤ 1000) ∧ ns.length ≤ D.sz ∧ ns.Pairwise (· < ·)) := HNS
  obtain ⟨sb, hsb⟩ : ∃ s : ByteArray, s = ⟨bn.toArray⟩ := ⟨_, rfl⟩
  rw [show nmV bn = .string sb by rw [hsb]; rfl]
  have HSB := Lib.hid hsb
  have HD := Lib.hid hd
  clear hns hc1 hsl hsb hd s hsz
  go_enter Tryz.func101, Tryz.ntmps101
  go_wp2_with fail
  refine HLI.out.mono ?_
  rintro r w2 ⟨v2, rfl, ho2, hb2⟩
  simp only at ho2
  obtain ⟨ao2, cap2, rfl⟩ := ho2.val
  have HO2 := Lib.hid ho2
  have HDP2 : Hid (DPost S p w w2 D) := Lib.hid (DPost.same (HD.out.keep (kept_new hb2 S)) (fr_below hb2 S))
  have HB2 := Lib.hid hb2
  obtain ⟨nn, hnn⟩ : ∃ n, n = ns.length := ⟨_, rfl⟩
  rw [← hnn]
  have HNN := Lib.hid hnn
  have hnl : (nn : Int) ≤ 500000 := by have := HNS.out.2.1; have := HSZ.out; omega
  clear ho2 hb2 hnn x0 x1 x2 x3 xf
  by_cases hz : c1 = 0
  rotate_left
  · have HTD := Lib.hid (told_any (HBOX.out w2 D HDP2.out).1 c1)
    have HZ := Lib.hid hz
    rw [errV_pos hz] at HTD ⊢
    clear hz
    go_wp2_with fail
    refine HTD.out.mono ?_
    rintro r w3 ⟨rfl, h3⟩
    have H3 := Lib.hid h3
    clear h3
    go_wp2
    go_ret
    rw [HCL.out, if_pos HZ.out]
    exact ⟨w2, by rw [errV_pos HZ.out]; rfl, HDP2.out, H3.out⟩
  subst hz
  have HCL2 : Hid (sclean D bn = sdelBut D bn ns) := Lib.hid (by rw [HCL.out, if_neg (fun h => h rfl)])
  rw [errV_zero]
  go_wp2
  go_loopw [8, 9, 25] (fun _ _ i wr => ∃ (k : Nat) (E : DS), k ≤ nn ∧ i = .int .i64 (k : Int) ∧ sdelBut D bn ns = sdelBut E bn (ns.drop k) ∧ E.sz ≤ D.sz + 2 * k ∧ DPost S p w2 wr E)
    (fun _ _ i _ => nn - (intOf i).toNat)
  case atStart => exact ⟨0, D, Nat.zero_le _, rfl, rfl, Nat.le_refl _, DPost.same (HD.out.keep (kept_new HB2.out S)) (fr_below (Below.refl _ _) S)⟩
  case round =>
    obtain ⟨k, E, hk, rfl, hdo, hez, hdp⟩ := hrel
    have HDO := Lib.hid hdo
    have HEZ := Lib.hid hez
    have HDP := Lib.hid hdp
    by_cases hlt : k < nn
    rotate_left
    · have hke : k = ns.length := by have := HNN.out; omega
      have HE : Hid (sclean D bn = (E, 0)) := Lib.hid (by rw [HCL2.out, HDO.out, hke, List.drop_length]; rfl)
      have hlti : ¬ (k : Int) < (nn : Int) := by omega
      clear hdo hez hdp hke
      go_wp2
      go_ret
      rw [HE.out]
      exact ⟨_, rfl, HDP.out.low HB2.out, rfl⟩
    obtain ⟨x, hx⟩ : ∃ x, ns[k]? = some x := ⟨_, List.getElem?_eq_getElem (by rw [← HNN.out]; exact hlt)⟩
    obtain ⟨g, rfl, hg1, hgl, e0⟩ := HO2.out.at hx
    have hxl := HNS.out.1 x (List.mem_of_getElem? hx)
    have hdr : ns.drop k = x :: ns.drop (k + 1) := by
      have h1 := List.getElem?_eq_some_iff.1 hx
      rw [← h1.2, List.getElem_cons_drop]
    have HDR := Lib.hid hdr
    have e0 : wr.cell? ⟨g, k, none⟩ = some (nmV x) := by
      obtain ⟨S1, _, hf, _⟩ := hdp
      exact (World.cell?_of_block (a := ⟨g, k, none⟩) (hf.block g hgl (fun hS => by have := HD.out.lt hS; omega))).trans e0
    obtain ⟨sx, hsx⟩ : ∃ s : ByteArray, s = ⟨x.toArray⟩ := ⟨_, rfl⟩
    rw [show nmV x = .string sx by rw [hsx]; rfl] at e0
    have hlti : (k : Int) < (nn : Int) := by omega
    have hq : (sx.toList == sb.toList) = (x == bn) := by rw [hsx, HSB.out, ByteArray.toList_eq, ByteArray.toList_eq]
    have HK := Lib.hid hlt
    have hwk : wrap64 ((k : Int) + 1) = ((k + 1 : Nat) : Int) := wrap_succM k (by omega)
    have HWK := Lib.hid hwk
    by_cases hxb : x = bn
    · have heq : (sx.toList == sb.toList) = true := by rw [hq, hxb]; exact beq_self_eq_true _
      have HE : Hid (sdelBut D bn ns = sdelBut E bn (ns.drop (k + 1))) := Lib.hid (by rw [HDO.out, HDR.out, sdel_skip (.inl hxb)])
      clear hdo hez hdp hx hg1 hgl hxl hdr hsx hxb hq hwk
      go_wp2
      go_roundw
      case rel => exact ⟨k + 1, E, by have := HK.out; omega, by first | rfl | rw [← HWK.out], HE.out, by have := HEZ.out; omega, HDP.out⟩
      case measure => have := HK.out; simp [intOf]; omega
    have heq : (sx.toList == sb.toList) = false := by
      rw [hq, beq_eq_false_iff_ne]
      exact hxb
    have HXB := Lib.hid hxb
    have hnb := fun (W : World) => numbered_any x (by omega) W
    rw [← hsx] at hnb
    obtain ⟨t, ht⟩ : ∃ t, t = isNum x := ⟨_, rfl⟩
    rw [← ht] at hnb
    have HNB := Lib.hid hnb
    have HT := Lib.hid ht
    have HXL := Lib.hid hxl
    have HSX := Lib.hid hsx
    obtain ⟨S1, hd1, hf1, hs1, ht1⟩ := hdp
    obtain ⟨hbx, hat⟩ := HBOX.out wr E (HDP.out.low HB2.out)
    have HDEL : Hid (∀ W, Below wr.heap.size wr W → Calls Tryz.prog 150 #[.pointer (some ⟨q, 0, none⟩), .string sx] W fun e w' => e = .returned (errV (sdelete E x).2) ∧ DPost S p w2 w' (sdelete E x).1) := Lib.hid fun W hW => by
      rw [show Value.string sx = nmV x by rw [HSX.out]; rfl]
      have hqS : ¬ S1 q := fun hS => by
        rcases ht1 q hS with h | h
        · exact HSH.out.sh.2.1 h
        · have := HSH.out.st.2; have := HB2.out.size; omega
      exact (delete_store (hd1.keep (kept_new hW S1)) (hat.old hW) hqS (by have := HEZ.out; have := HSZ.out; omega) (by omega)).mono fun e w' k => ⟨k.1, DPost.trans hf1 hs1 ht1 (k.2.low hW)⟩
    have HX0 : Hid (∀ W, Below wr.heap.size wr W → W.cell? ⟨h, 0, none⟩ = some (.pointer (some ⟨q, 0, none⟩))) := Lib.hid fun W hW => (four_cells9 ((hW.block h (Array.getElem?_eq_some_iff.1 hbx).1).trans hbx)).1
    clear hdo hez hx hg1 hgl hxl hdr hsx hxb hnb ht hq hwk hd1 hf1 hs1 ht1 hbx hat
    go_upto_region 7 with fail
    go_wp2_with fail
    refine (HNB.out _).mono ?_
    rintro r w3 ⟨rfl, hb3⟩
    have HB3 : Hid (Below wr.heap.size wr w3) := Lib.hid (by first | exact hb3 | exact ⟨hb3.os, hb3.tape, hb3.output, hb3.size, hb3.block⟩)
    have x0 := HX0.out w3 HB3.out
    clear hb3
    cases t
    · have HE : Hid (sdelBut D bn ns = sdelBut E bn (ns.drop (k + 1))) := Lib.hid (by rw [HDO.out, HDR.out, sdel_skip (.inr HT.out.symm)])
      go_wp2
      go_roundw
      case rel => exact ⟨k + 1, E, by have := HK.out; omega, by first | rfl | rw [← HWK.out], HE.out, by have := HEZ.out; omega, HDP.out.up HB3.out⟩
      case measure => have := HK.out; simp [intOf]; omega
    go_wp2_with fail
    refine (HDEL.out _ HB3.out).mono ?_
    rintro r w4 ⟨rfl, hp4⟩
    have HP4 := Lib.hid hp4
    obtain ⟨P, hP⟩ : ∃ P, P = sdelete E x := ⟨_, rfl⟩
    rw [← hP] at HP4 ⊢
    have HPE := Lib.hid hP
    clear hp4 hP x0
    by_cases hz : P.2 = 0
    · have HE : Hid (sdelBut D bn ns = sdelBut P.1 bn (ns.drop (k + 1))) := Lib.hid (by rw [HDO.out, HDR.out, sdel_on HXB.out HT.out.symm (by rw [← HPE.out]; exact hz), HPE.out])
      have HZZ : Hid (P.1.sz ≤ E.sz + 2) := Lib.hid (by rw [HPE.out]; exact sdelete_sz10 E x)
      rw [hz, errV_zero]
      clear hz
      go_wp2
      go_roundw
      case rel => exact ⟨k + 1, P.1, by have := HK.out; omega, by first | rfl | rw [← HWK.out], HE.out, by have := HEZ.out; have := HZZ.out; omega, HP4.out⟩
      case measure => have := HK.out; simp [intOf]; omega
    · have HE : Hid (sclean D bn = P) := Lib.hid (by rw [HCL2.out, HDO.out, HDR.out, sdel_stop HXB.out HT.out.symm (by rw [← HPE.out]; exact hz), HPE.out])
      have HTD := Lib.hid (told_any (HBOX.out w4 P.1 (HP4.out.low HB2.out)).1 P.2)
      have HZ := Lib.hid hz
      rw [errV_pos hz] at HTD ⊢
      clear hz
      go_wp2_with fail
      refine HTD.out.mono ?_
      rintro r w5 ⟨rfl, h5⟩
      have H5 := Lib.hid h5
      clear h5
      go_wp2
      go_ret
      rw [HE.out]
      exact ⟨w4, by rw [errV_pos HZ.out]; rfl, HP4.out.low HB2.out, H5.out⟩
end
end Go.Proofs.YtlckadlkgjfjcaaGreatDoor
