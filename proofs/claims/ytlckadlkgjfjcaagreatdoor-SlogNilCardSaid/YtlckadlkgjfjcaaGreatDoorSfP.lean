/- A shelf's disk, as mathematics: what Do and Compact come to, and a cut within. · A calm shelf's disk, as mathematics: what Compact leaves; how many cells a unit has. · Package shelf: Compact, by the program. · A driven shelf: what its calls do, beside what a law has. · A driven shelf: its disk cut and started, the shelf opened anew; what is read. · Law 10's fixed fact. -/
import Derived.Test.YtlckadlkgjfjcaaGreatDoorSdP
import Derived.Test.YtlckadlkgjfjcaaGreatDoorSeP
import Derived.Test.YtlckadlkgjfjcaaGreatDoorRpP
import Derived.Lib.SlBytesConst
namespace Go.Proofs.YtlckadlkgjfjcaaGreatDoor
open Go.RowKit

/-! ### Room -/
theorem dremove_room (d : DS) (a : Nm) : (dremove d a).1.room = d.room := by
  unfold dremove
  split
  · exact dwork_room d
  · split
    · exact dwork_room d
    · split
      · exact dwork_room d
      · exact dwork_room d
theorem dsync_room (d : DS) : (dsync d).1.room = d.room := by
  unfold dsync
  split
  · exact dwork_room d
  · exact dwork_room d
theorem swp_room : ∀ (ns : List Nm) (d : DS) (sm : Bool), (swp ns d sm).1.room = d.room
  | [], d, sm => by
    unfold swp
    split
    · exact dsync_room d
    · rfl
  | n :: r, d, sm => by
    unfold swp
    split
    · split
      · exact (swp_room r _ _).trans (dremove_room d n)
      · exact dremove_room d n
    · exact swp_room r d sm
theorem sopen_room (d : DS) : (sopen d).1.room = d.room := by
  unfold sopen
  split
  · rfl
  · exact swp_room _ _ _
theorem op_down {d : DS} {r : DS × Nat} (ho : OpOk d r) (h : r.2 = 14) : r.1.down = true := by
  by_cases hd : d.dead
  · exact (ho.dead hd).2
  · exact absurd h (ho.alive hd).1
theorem sput_down {d : DS} {n : Nm} {b : List Nat} (h : (sput d n b).2 = 14) : (sput d n b).1.down = true := by
  unfold sput at h ⊢
  split
  · rename_i h1
    rw [if_pos h1] at h
    cases h
  · rename_i h1
    rw [if_neg h1] at h
    split
    · rename_i h2
      rw [if_pos h2] at h
      exact op_down (opOk_write _ _ _) h
    · rename_i h2
      rw [if_neg h2] at h
      split
      · rename_i h3
        rw [if_pos h3] at h
        exact op_down (opOk_sync _) h
      · rename_i h3
        rw [if_neg h3] at h
        split
        · rename_i h4
          rw [if_pos h4] at h
          exact op_down (opOk_rename _ _ _) h
        · rename_i h4
          rw [if_neg h4] at h
          exact op_down (opOk_sync _) h
def CalmR (r : DS × Nat) : Prop := r.2 ≠ 14 ∧ r.1.down = false ∧ r.1.fuse = -1
theorem op_calm {d : DS} {r : DS × Nat} (ho : OpOk d r) (h1 : d.down = false) (h2 : d.fuse = -1) : CalmR r := by
  obtain ⟨q1, q2, q3⟩ := ho.alive (by
    rintro (h | h)
    · rw [h1] at h; cases h
    · omega)
  exact ⟨q1, q2.trans h1, by rw [q3, if_pos h2]⟩
theorem sput_calm {d : DS} (h1 : d.down = false) (h2 : d.fuse = -1) (n : Nm) (b : List Nat) : CalmR (sput d n b) := by
  unfold sput
  split
  · exact ⟨by simp, h1, h2⟩
  · have k1 := op_calm (opOk_write d (til :: n) b) h1 h2
    split
    · exact k1
    · have k2 := op_calm (opOk_sync _) k1.2.1 k1.2.2
      split
      · exact k2
      · have k3 := op_calm (opOk_rename _ (til :: n) n) k2.2.1 k2.2.2
        split
        · exact k3
        · exact op_calm (opOk_sync _) k3.2.1 k3.2.2
def SDisk (D : DS) (U : US) (next N : Nat) : Prop := Fine D ∧ D.sure.length ≤ N ∧ ∃ b U0 l, SInv D.sure b U0 l U next
theorem SDisk.ropen {d D : DS} {U : US} {next N : Nat} (ho : sopen d = (D, 0)) (h : SDisk D U next N) : ROpen d D U next 0 := by
  obtain ⟨hf, _, b, U0, l, h⟩ := h
  exact h.ropen ho hf
theorem SDisk.le {D : DS} {U : US} {next N : Nat} (h : SDisk D U next N) : next ≤ 100000000 := by obtain ⟨_, _, b, U0, l, h⟩ := h; exact h.le
theorem SDisk.more {D : DS} {U : US} {next N N' : Nat} (h : SDisk D U next N) (hN : N ≤ N') : SDisk D U next N' := ⟨h.1, Nat.le_trans h.2.1 hN, h.2.2⟩
theorem SDisk.sz {D : DS} {U : US} {next N : Nat} (h : SDisk D U next N) : D.sz ≤ N := by
  unfold DS.sz
  rw [h.1.chs]
  exact h.2.1
theorem sdisk_new (room : Nat) : SDisk (dnew room) unew 0 0 := ⟨⟨rfl, rfl, fun f hf => (by cases hf), List.Pairwise.nil⟩, Nat.le_refl _, 0, unew, [], sinv_new⟩
theorem SDisk.sopen {D : DS} {U : US} {next N : Nat} (h : SDisk D U next N) (hfu : D.fuse = -1) : ∃ D', Go.Proofs.YtlckadlkgjfjcaaGreatDoor.sopen D = (D', 0) ∧ SDisk D' U next N ∧ D'.fuse = -1 ∧ D'.room = D.room ∧ D'.sure = D.sure := by
  obtain ⟨hf, hl, hs⟩ := h
  obtain ⟨D', e1, e2, e3, e4, e5⟩ := reopen hf.up hfu hf.chs (fun f hm => snamed_named (hf.all f hm)) hf.apart
  rw [keep_all hf.all] at e5
  have hr := sopen_room D
  rw [e1] at hr
  exact ⟨D', e1, ⟨⟨e2, e4, by rw [e5]; exact hf.all, by rw [e5]; exact hf.apart⟩, by rw [e5]; exact hl, by rw [e5]; exact hs⟩, e3, hr, e5⟩
/-- Cut, started and opened, it says one of these. -/
def SReop (d : DS) (N : Nat) (P : US → Nat → Prop) : Prop := ∀ ks, ∃ D U n, sopen (dstart (dcut d ks)) = (D, 0) ∧ D.fuse = -1 ∧ D.room = d.room ∧ SDisk D U n N ∧ P U n
theorem dstart_cut_room (d : DS) (ks : List Bool) : (dstart (dcut d ks)).room = d.room := rfl
theorem Reopens.says {d : DS} {A B : Fm (List Nat)} {N : Nat} {P : US → Nat → Prop} (h : Reopens d A B) (hA : A.length ≤ N ∧ ∃ b U0 l U n, SInv A b U0 l U n ∧ P U n) (hB : B.length ≤ N ∧ ∃ b U0 l U n, SInv B b U0 l U n ∧ P U n) : SReop d N P := fun ks => by
  obtain ⟨D, e1, e2, e3, e4⟩ := h ks
  have hr := sopen_room (dstart (dcut d ks))
  rw [e1] at hr
  have hr2 : D.room = d.room := hr.trans (dstart_cut_room d ks)
  rcases e4 with e4 | e4
  · obtain ⟨hN, b, U0, l, U, n, k, p⟩ := hA
    exact ⟨D, U, n, e1, e3, hr2, ⟨e2, by rw [e4]; exact hN, b, U0, l, by rw [e4]; exact k⟩, p⟩
  · obtain ⟨hN, b, U0, l, U, n, k, p⟩ := hB
    exact ⟨D, U, n, e1, e3, hr2, ⟨e2, by rw [e4]; exact hN, b, U0, l, by rw [e4]; exact k⟩, p⟩
/-- A cut where nothing is pending. -/
theorem SDisk.cut {D : DS} {U : US} {next N : Nat} (h : SDisk D U next N) : SReop D N fun V n => V = U ∧ n = next := fun ks => by
  have e : dstart (dcut D ks) = { D with chs := [], down := false, fuse := -1 } := cut_start h.1.chs ks
  have hd : SDisk { D with chs := [], down := false, fuse := -1 } U next N := ⟨⟨rfl, rfl, h.1.all, h.1.apart⟩, h.2.1, h.2.2⟩
  obtain ⟨D', k1, k2, k3, k4, _⟩ := hd.sopen rfl
  rw [e]
  exact ⟨D', U, next, k1, k3, k4, k2, rfl, rfl⟩

/-! ### Do -/
theorem rapply_ne14 (U : US) (k e a : Int) (d : List Nat) : (rapply U k e a d).2.2 ≠ 14 := by
  have hcur : ucur U e ≠ 14 := by unfold ucur; split; decide; split <;> decide
  unfold rapply
  split
  · rename_i h
    unfold rchk
    split
    · simp
    · split
      · simp
      · split <;> simp
  · split
    · unfold useal
      split
      · simp
      · split <;> simp
    · split
      · unfold uwrite
        repeat' split
        all_goals first | exact hcur | simp
      · split
        · unfold ufill
          repeat' split
          all_goals first | exact hcur | simp
        · split
          · unfold utrim
            repeat' split
            all_goals first | exact hcur | simp
          · unfold ucut
            repeat' split
            all_goals first | exact hcur | simp
section
variable {D : DS} {U : US} {next N : Nat}
theorem sdo_cases (k e a : Int) {d : List Nat} (h : SDisk D U next N) (h8 : ∀ y ∈ d, y < 256) :
    ((sdoAct D U next false k e a d).2.2.2.2.2 = 0 ∧ (rapply U k e a d).2.2 = 0 ∧ (sdoAct D U next false k e a d).1 = (rapply U k e a d).1 ∧ (sdoAct D U next false k e a d).2.2.1 = (rapply U k e a d).2.1 ∧ (sdoAct D U next false k e a d).2.2.2.1 = next + 1 ∧ (sdoAct D U next false k e a d).2.2.2.2.1 = false ∧
      SDisk (sdoAct D U next false k e a d).2.1 (rapply U k e a d).2.1 (next + 1) (N + 1)) ∨
    ((sdoAct D U next false k e a d).2.2.2.2.2 ≠ 0 ∧ (sdoAct D U next false k e a d).2.2.2.2.2 ≠ 14 ∧ (sdoAct D U next false k e a d).1 = 0 ∧ (sdoAct D U next false k e a d).2.2.1 = U ∧ (sdoAct D U next false k e a d).2.2.2.1 = next ∧ (sdoAct D U next false k e a d).2.2.2.2.1 = false ∧
      SDisk (sdoAct D U next false k e a d).2.1 U next N) ∨
    ((sdoAct D U next false k e a d).2.2.2.2.2 = 14 ∧ (rapply U k e a d).2.2 = 0 ∧ (sdoAct D U next false k e a d).1 = 0 ∧ (sdoAct D U next false k e a d).2.2.1 = U ∧ (sdoAct D U next false k e a d).2.2.2.1 = next ∧ (sdoAct D U next false k e a d).2.2.2.2.1 = true ∧ (sdoAct D U next false k e a d).2.1.down = true ∧ next ≤ 99999999 ∧
      SReop (sdoAct D U next false k e a d).2.1 (N + 1) fun V n => (V = U ∧ n = next) ∨ (V = (rapply U k e a d).2.1 ∧ n = next + 1)) := by
  obtain ⟨hf, hl, b, U0, l, hi⟩ := h
  by_cases hz : (rapply U k e a d).2.2 = 0
  rotate_left
  · rw [sdo_bad rfl hz]
    exact .inr (.inl ⟨hz, rapply_ne14 _ _ _ _ _, rfl, rfl, rfl, rfl, hf, hl, b, U0, l, hi⟩)
  by_cases hn : 99999999 < next
  · rw [sdo_full hz hn]
    exact .inr (.inl ⟨by simp, by simp, rfl, rfl, rfl, rfl, hf, hl, b, U0, l, hi⟩)
  have hn' : next ≤ 99999999 := by omega
  obtain ⟨z1, z2, z3, z4, z5, z6, z7⟩ := rchk_zero (rapply_chk hz)
  have ek : ((k.toNat : Nat) : Int) = k := by omega
  have ee : ((e.toNat : Nat) : Int) = e := by omega
  have ea : ((a.toNat : Nat) : Int) = a := by omega
  have hfr : (⟨k.toNat, e.toNat, a.toNat, d⟩ : SA).Right := ⟨by rw [ek, ee, ea]; exact rapply_chk hz, h8⟩
  have hact := hi.act hn' ⟨k.toNat, e.toNat, a.toNat, d⟩ hfr (by simp only; rw [ek, ee, ea]; exact hz)
  simp only at hact
  rw [ek, ee, ea] at hact
  have hfl : (fput D.sure (sname 114 next) (SA.text ⟨k.toNat, e.toNat, a.toNat, d⟩)).length ≤ N + 1 := Nat.le_trans (fput_length_le _ _ _) (by omega)
  obtain ⟨P, hP⟩ : ∃ P, sput D (sname 114 next) (fr (rtext k.toNat e.toNat a.toNat d)) = P := ⟨_, rfl⟩
  have hnx := put_next hf (sname 114 next) (fr (rtext k.toNat e.toNat a.toNat d))
  have hdn := sput_down (d := D) (n := sname 114 next) (b := fr (rtext k.toNat e.toNat a.toNat d))
  rw [hP] at hnx hdn
  rcases hnx with ⟨p1, p2, p3⟩ | ⟨p1, p2, p3, p4⟩ | ⟨p1, p2⟩
  · rw [sdo_fine rfl hz hn hP p1]
    exact .inl ⟨rfl, hz, rfl, rfl, rfl, rfl, p2, by rw [p3]; exact hfl, b, U0, _, by rw [p3]; exact hact⟩
  · rw [sdo_fail hz hn hP p1]
    exact .inr (.inl ⟨p1, p2, rfl, rfl, rfl, by simpa using p2, p3, by rw [p4]; exact hl, b, U0, l, by rw [p4]; exact hi⟩)
  · rw [sdo_fail hz hn hP (by omega)]
    refine .inr (.inr ⟨p1, hz, rfl, rfl, rfl, by simpa using p1, hdn p1, hn', ?_⟩)
    exact p2.says ⟨by omega, b, U0, l, U, next, hi, .inl ⟨rfl, rfl⟩⟩ ⟨hfl, b, U0, _, _, _, hact, .inr ⟨rfl, rfl⟩⟩
theorem sdo_calmD {k e a : Int} {d : List Nat} (h1 : D.down = false) (h2 : D.fuse = -1) : (sdoAct D U next false k e a d).2.2.2.2.2 ≠ 14 ∧ (sdoAct D U next false k e a d).2.1.down = false ∧ (sdoAct D U next false k e a d).2.1.fuse = -1 := by
  have hp := sput_calm h1 h2 (sname 114 next) (fr (rtext k.toNat e.toNat a.toNat d))
  unfold sdoAct
  rw [if_neg (fun h : false = true => Bool.noConfusion h)]
  split
  · exact ⟨rapply_ne14 _ _ _ _ _, h1, h2⟩
  · split
    · exact ⟨by simp, h1, h2⟩
    · split
      · exact hp
      · exact ⟨by simp, hp.2⟩

/-! ### Compact -/
/-- What Compact comes to: the disk, is it broken, an error's number. -/
def scompact (D : DS) (U : US) (next : Nat) (br : Bool) : DS × Bool × Nat :=
  if br = true then (D, true, 14) else if 99999999 < next then (D, false, 5) else if 65536 < (utext U).length then (D, false, 3)
  else if (sput D (sname 98 next) (fr (utext U))).2 ≠ 0 then ((sput D (sname 98 next) (fr (utext U))).1, decide ((sput D (sname 98 next) (fr (utext U))).2 = 14), (sput D (sname 98 next) (fr (utext U))).2)
  else ((sclean (sput D (sname 98 next) (fr (utext U))).1 (sname 98 next)).1, decide ((sclean (sput D (sname 98 next) (fr (utext U))).1 (sname 98 next)).2 = 14), (sclean (sput D (sname 98 next) (fr (utext U))).1 (sname 98 next)).2)
end
end Go.Proofs.YtlckadlkgjfjcaaGreatDoor

namespace Go.Proofs.YtlckadlkgjfjcaaGreatDoor
open Go.RowKit

section
variable {D : DS} {U : US} {next N : Nat}
end
end Go.Proofs.YtlckadlkgjfjcaaGreatDoor

namespace Go.Proofs.YtlckadlkgjfjcaaGreatDoor
open Go.RowKit
section
variable {w w1 w2 : World} {S : Nat → Prop} {h p q u m : Nat} {B : Nat → Prop} {U U2 : US} {next next2 : Nat} {br br2 : Bool} {D D2 : DS}
theorem ShDone.on {S1 : Nat → Prop} {u1 m1 : Nat} {B1 : Nat → Prop} (f1 : Fr (fun j => S j ∨ j = h) w w1) (a1 : ∀ j, S j → S1 j) (b1 : ∀ j, S1 j → S j ∨ w.heap.size ≤ j) (c1 : u1 = u ∨ w.heap.size ≤ u1) (e1 : m1 = m ∨ w.heap.size ≤ m1) (g1 : ∀ j, B1 j → B j ∨ w.heap.size ≤ j) (h2 : ShDone w1 S1 h p q u1 m1 B1 D2 U2 next2 br2 w2) : ShDone w S h p q u m B D2 U2 next2 br2 w2 := by
  obtain ⟨S2, u2, m2, B2, s2, d2, f2, a2, b2, c2, e2, g2⟩ := h2
  have hs := f1.size
  refine ⟨S2, u2, m2, B2, s2, d2, f1.trans f2 (fun _ _ h => h) (fun j hj hS => ?_), fun j hj => a2 j (a1 j hj), fun j hj => ?_, ?_, ?_, fun j hj => ?_⟩
  · rcases hS with hS | hS
    · rcases b1 j hS with h | h
      · exact .inl h
      · omega
    · exact .inr hS
  · rcases b2 j hj with h | h
    · exact b1 j h
    · exact .inr (by omega)
  · rcases c2 with rfl | h
    · exact c1
    · exact .inr (by omega)
  · rcases e2 with rfl | h
    · exact e1
    · exact .inr (by omega)
  · rcases g2 j hj with h | h
    · exact g1 j h
    · exact .inr (by omega)
theorem sput_sz10 (d : DS) (n : Nm) (b : List Nat) : (sput d n b).1.sz ≤ d.sz + 4 := by
  have h1 := opSz_write d (til :: n) b
  have h2 := opSz_sync (dwrite d (til :: n) b).1
  have h3 := opSz_rename (dsync (dwrite d (til :: n) b).1).1 (til :: n) n
  have h4 := opSz_sync (drename (dsync (dwrite d (til :: n) b).1).1 (til :: n) n).1
  unfold sput
  split
  · simp only; omega
  · split
    · omega
    · split
      · omega
      · split <;> omega
theorem scompact_broke : scompact D U next true = (D, true, 14) := rfl
theorem scompact_full (hn : 99999999 < next) : scompact D U next false = (D, false, 5) := by
  unfold scompact
  rw [if_neg (fun h : false = true => Bool.noConfusion h), if_pos hn]
theorem scompact_long (hn : ¬ 99999999 < next) (hl : 65536 < (utext U).length) : scompact D U next false = (D, false, 3) := by
  unfold scompact
  rw [if_neg (fun h : false = true => Bool.noConfusion h), if_neg hn, if_pos hl]
theorem scompact_fail {P : DS × Nat} (hn : ¬ 99999999 < next) (hl : ¬ 65536 < (utext U).length) (hP : sput D (sname 98 next) (fr (utext U)) = P) (hc : P.2 ≠ 0) : scompact D U next false = (P.1, decide (P.2 = 14), P.2) := by
  unfold scompact
  rw [if_neg (fun h : false = true => Bool.noConfusion h), if_neg hn, if_neg hl, hP, if_pos hc]
theorem scompact_fine {P : DS × Nat} (hn : ¬ 99999999 < next) (hl : ¬ 65536 < (utext U).length) (hP : sput D (sname 98 next) (fr (utext U)) = P) (hc : P.2 = 0) : scompact D U next false = ((sclean P.1 (sname 98 next)).1, decide ((sclean P.1 (sname 98 next)).2 = 14), (sclean P.1 (sname 98 next)).2) := by
  unfold scompact
  rw [if_neg (fun h : false = true => Bool.noConfusion h), if_neg hn, if_neg hl, hP, if_neg (fun h => h hc)]
def ShCPost (w : World) (S : Nat → Prop) (h p q u m : Nat) (B : Nat → Prop) (U : US) (next : Nat) (x : DS × Bool × Nat) (r : Ending) (w' : World) : Prop :=
  r = .returned (errV x.2.2) ∧ ShDone w S h p q u m B x.1 U next x.2.1 w'
set_option maxHeartbeats 8000000 in
set_option maxRecDepth 100000 in
theorem compact_any (hd : Dk w S p D) (s : ShelfAt w S h p q u m B U next br) (hsz : D.sz ≤ 300000) (ht : ∀ W, Fr (fun j => S j ∨ j = h) w W → Tens W) (hnx : next ≤ 1000000000) :
    Calls Tryz.prog 54 #[.pointer (some ⟨h, 0, none⟩)] w (ShCPost w S h p q u m B U next (scompact D U next br)) := by
  have HS := Lib.hid s
  have HD := Lib.hid hd
  have HSZ := Lib.hid hsz
  have HT := Lib.hid ht
  have HNX := Lib.hid hnx
  have HWH := Lib.hid (whole_any s)
  obtain ⟨x0, x1, x2, x3, xf⟩ := s.x
  clear hd s hsz ht hnx
  cases br
  rotate_left
  · rw [if_pos rfl, errV_pos (by decide)] at HWH
    rw [scompact_broke]
    go_enter Tryz.func54, Tryz.ntmps54
    go_wp2_with fail
    refine HWH.out.mono ?_
    rintro r w' ⟨rfl, rfl⟩
    go_wp2
    go_ret
    exact ⟨rfl, ShDone.same HS.out HD.out (Below.refl _ _)⟩
  rw [if_neg (by decide), errV_zero] at HWH
  by_cases hn : 99999999 < next
  · rw [scompact_full hn]
    have hni : (99999999 : Int) < (next : Int) := by omega
    clear hn
    go_enter Tryz.func54, Tryz.ntmps54
    go_wp2_with fail
    refine HWH.out.mono ?_
    rintro r w' ⟨rfl, rfl⟩
    go_wp2
    go_ret
    exact ⟨rfl, ShDone.same HS.out HD.out (Below.refl _ _)⟩
  have HN := Lib.hid hn
  have hni : ¬ (99999999 : Int) < (next : Int) := by omega
  have HPU := Lib.hid (putUnit_any HS.out.un)
  clear hn
  go_enter Tryz.func54, Tryz.ntmps54
  go_wp2_with fail
  refine HWH.out.mono ?_
  rintro r w' ⟨rfl, rfl⟩
  go_wp2_with fail
  refine HPU.out.mono ?_
  rintro r w3 ⟨hb3, hcase⟩
  rcases hcase with ⟨hle, v3, rfl, ho3⟩ | ⟨hle, rfl⟩
  rotate_left
  · have HB3 := Lib.hid hb3
    have HLL := Lib.hid hle
    rw [errV_pos (by decide)]
    clear hb3 hle
    go_wp2
    go_ret
    rw [scompact_long HN.out HLL.out]
    exact ⟨rfl, ShDone.same HS.out HD.out HB3.out⟩
  have HLE : Hid (¬ 65536 < (utext U).length) := Lib.hid (by omega)
  have hby : ∀ y ∈ fr (utext U), y < 256 := by
    have := utext_many U
    exact fr_byte (utext_len HS.out.un.ok (by omega)).2 (by unfold U64; omega)
  obtain ⟨ao3, cap3, rfl, _, _, _⟩ := ho3.reads.val
  obtain ⟨b3, hb3e⟩ : ∃ b, b = fr (utext U) := ⟨_, rfl⟩
  rw [← hb3e] at ho3 hby ⊢
  have hat3 : At w3 (fun j => ¬ S j) .u8 (.slice ao3 b3.length cap3) b3 := ho3.at'.mono fun j _ ho hS => by
    have h1 := HD.out.lt hS
    have h2 := ho.1
    omega
  have HP := Lib.hid (sput_any (HD.out.keep (kept_new hb3 S)) (HS.out.old hb3).box (HS.out.old hb3).st HS.out.sh.2.1 HS.out.sh.1 (by have := HSZ.out; omega) (HT.out _ (fr_below hb3 _)) (by have := HN.out; omega) (mk := [98]) (by decide) hat3 hby)
  have HB3 := Lib.hid hb3
  obtain ⟨P, hP⟩ : ∃ P, P = sput D ([98] ++ dig8 next) b3 := ⟨_, rfl⟩
  have HPE : Hid (sput D (sname 98 next) (fr (utext U)) = P) := Lib.hid (by rw [hP, hb3e]; rfl)
  rw [← hP, show (([98] : Nm)).toArray = #[98] from rfl] at HP
  obtain ⟨nb, hnb⟩ : ∃ n, n = b3.length := ⟨_, rfl⟩
  rw [← hnb] at HP ⊢
  clear x0 x1 x2 x3 xf
  obtain ⟨x0, x1, x2, x3, xf⟩ := (HS.out.old hb3).x
  rw [errV_zero]
  clear hb3 hle hby ho3 hb3e hat3 hP hnb
  go_wp2_with fail
  refine HP.out.mono ?_
  rintro r w6 hp6
  obtain ⟨rfl, hsd⟩ := ShDone.put HS.out HB3.out hp6
  have HSD := Lib.hid hsd
  have HP6 := Lib.hid hp6
  clear hp6 hsd x0 x1 x2 x3 xf
  by_cases hc : P.2 = 0
  rotate_left
  · have HC := Lib.hid hc
    rw [errV_pos hc]
    clear hc
    go_wp2
    go_ret
    rw [scompact_fail HN.out HLE.out HPE.out HC.out]
    exact ⟨by rw [errV_pos HC.out]; rfl, HSD.out⟩
  have HC := Lib.hid hc
  rw [hc, errV_zero]
  have hdf : decide (P.2 = 14) = false := by rw [hc]; rfl
  have hsd := HSD.out
  rw [hdf] at hsd
  have HSD2 := Lib.hid hsd
  obtain ⟨S1, u1, m1, B1, s1, d1, f1, a1, b1, c1, e1, g1⟩ := hsd
  have HFR : Hid (Fr (fun j => S j ∨ j = h) w' w6) := Lib.hid f1
  have HX6 : Hid (∀ W, Below w6.heap.size w6 W → W.cell? ⟨h, 2, none⟩ = some (.int .i64 (next : Int))) := Lib.hid fun W hW => (s1.old hW).x.2.2.1
  have ht6 : Tens w6 := HT.out _ f1
  have HNAM : Hid (∀ W, Below w6.heap.size w6 W → Calls Tryz.prog 102 #[.string ⟨#[98]⟩, .int .i64 (next : Int)] W fun e w' => e = .returned (nmV (sname 98 next)) ∧ Below w6.heap.size w6 w') := Lib.hid fun W hW => (nameOf_any [98] (by decide) next (by have := HN.out; omega) W (ht6.below hW)).mono fun e w' k => ⟨k.1, hW.trans (k.2.mono hW.size)⟩
  have hpz : P.1.sz ≤ 400000 := by
    have h1 := sput_sz10 D (sname 98 next) (fr (utext U))
    rw [HPE.out] at h1
    have := HSZ.out
    omega
  have HDB : Hid (∀ W, Below w6.heap.size w6 W → Calls Tryz.prog 101 #[.pointer (some ⟨h, 0, none⟩), nmV (sname 98 next)] W fun e w7 => e = .returned (errV (sclean P.1 (sname 98 next)).2) ∧ ShDone w' S h p q u m B (sclean P.1 (sname 98 next)).1 U next (decide ((sclean P.1 (sname 98 next)).2 = 14)) w7) := Lib.hid fun W hW => by
    refine (deleteBut_any (d1.keep (kept_new hW S1)) (s1.old hW) hpz (sname 98 next)).mono fun e w7 hp => ?_
    obtain ⟨he, hdn⟩ := ShDone.put s1 hW hp
    exact ⟨he, hdn.on f1 a1 b1 c1 e1 g1⟩
  obtain ⟨sn, hsn⟩ : ∃ s, nmV (sname 98 next) = .string s := ⟨_, rfl⟩
  rw [hsn] at HNAM HDB
  obtain ⟨cc, hcc⟩ : ∃ c, c = (sclean P.1 (sname 98 next)).2 := ⟨_, rfl⟩
  have x2 := HX6.out w6 (Below.refl _ _)
  clear hc hdf s1 d1 f1 a1 b1 c1 e1 g1 ht6 hpz hsn
  obtain ⟨er, her⟩ : ∃ x, x = errV (sclean P.1 (sname 98 next)).2 := ⟨_, rfl⟩
  rw [← her] at HDB
  have HER := Lib.hid her
  clear hcc her cc
  go_upto_region 12 with fail
  go_wp2_with fail
  refine (HNAM.out _ (Below.refl _ _)).mono ?_
  rintro r w7 ⟨rfl, hb7⟩
  have HB7 := Lib.hid hb7
  clear hb7 x2
  go_wp2_with fail
  refine (HDB.out _ HB7.out).mono ?_
  rintro r w8 ⟨rfl, hd8⟩
  have HD8 := Lib.hid hd8
  clear hd8
  go_wp2
  go_ret
  rw [scompact_fine HN.out HLE.out HPE.out HC.out]
  exact ⟨by rw [HER.out]; rfl, HD8.out⟩
end
end Go.Proofs.YtlckadlkgjfjcaaGreatDoor

namespace Go.Proofs.YtlckadlkgjfjcaaGreatDoor
open Go.RowKit

/-- A shelf and its disk. Of the blocks that its calls may write C holds, of those that it only reads R. -/
structure Drs (w0 w : World) (C R : Nat → Prop) (p h : Nat) (D : DS) (U : US) (next : Nat) (br : Bool) : Prop where
  is : ∃ (S : Nat → Prop) (q u m : Nat) (B : Nat → Prop), ShelfAt w S h p q u m B U next br ∧ Dk w S p D ∧ (∀ j, S j ∨ j = h → C j) ∧ ∀ j, j = q ∨ j = u ∨ j = m ∨ B j → R j
  apart : ∀ j, R j → ¬ C j
  lt : ∀ j, C j ∨ R j → j < w.heap.size
  ge : ∀ j, C j ∨ R j → w0.heap.size ≤ j
  below : Below w0.heap.size w0 w
/-- A shelf's disk alone. -/
structure Ddk (w0 w : World) (C : Nat → Prop) (p : Nat) (D : DS) : Prop where
  is : ∃ S : Nat → Prop, Dk w S p D ∧ ∀ j, S j → C j
  lt : ∀ j, C j → j < w.heap.size
  ge : ∀ j, C j → w0.heap.size ≤ j
  below : Below w0.heap.size w0 w
/-- What a call changed: blocks of C; what it may write then. -/
structure Chg (C R C' R' : Nat → Prop) (w w' : World) : Prop where
  fr : Fr C w w'
  c : ∀ j, C' j → C j ∨ w.heap.size ≤ j
  r : ∀ j, R' j → R j ∨ w.heap.size ≤ j
theorem Chg.refl (C R : Nat → Prop) (w : World) : Chg C R C R w w := ⟨Fr.refl _ _, fun _ h => .inl h, fun _ h => .inl h⟩
theorem Chg.trans {C R C1 R1 C2 R2 : Nat → Prop} {w w1 w2 : World} (h : Chg C R C1 R1 w w1) (k : Chg C1 R1 C2 R2 w1 w2) : Chg C R C2 R2 w w2 := by
  have hs := h.fr.size
  refine ⟨h.fr.trans k.fr (fun _ _ h => h) (fun j hj hc => ?_), fun j hj => ?_, fun j hj => ?_⟩
  · rcases h.c j hc with h1 | h1
    · exact h1
    · omega
  · rcases k.c j hj with h1 | h1
    · exact h.c j h1
    · exact .inr (by omega)
  · rcases k.r j hj with h1 | h1
    · exact h.r j h1
    · exact .inr (by omega)
theorem chg_below {C R : Nat → Prop} {w w' : World} (h : Below w.heap.size w w') : Chg C R C R w w' := ⟨fr_below h C, fun _ h => .inl h, fun _ h => .inl h⟩
def DrsPost (w0 w : World) (C R : Nat → Prop) (p h : Nat) (D : DS) (U : US) (next : Nat) (br : Bool) (w' : World) : Prop :=
  ∃ C' R' : Nat → Prop, Drs w0 w' C' R' p h D U next br ∧ Chg C R C' R' w w'
def DdkPost (w0 w : World) (C R : Nat → Prop) (p : Nat) (D : DS) (w' : World) : Prop :=
  ∃ C' : Nat → Prop, Ddk w0 w' C' p D ∧ Chg C R C' (fun _ => False) w w'
section
variable {w0 w w' : World} {C R : Nat → Prop} {p h : Nat} {D : DS} {U : US} {next : Nat} {br : Bool}
theorem Drs.size (d : Drs w0 w C R p h D U next br) : w0.heap.size ≤ w.heap.size := d.below.size
theorem Drs.open' (d : Drs w0 w C R p h D U next br) : ∃ (S : Nat → Prop) (q u m : Nat) (B : Nat → Prop), ShelfAt w S h p q u m B U next br ∧ Dk w S p D ∧ (∀ j, S j ∨ j = h → C j) ∧ (∀ j, j = q ∨ j = u ∨ j = m ∨ B j → R j) ∧ (∀ j, B j → j < w.heap.size) ∧
    ∀ D' U' next' br' w', ShDone w S h p q u m B D' U' next' br' w' → DrsPost w0 w C R p h D' U' next' br' w' := by
  obtain ⟨S, q, u, m, B, s, hd, hC, hR⟩ := d.is
  refine ⟨S, q, u, m, B, s, hd, hC, hR, fun j hj => d.lt j (.inr (hR j (.inr (.inr (.inr hj))))), fun D' U' next' br' w' hdone => ?_⟩
  obtain ⟨S1, u', m', B', t, hd', hf, hS, hS1, hu', hm', hB'⟩ := hdone
  have hs0 := d.size
  have hfC : Fr C w w' := hf.mono fun j _ hj => hC j hj
  have hbl : Below w0.heap.size w0 w' := hfC.fresh d.below fun j hj => d.ge j (.inl hj)
  have hc1 : ∀ j, S1 j ∨ j = h → C j ∨ w.heap.size ≤ j := by
    rintro j (hj | rfl)
    · exact (hS1 j hj).imp (fun x => hC j (.inl x)) id
    · exact .inl (hC _ (.inr rfl))
  have hr1 : ∀ j, j = q ∨ j = u' ∨ j = m' ∨ (B' j ∧ j < w'.heap.size) → R j ∨ w.heap.size ≤ j := by
    rintro j (rfl | rfl | rfl | hj)
    · exact .inl (hR _ (.inl rfl))
    · rcases hu' with rfl | hu'
      · exact .inl (hR _ (.inr (.inl rfl)))
      · exact .inr hu'
    · rcases hm' with rfl | hm'
      · exact .inl (hR _ (.inr (.inr (.inl rfl))))
      · exact .inr hm'
    · exact (hB' j hj.1).imp (fun x => hR j (.inr (.inr (.inr x)))) id
  refine ⟨fun j => S1 j ∨ j = h, fun j => j = q ∨ j = u' ∨ j = m' ∨ (B' j ∧ j < w'.heap.size), ⟨⟨S1, q, u', m', _, t.small, hd', fun _ h => h, fun _ h => h⟩, ?_, ?_, ?_, hbl⟩, hfC, hc1, hr1⟩
  · rintro j hj (hS1j | rfl)
    · rcases hj with rfl | rfl | rfl | hj
      · exact t.sh.2.1 hS1j
      · exact t.sh.2.2.1 hS1j
      · exact t.sh.2.2.2.1 hS1j
      · exact t.sh.2.2.2.2 j hj.1 hS1j
    · rcases hj with e | e | e | hj
      · exact t.hne.1 e
      · exact t.hne.2.1 e
      · exact t.hne.2.2.1 e
      · exact t.hne.2.2.2 hj.1
  · rintro j ((hj | rfl) | (rfl | rfl | rfl | hj))
    · exact hd'.lt hj
    · exact t.hlt
    · exact t.st.2
    · exact t.un.ult
    · exact t.un.mlt
    · exact hj.2
  · rintro j (hj | hj)
    · rcases hc1 j hj with h1 | h1
      · exact d.ge j (.inl h1)
      · omega
    · rcases hr1 j hj with h1 | h1
      · exact d.ge j (.inr h1)
      · omega
/-- Something that lies elsewhere has changed. -/
theorem Drs.fr {T : Nat → Prop} (d : Drs w0 w C R p h D U next br) (hf : Fr T w w') (hT : ∀ j, T j → ¬ C j ∧ ¬ R j ∧ w0.heap.size ≤ j) : Drs w0 w' C R p h D U next br := by
  obtain ⟨S, q, u, m, B, s, hd, hC, hR⟩ := d.is
  have kC : ∀ j, C j → w'.heap[j]? = w.heap[j]? := fun j hj => hf.block j (d.lt j (.inl hj)) fun ht => (hT j ht).1 hj
  have kR : ∀ j, R j → w'.heap[j]? = w.heap[j]? := fun j hj => hf.block j (d.lt j (.inr hj)) fun ht => (hT j ht).2.1 hj
  refine ⟨⟨S, q, u, m, B, ⟨(kC h (hC h (.inr rfl))).trans s.box, ⟨(World.cell?_of_block (a := ⟨q, 0, none⟩) (kR q (hR q (.inl rfl)))).trans s.st.1, Nat.lt_of_lt_of_le s.st.2 hf.size⟩, s.un.keep ⟨hf.size, fun j _ hj => kR j (hR j (.inr (.inr (.inr hj))))⟩ (kR u (hR u (.inr (.inl rfl)))) (kR m (hR m (.inr (.inr (.inl rfl))))), s.sh, s.hne, s.qne⟩, hd.keep ⟨hf.size, fun j _ hj => kC j (hC j (.inl hj))⟩, hC, hR⟩, d.apart, fun j hj => Nat.lt_of_lt_of_le (d.lt j hj) hf.size, d.ge, hf.fresh d.below fun j hj => (hT j hj).2.2⟩
theorem Drs.old (d : Drs w0 w C R p h D U next br) (hb : Below w.heap.size w w') : Drs w0 w' C R p h D U next br := d.fr (fr_below hb fun _ => False) fun _ h => h.elim
theorem Drs.small (d : Drs w0 w C R p h D U next br) : Small 65536 D.sure := by
  obtain ⟨S, q, u, m, B, s, ⟨m1, m2, cv, hd⟩, _⟩ := d.is
  exact hd.small
theorem Drs.tens (d : Drs w0 w C R p h D U next br) (ht : Tens w0) : Tens w := ht.below d.below
theorem Drs.disk (d : Drs w0 w C R p h D U next br) : Ddk w0 w C p D := by
  obtain ⟨S, q, u, m, B, s, hd, hC, hR⟩ := d.is
  exact ⟨⟨S, hd, fun j hj => hC j (.inl hj)⟩, fun j hj => d.lt j (.inl hj), fun j hj => d.ge j (.inl hj), d.below⟩
/-! ### Calls -/
theorem Drs.act (d : Drs w0 w C R p h D U next br) (hsz : D.sz ≤ 400000) (ht : Tens w0) (hnx : next ≤ 1000000000) (k e : Int) {a : Int} (ha : I64 a) {v : Value} {dd : List Nat} (hv : Reads w .u8 v dd) (h8 : ∀ y ∈ dd, y < 256) :
    Calls Tryz.prog 110 #[.pointer (some ⟨h, 0, none⟩), .agg #[.int .i64 k, .int .i64 e, .int .i64 a, v]] w fun r w' => r = .returned (.tuple #[.int .i64 (sdoAct D U next br k e a dd).1, errV (sdoAct D U next br k e a dd).2.2.2.2.2]) ∧
      DrsPost w0 w C R p h (sdoAct D U next br k e a dd).2.1 (sdoAct D U next br k e a dd).2.2.1 (sdoAct D U next br k e a dd).2.2.2.1 (sdoAct D U next br k e a dd).2.2.2.2.1 w' := by
  obtain ⟨S, q, u, m, B, s, hd, hC, hR, hB, hpost⟩ := d.open'
  refine (shdo_any hd s hsz (d.tens ht) hnx k e ha hv h8 fun hc => ?_).mono fun r w' k => ⟨k.1, hpost _ _ _ _ _ k.2⟩
  obtain ⟨z1, z2, z3, z4, z5, z6, z7, _⟩ := rchk_zero hc
  have hU : ∀ {x : Int}, 0 ≤ x → x ≤ 1099511627776 → U64 x.toNat := fun h1 h2 => by unfold U64; omega
  have hl := rtext_le (k := k.toNat) (e := e.toNat) (a := a.toNat) (hU (by omega) (by omega)) (hU z3 z4) (hU z5 (by omega)) z7
  exact fr_byte (rtext_byte (hU (by omega) (by omega)) (hU z3 z4) (hU z5 (by omega)) h8 z7) (by unfold U64; omega)
theorem Drs.compact (d : Drs w0 w C R p h D U next br) (hsz : D.sz ≤ 300000) (ht : Tens w0) (hnx : next ≤ 1000000000) :
    Calls Tryz.prog 54 #[.pointer (some ⟨h, 0, none⟩)] w fun r w' => r = .returned (errV (scompact D U next br).2.2) ∧ DrsPost w0 w C R p h (scompact D U next br).1 U next (scompact D U next br).2.1 w' := by
  obtain ⟨S, q, u, m, B, s, hd, hC, hR, hB, hpost⟩ := d.open'
  exact (compact_any hd s hsz (fun W hW => ht.below (hW.fresh d.below fun j hj => d.ge j (.inl (hC j hj)))) hnx).mono fun r w' k => ⟨k.1, hpost _ _ _ _ _ k.2⟩
/-- A unit of a law's own, beside. -/
def Lun (w : World) (C R : Nat → Prop) (u m : Nat) (U : US) : Prop := ∃ B, Un w B u m U ∧ (∀ j, j = u ∨ j = m → ¬ C j ∧ ¬ R j) ∧ ∀ j, B j → ¬ C j ∧ j < w.heap.size
theorem Drs.unit (d : Drs w0 w C R p h D U next br) :
    Calls Tryz.prog 56 #[.pointer (some ⟨h, 0, none⟩)] w fun r w' => ∃ u m, r = .returned (.pointer (some ⟨u, 0, none⟩)) ∧ Lun w' C R u m U ∧ w.heap.size ≤ u ∧ w.heap.size ≤ m ∧ Below w.heap.size w w' := by
  obtain ⟨S, q, u, m, B, s, hd, _, hR, hB, _⟩ := d.open'
  refine (shunit_any s).mono fun r w' ⟨u', m', h1, h2, h3, h4, h5⟩ => ⟨u', m', h1, ⟨_, h2, ?_, fun j hj => ⟨d.apart j (hR j (.inr (.inr (.inr hj.1)))), Nat.lt_of_lt_of_le hj.2 h5.size⟩⟩, h3, h4, h5⟩
  rintro j (rfl | rfl)
  · exact ⟨fun hc => by have := d.lt _ (.inl hc); omega, fun hc => by have := d.lt _ (.inr hc); omega⟩
  · exact ⟨fun hc => by have := d.lt _ (.inl hc); omega, fun hc => by have := d.lt _ (.inr hc); omega⟩
/-- A shelf's call leaves a law's unit. -/
theorem Lun.chg {C' R' : Nat → Prop} {u m : Nat} {V : US} (l : Lun w C R u m V) (c : Chg C R C' R' w w') : Lun w' C' R' u m V := by
  obtain ⟨B, h1, h2, h3⟩ := l
  have kb : ∀ j, ¬ C j → j < w.heap.size → w'.heap[j]? = w.heap[j]? := fun j hc hj => c.fr.block j hj hc
  refine ⟨B, h1.keep ⟨c.fr.size, fun j hj hB => kb j (h3 j hB).1 hj⟩ (kb u (h2 u (.inl rfl)).1 h1.ult) (kb m (h2 m (.inr rfl)).1 h1.mlt), ?_, fun j hj => ⟨fun hc => ?_, Nat.lt_of_lt_of_le (h3 j hj).2 c.fr.size⟩⟩
  · rintro j hj
    have hlt : j < w.heap.size := by
      rcases hj with rfl | rfl
      · exact h1.ult
      · exact h1.mlt
    exact ⟨fun hc => (c.c j hc).elim (h2 j hj).1 fun h => by omega, fun hc => (c.r j hc).elim (h2 j hj).2 fun h => by omega⟩
  · have := (h3 j hj).2
    exact (c.c j hc).elim (h3 j hj).1 fun h => by omega
theorem Lun.old {u m : Nat} {V : US} (l : Lun w C R u m V) (hb : Below w.heap.size w w') : Lun w' C R u m V := l.chg (chg_below hb)
/-- Another unit has changed. -/
theorem Lun.beside {T : Nat → Prop} {u m : Nat} {V : US} (l : Lun w C R u m V) (hf : Fr T w w') (hT : ∀ j, T j → ¬ (j = u ∨ j = m)) (hB : ∀ j, T j → w.heap.size ≤ j ∨ ∀ B, Un w B u m V → ¬ B j) : Lun w' C R u m V := by
  obtain ⟨B, h1, h2, h3⟩ := l
  refine ⟨B, h1.keep ⟨hf.size, fun j hj hBj => hf.block j hj fun ht => ?_⟩ (hf.block u h1.ult fun ht => hT u ht (.inl rfl)) (hf.block m h1.mlt fun ht => hT m ht (.inr rfl)), h2, fun j hj => ⟨(h3 j hj).1, Nat.lt_of_lt_of_le (h3 j hj).2 hf.size⟩⟩
  rcases hB j ht with h | h
  · omega
  · exact h B h1 hBj
end
end Go.Proofs.YtlckadlkgjfjcaaGreatDoor

namespace Go.Proofs.YtlckadlkgjfjcaaGreatDoor
open Go.RowKit
section
variable {w0 w w' : World} {C R : Nat → Prop} {p h : Nat} {D : DS} {U : US} {next : Nat} {br : Bool}
/-- What changed a disk. -/
theorem Ddk.post {S : Nat → Prop} {D' : DS} (d : Ddk w0 w C p D) (hS : ∀ j, S j → C j) (hp : DPost S p w w' D') : DdkPost w0 w C R p D' w' := by
  obtain ⟨S1, hd, hf, hs, ht⟩ := hp
  have hfC : Fr C w w' := hf.mono fun j _ hj => hS j hj
  have hsz := d.below.size
  refine ⟨S1, ⟨⟨S1, hd, fun _ h => h⟩, fun j hj => hd.lt hj, fun j hj => ?_, hfC.fresh d.below d.ge⟩, hfC, fun j hj => (ht j hj).imp (hS j) id, fun _ h => h.elim⟩
  rcases ht j hj with h1 | h1
  · exact d.ge j (hS j h1)
  · omega
theorem Ddk.old (d : Ddk w0 w C p D) (hb : Below w.heap.size w w') : Ddk w0 w' C p D := by
  obtain ⟨S, hd, hS⟩ := d.is
  exact ⟨⟨S, hd.keep (kept_new hb S), hS⟩, fun j hj => Nat.lt_of_lt_of_le (d.lt j hj) hb.size, d.ge, (fr_below hb fun _ => False).fresh d.below fun _ h => h.elim⟩
theorem Ddk.fr {T : Nat → Prop} (d : Ddk w0 w C p D) (hf : Fr T w w') (hT : ∀ j, T j → ¬ C j ∧ w0.heap.size ≤ j) : Ddk w0 w' C p D := by
  obtain ⟨S, hd, hS⟩ := d.is
  exact ⟨⟨S, hd.keep ⟨hf.size, fun j hj hSj => hf.block j hj fun ht => (hT j ht).1 (hS j hSj)⟩, hS⟩, fun j hj => Nat.lt_of_lt_of_le (d.lt j hj) hf.size, d.ge, hf.fresh d.below fun j hj => (hT j hj).2⟩
theorem ddk_new {w1 : World} (hb : Below w0.heap.size w0 w1) (hd : Dk w (fun j => j = w1.heap.size) w1.heap.size D) (hb2 : Below w1.heap.size w1 w) : Ddk w0 w (fun j => j = w1.heap.size) w1.heap.size D :=
  ⟨⟨_, hd, fun _ h => h⟩, fun j hj => hd.lt hj, fun j hj => by subst hj; exact hb.size, hb.trans (hb2.mono hb.size)⟩
theorem Ddk.cut (d : Ddk w0 w C p D) (hsz : D.sz < 1099511627776) {kv : Value} {ks : List Bool} (hkv : RowV w (fun j => ¬ C j) kv (ks.map Value.bool)) :
    Calls Tryz.prog 49 #[.pointer (some ⟨p, 0, none⟩), kv] w fun e w' => e = .returned (.tuple #[]) ∧ DdkPost w0 w C R p (dcut D ks) w' := by
  obtain ⟨S, hd, hS⟩ := d.is
  exact (cutD_any hd hsz (hkv.mono fun j _ hj hSj => hj (hS j hSj))).mono fun e w' hp => ⟨hp.1, d.post hS hp.2⟩
theorem Ddk.start (d : Ddk w0 w C p D) :
    Calls Tryz.prog 51 #[.pointer (some ⟨p, 0, none⟩)] w fun e w' => e = .returned (.tuple #[]) ∧ DdkPost w0 w C R p (dstart D) w' := by
  obtain ⟨S, hd, hS⟩ := d.is
  exact (startD_any hd).mono fun e w' hp => ⟨hp.1, d.post hS hp.2⟩
theorem Ddk.down (d : Ddk w0 w C p D) : Calls Tryz.prog 104 #[.pointer (some ⟨p, 0, none⟩)] w fun e w' => e = .returned (.bool D.down) ∧ w' = w := by
  obtain ⟨S, hd, hS⟩ := d.is
  exact downD_any hd
theorem Ddk.list (d : Ddk w0 w C p D) (hsz : D.sz ≤ 1000000) : Calls Tryz.prog 132 #[.pointer (some ⟨p, 0, none⟩)] w (DListPost (dlist D) w) := by
  obtain ⟨S, hd, hS⟩ := d.is
  exact listD_any hd hsz
/-- The fuse is set: the shelf stays. -/
theorem Drs.fuse (d : Drs w0 w C R p h D U next br) (n : Int) (h0 : 0 ≤ n) (hn : n ≤ 9223372036854775807) :
    Calls Tryz.prog 53 #[.pointer (some ⟨p, 0, none⟩), .int .i64 n] w fun e w' => e = .returned .nilIface ∧ Drs w0 w' C R p h { D with fuse := n } U next br ∧ Chg C R C R w w' := by
  obtain ⟨S, q, u, m, B, s, hd, hC, hR⟩ := d.is
  refine (fuseD_any hd n hn).mono fun e w' hp => ?_
  rw [if_neg (by omega), if_neg (by omega)] at hp
  obtain ⟨rfl, hd2, hf⟩ := hp
  have hpS : ∀ j, j = p → S j := fun j e => by rw [e]; exact hd.inS
  have hne : ∀ j, ¬ S j → j < w.heap.size → w'.heap[j]? = w.heap[j]? := fun j hj hl => hf.block j hl fun e => hj (hpS j e)
  have hfC : Fr C w w' := hf.mono fun j _ e => hC j (.inl (hpS j e))
  refine ⟨rfl, ⟨⟨S, q, u, m, B, ⟨(hne h s.sh.1 s.hlt).trans s.box, ⟨(World.cell?_of_block (a := ⟨q, 0, none⟩) (hne q s.sh.2.1 s.st.2)).trans s.st.1, Nat.lt_of_lt_of_le s.st.2 hf.size⟩, s.un.keep (hf.kept B fun j _ hj e => s.sh.2.2.2.2 j hj (hpS j e)) (hne u s.sh.2.2.1 s.un.ult) (hne m s.sh.2.2.2.1 s.un.mlt), s.sh, s.hne, s.qne⟩, hd2, hC, hR⟩, d.apart, fun j hj => Nat.lt_of_lt_of_le (d.lt j hj) hf.size, d.ge, hfC.fresh d.below fun j hj => d.ge j (.inl hj)⟩, hfC, fun _ h => .inl h, fun _ h => .inl h⟩
/-- Opened, where the files say a unit. -/
theorem Ddk.opens {D' : DS} {N : Nat} (d : Ddk w0 w C p D) (hsz : D.sz ≤ 400000) (hN : N ≤ 400000) (ht : Tens w0) (ho : sopen D = (D', 0)) (hs : SDisk D' U next N) :
    Calls Tryz.prog 52 #[.pointer (some ⟨p, 0, none⟩)] w fun e w' => ∃ (h : Nat) (C' R' : Nat → Prop), e = .returned (.tuple #[.pointer (some ⟨h, 0, none⟩), .nilIface]) ∧ Drs w0 w' C' R' p h D' U next false ∧ Chg C R C' R' w w' ∧ w.heap.size ≤ h := by
  obtain ⟨S, hd, hS⟩ := d.is
  have hsz2 : (sopen D).1.sz ≤ 400000 := by rw [ho]; exact Nat.le_trans hs.sz hN
  have hs0 := d.below.size
  refine (hopen_any hd hsz hsz2 fun W hW => ht.below ((hW.fresh d.below fun j hj => d.ge j (hS j hj)))).mono ?_
  rintro e w' ⟨D2, U2, n2, c, hro, hcase⟩
  obtain ⟨rfl, hc, hun⟩ := (hs.ropen ho).unique hro
  subst hc
  obtain ⟨rfl, rfl⟩ := hun rfl
  rcases hcase with ⟨hz, _⟩ | ⟨_, S1, hb, q, u, m, B, rfl, hd', hf, hsub, hnew, s, g1, g2, g3, g4, g5⟩
  · exact absurd rfl hz
  have hfC : Fr C w w' := hf.mono fun j _ hj => hS j hj
  refine ⟨hb, fun j => S1 j ∨ j = hb, fun j => j = q ∨ j = u ∨ j = m ∨ (B j ∧ j < w'.heap.size), rfl, ⟨⟨S1, q, u, m, _, s.small, hd', fun _ h => h, fun _ h => h⟩, ?_, ?_, ?_, hfC.fresh d.below d.ge⟩, ⟨hfC, ?_, ?_⟩, g1⟩
  · rintro j hj (hS1j | rfl)
    · rcases hj with rfl | rfl | rfl | hj
      · exact s.sh.2.1 hS1j
      · exact s.sh.2.2.1 hS1j
      · exact s.sh.2.2.2.1 hS1j
      · exact s.sh.2.2.2.2 j hj.1 hS1j
    · rcases hj with e | e | e | hj
      · exact s.hne.1 e
      · exact s.hne.2.1 e
      · exact s.hne.2.2.1 e
      · exact s.hne.2.2.2 hj.1
  · rintro j ((hj | rfl) | (rfl | rfl | rfl | hj))
    · exact hd'.lt hj
    · exact s.hlt
    · exact s.st.2
    · exact s.un.ult
    · exact s.un.mlt
    · exact hj.2
  · rintro j ((hj | rfl) | (rfl | rfl | rfl | hj))
    · rcases hnew j hj with h1 | h1
      · exact d.ge j (hS j h1)
      · omega
    · omega
    · omega
    · omega
    · omega
    · have := g5 j hj.1; omega
  · rintro j (hj | rfl)
    · exact (hnew j hj).imp (hS j) id
    · exact .inr g1
  · rintro j (rfl | rfl | rfl | hj)
    · exact .inr g2
    · exact .inr g3
    · exact .inr g4
    · exact .inr (g5 j hj.1)
theorem Drs.read (d : Drs w0 w C R p h D U next br) (e : Int) {a : Int} (ha : I64 a) :
    Calls Tryz.prog 69 #[.pointer (some ⟨h, 0, none⟩), .int .i64 e, .int .i64 a] w (UReadPost w (sread D br U e a)) := by
  obtain ⟨S, q, u, m, B, s, hd, _⟩ := d.is
  exact shread_any hd s e ha
theorem Drs.cell (d : Drs w0 w C R p h D U next br) : w.cell? ⟨h, 2, none⟩ = some (.int .i64 (next : Int)) ∧ w.cell? ⟨h, 3, none⟩ = some (.bool br) := by
  obtain ⟨S, q, u, m, B, s, _⟩ := d.is
  obtain ⟨_, _, x2, x3, _⟩ := s.x
  exact ⟨x2, x3⟩
end
end Go.Proofs.YtlckadlkgjfjcaaGreatDoor

namespace Go.Proofs.YtlckadlkgjfjcaaGreatDoor
open Go.RowKit
end Go.Proofs.YtlckadlkgjfjcaaGreatDoor
