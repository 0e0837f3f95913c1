/- A shelf's disk, as mathematics: what Do and Compact come to, and a cut within. · A calm shelf's disk, as mathematics: what Compact leaves; how many cells a unit has. · Package shelf: Compact, by the program. · A driven shelf: what its calls do, beside what a law has. · A driven shelf: its disk cut and started, the shelf opened anew; what is read. · Law 10's fixed fact. -/
import Derived.Test.YteknibaappcgmaaGreatDoorSdP
import Derived.Test.YteknibaappcgmaaGreatDoorSeP
import Derived.Test.YteknibaappcgmaaGreatDoorRpP
import Derived.Lib.SlBytesConst
namespace Go.Proofs.YteknibaappcgmaaGreatDoor
open Go.RowKit

/-! ### Room -/
theorem dwrite_room (d : DS) (n : Nm) (b : List Nat) : (dwrite d n b).1.room = d.room := by
  unfold dwrite
  split
  · exact dwork_room d
  · split
    · exact dwork_room d
    · split
      · exact dwork_room d
      · split
        · exact dwork_room d
        · exact dwork_room d
theorem drename_room (d : DS) (a b : Nm) : (drename d a b).1.room = d.room := by
  unfold drename
  split
  · exact dwork_room d
  · split
    · exact dwork_room d
    · split
      · exact dwork_room d
      · exact dwork_room d
theorem dremove_room (d : DS) (a : Nm) : (dremove d a).1.room = d.room := by
  unfold dremove
  split
  · exact dwork_room d
  · split
    · exact dwork_room d
    · split
      · exact dwork_room d
      · exact dwork_room d
theorem dsync_room (d : DS) : (dsync d).1.room = d.room := by
  unfold dsync
  split
  · exact dwork_room d
  · exact dwork_room d
theorem sdelete_room (d : DS) (n : Nm) : (sdelete d n).1.room = d.room := by
  unfold sdelete
  split
  · rfl
  · split
    · exact dremove_room d n
    · exact (dsync_room _).trans (dremove_room d n)
theorem sput_room (d : DS) (n : Nm) (b : List Nat) : (sput d n b).1.room = d.room := by
  unfold sput
  split
  · rfl
  · split
    · exact dwrite_room _ _ _
    · split
      · exact (dsync_room _).trans (dwrite_room _ _ _)
      · split
        · exact (drename_room _ _ _).trans ((dsync_room _).trans (dwrite_room _ _ _))
        · exact (dsync_room _).trans ((drename_room _ _ _).trans ((dsync_room _).trans (dwrite_room _ _ _)))
theorem swp_room : ∀ (ns : List Nm) (d : DS) (sm : Bool), (swp ns d sm).1.room = d.room
  | [], d, sm => by
    unfold swp
    split
    · exact dsync_room d
    · rfl
  | n :: r, d, sm => by
    unfold swp
    split
    · split
      · exact (swp_room r _ _).trans (dremove_room d n)
      · exact dremove_room d n
    · exact swp_room r d sm
theorem sopen_room (d : DS) : (sopen d).1.room = d.room := by
  unfold sopen
  split
  · rfl
  · exact swp_room _ _ _
theorem sdelBut_room : ∀ (ns : List Nm) (d : DS) (b : Nm), (sdelBut d b ns).1.room = d.room
  | [], d, b => rfl
  | n :: r, d, b => by
    unfold sdelBut
    split
    · exact sdelBut_room r d b
    · split
      · exact sdelete_room d n
      · exact (sdelBut_room r _ b).trans (sdelete_room d n)

/-! ### Where there is no power -/
theorem dsync_code (d : DS) : (dsync d).2 = 0 ∨ ((dsync d).2 = 14 ∧ (dsync d).1.down = true) := by
  by_cases hd : d.dead
  · exact .inr ((opOk_sync d).dead hd)
  · left
    unfold dsync
    rw [dwork_alive hd, if_neg (fun h => h rfl)]
theorem op_down {d : DS} {r : DS × Nat} (ho : OpOk d r) (h : r.2 = 14) : r.1.down = true := by
  by_cases hd : d.dead
  · exact (ho.dead hd).2
  · exact absurd h (ho.alive hd).1
theorem sput_down {d : DS} {n : Nm} {b : List Nat} (h : (sput d n b).2 = 14) : (sput d n b).1.down = true := by
  unfold sput at h ⊢
  split
  · rename_i h1
    rw [if_pos h1] at h
    cases h
  · rename_i h1
    rw [if_neg h1] at h
    split
    · rename_i h2
      rw [if_pos h2] at h
      exact op_down (opOk_write _ _ _) h
    · rename_i h2
      rw [if_neg h2] at h
      split
      · rename_i h3
        rw [if_pos h3] at h
        exact op_down (opOk_sync _) h
      · rename_i h3
        rw [if_neg h3] at h
        split
        · rename_i h4
          rw [if_pos h4] at h
          exact op_down (opOk_rename _ _ _) h
        · rename_i h4
          rw [if_neg h4] at h
          exact op_down (opOk_sync _) h
theorem sdelete_down {d : DS} {n : Nm} (h : (sdelete d n).2 = 14) : (sdelete d n).1.down = true := by
  unfold sdelete at h ⊢
  split
  · rename_i h1
    rw [if_pos h1] at h
    cases h
  · rename_i h1
    rw [if_neg h1] at h
    split
    · rename_i h2
      rw [if_pos h2] at h
      exact op_down (opOk_remove _ _) h
    · rename_i h2
      rw [if_neg h2] at h
      exact op_down (opOk_sync _) h

/-! ### A put that fits -/
theorem dwrite_fits {d : DS} (h : Fine d) {n : Nm} (hn : named n = true) {b : List Nat} (hb : b.length ≤ 65536) (hc : d.sure.length ≤ 500) (ht : tot d.sure + b.length ≤ d.room) : (dwrite d n b).2 = 0 ∨ (dwrite d n b).2 = 14 := by
  by_cases hd : d.dead
  · exact .inr ((opOk_write d n b).dead hd).1
  · left
    have h1 := fput_length_le d.sure n b
    have h2 := tot_put h.apart n b
    unfold dwrite
    rw [dwork_alive hd, if_neg (fun h => h rfl), if_neg (by rw [hn]; decide), if_neg (by omega), h.shown, if_neg (by omega)]
theorem sput_fits {d : DS} (h : Fine d) {n : Nm} (hn : snamed n = true) {b : List Nat} (hb : b.length ≤ 65536) (hc : d.sure.length ≤ 500) (ht : tot d.sure + b.length ≤ d.room) : (sput d n b).2 = 0 ∨ (sput d n b).2 = 14 := by
  have hw := dwrite_fits h (til_named hn) hb hc ht
  obtain ⟨e1, e2⟩ := one_of (dwrite_keeps d (til :: n) b) (opOk_write d (til :: n) b) h.up h.chs
  unfold sput
  rw [if_neg (by rw [hn]; decide)]
  rcases hw with hw | hw
  rotate_left
  · rw [if_pos (by omega)]; exact .inr hw
  rw [if_neg (by omega)]
  rcases e2 with ⟨z, _⟩ | ⟨z, _⟩ | ⟨z, y, u⟩
  · omega
  · omega
  obtain ⟨d1, hd1⟩ : ∃ d1, d1 = (dwrite d (til :: n) b).1 := ⟨_, rfl⟩
  rw [← hd1] at e1 y u ⊢
  have hcp : capply d.sure ⟨0, til :: n, [], b⟩ = fput d.sure (til :: n) b := rfl
  rcases sync_one u y with ⟨a1, a2, a3⟩ | ⟨a1, a2, a3, a4⟩
  · rw [if_pos (by omega)]; exact .inr a1
  rw [if_neg (by omega)]
  rw [e1, hcp] at a2
  obtain ⟨d2, hd2⟩ : ∃ d2, d2 = (dsync d1).1 := ⟨_, rfl⟩
  rw [← hd2] at a2 a3 a4 ⊢
  have hsh : d2.shown = fput d.sure (til :: n) b := by unfold DS.shown; rw [a3, a2]; rfl
  by_cases hdd : d2.dead
  · have k := ((opOk_rename d2 (til :: n) n).dead hdd).1
    rw [if_pos (by omega)]; exact .inr k
  · have k := rename_zero hdd (til_named hn) (snamed_named hn) (by rw [hsh]; exact fhas_put_same _ _ _)
    rw [if_neg (by omega)]
    rcases dsync_code (drename d2 (til :: n) n).1 with k | k
    · exact .inl k
    · exact .inr k.1

/-! ### Calm -/
def CalmR (r : DS × Nat) : Prop := r.2 ≠ 14 ∧ r.1.down = false ∧ r.1.fuse = -1
theorem op_calm {d : DS} {r : DS × Nat} (ho : OpOk d r) (h1 : d.down = false) (h2 : d.fuse = -1) : CalmR r := by
  obtain ⟨q1, q2, q3⟩ := ho.alive (by
    rintro (h | h)
    · rw [h1] at h; cases h
    · omega)
  exact ⟨q1, q2.trans h1, by rw [q3, if_pos h2]⟩
theorem sput_calm {d : DS} (h1 : d.down = false) (h2 : d.fuse = -1) (n : Nm) (b : List Nat) : CalmR (sput d n b) := by
  unfold sput
  split
  · exact ⟨by simp, h1, h2⟩
  · have k1 := op_calm (opOk_write d (til :: n) b) h1 h2
    split
    · exact k1
    · have k2 := op_calm (opOk_sync _) k1.2.1 k1.2.2
      split
      · exact k2
      · have k3 := op_calm (opOk_rename _ (til :: n) n) k2.2.1 k2.2.2
        split
        · exact k3
        · exact op_calm (opOk_sync _) k3.2.1 k3.2.2
theorem sdelete_calm {d : DS} (h1 : d.down = false) (h2 : d.fuse = -1) (n : Nm) : CalmR (sdelete d n) := by
  unfold sdelete
  split
  · exact ⟨by simp, h1, h2⟩
  · have k1 := op_calm (opOk_remove d n) h1 h2
    split
    · exact k1
    · exact op_calm (opOk_sync _) k1.2.1 k1.2.2

/-! ### A disk whose files say a unit and a number -/
def SDisk (D : DS) (U : US) (next N : Nat) : Prop := Fine D ∧ D.sure.length ≤ N ∧ ∃ b U0 l, SInv D.sure b U0 l U next
theorem SDisk.ropen {d D : DS} {U : US} {next N : Nat} (ho : sopen d = (D, 0)) (h : SDisk D U next N) : ROpen d D U next 0 := by
  obtain ⟨hf, _, b, U0, l, h⟩ := h
  exact h.ropen ho hf
theorem SDisk.le {D : DS} {U : US} {next N : Nat} (h : SDisk D U next N) : next ≤ 100000000 := by obtain ⟨_, _, b, U0, l, h⟩ := h; exact h.le
theorem SDisk.more {D : DS} {U : US} {next N N' : Nat} (h : SDisk D U next N) (hN : N ≤ N') : SDisk D U next N' := ⟨h.1, Nat.le_trans h.2.1 hN, h.2.2⟩
theorem SDisk.sz {D : DS} {U : US} {next N : Nat} (h : SDisk D U next N) : D.sz ≤ N := by
  unfold DS.sz
  rw [h.1.chs]
  exact h.2.1
theorem sdisk_new (room : Nat) : SDisk (dnew room) unew 0 0 := ⟨⟨rfl, rfl, fun f hf => (by cases hf), List.Pairwise.nil⟩, Nat.le_refl _, 0, unew, [], sinv_new⟩
theorem SDisk.sopen {D : DS} {U : US} {next N : Nat} (h : SDisk D U next N) (hfu : D.fuse = -1) : ∃ D', Go.Proofs.YteknibaappcgmaaGreatDoor.sopen D = (D', 0) ∧ SDisk D' U next N ∧ D'.fuse = -1 ∧ D'.room = D.room ∧ D'.sure = D.sure := by
  obtain ⟨hf, hl, hs⟩ := h
  obtain ⟨D', e1, e2, e3, e4, e5⟩ := reopen hf.up hfu hf.chs (fun f hm => snamed_named (hf.all f hm)) hf.apart
  rw [keep_all hf.all] at e5
  have hr := sopen_room D
  rw [e1] at hr
  exact ⟨D', e1, ⟨⟨e2, e4, by rw [e5]; exact hf.all, by rw [e5]; exact hf.apart⟩, by rw [e5]; exact hl, by rw [e5]; exact hs⟩, e3, hr, e5⟩
/-- Cut, started and opened, it says one of these. -/
def SReop (d : DS) (N : Nat) (P : US → Nat → Prop) : Prop := ∀ ks, ∃ D U n, sopen (dstart (dcut d ks)) = (D, 0) ∧ D.fuse = -1 ∧ D.room = d.room ∧ SDisk D U n N ∧ P U n
theorem dstart_cut_room (d : DS) (ks : List Bool) : (dstart (dcut d ks)).room = d.room := rfl
theorem Reopens.says {d : DS} {A B : Fm (List Nat)} {N : Nat} {P : US → Nat → Prop} (h : Reopens d A B) (hA : A.length ≤ N ∧ ∃ b U0 l U n, SInv A b U0 l U n ∧ P U n) (hB : B.length ≤ N ∧ ∃ b U0 l U n, SInv B b U0 l U n ∧ P U n) : SReop d N P := fun ks => by
  obtain ⟨D, e1, e2, e3, e4⟩ := h ks
  have hr := sopen_room (dstart (dcut d ks))
  rw [e1] at hr
  have hr2 : D.room = d.room := hr.trans (dstart_cut_room d ks)
  rcases e4 with e4 | e4
  · obtain ⟨hN, b, U0, l, U, n, k, p⟩ := hA
    exact ⟨D, U, n, e1, e3, hr2, ⟨e2, by rw [e4]; exact hN, b, U0, l, by rw [e4]; exact k⟩, p⟩
  · obtain ⟨hN, b, U0, l, U, n, k, p⟩ := hB
    exact ⟨D, U, n, e1, e3, hr2, ⟨e2, by rw [e4]; exact hN, b, U0, l, by rw [e4]; exact k⟩, p⟩
/-- A cut where nothing is pending. -/
theorem SDisk.cut {D : DS} {U : US} {next N : Nat} (h : SDisk D U next N) : SReop D N fun V n => V = U ∧ n = next := fun ks => by
  have e : dstart (dcut D ks) = { D with chs := [], down := false, fuse := -1 } := cut_start h.1.chs ks
  have hd : SDisk { D with chs := [], down := false, fuse := -1 } U next N := ⟨⟨rfl, rfl, h.1.all, h.1.apart⟩, h.2.1, h.2.2⟩
  obtain ⟨D', k1, k2, k3, k4, _⟩ := hd.sopen rfl
  rw [e]
  exact ⟨D', U, next, k1, k3, k4, k2, rfl, rfl⟩

/-! ### Do -/
theorem rapply_ne14 (U : US) (k e a : Int) (d : List Nat) : (rapply U k e a d).2.2 ≠ 14 := by
  have hcur : ucur U e ≠ 14 := by unfold ucur; split; decide; split <;> decide
  unfold rapply
  split
  · rename_i h
    unfold rchk
    split
    · simp
    · split
      · simp
      · split <;> simp
  · split
    · unfold useal
      split
      · simp
      · split <;> simp
    · split
      · unfold uwrite
        repeat' split
        all_goals first | exact hcur | simp
      · split
        · unfold ufill
          repeat' split
          all_goals first | exact hcur | simp
        · split
          · unfold utrim
            repeat' split
            all_goals first | exact hcur | simp
          · unfold ucut
            repeat' split
            all_goals first | exact hcur | simp
section
variable {D : DS} {U : US} {next N : Nat}
theorem sdo_cases (k e a : Int) {d : List Nat} (h : SDisk D U next N) (h8 : ∀ y ∈ d, y < 256) :
    ((sdoAct D U next false k e a d).2.2.2.2.2 = 0 ∧ (rapply U k e a d).2.2 = 0 ∧ (sdoAct D U next false k e a d).1 = (rapply U k e a d).1 ∧ (sdoAct D U next false k e a d).2.2.1 = (rapply U k e a d).2.1 ∧ (sdoAct D U next false k e a d).2.2.2.1 = next + 1 ∧ (sdoAct D U next false k e a d).2.2.2.2.1 = false ∧
      SDisk (sdoAct D U next false k e a d).2.1 (rapply U k e a d).2.1 (next + 1) (N + 1)) ∨
    ((sdoAct D U next false k e a d).2.2.2.2.2 ≠ 0 ∧ (sdoAct D U next false k e a d).2.2.2.2.2 ≠ 14 ∧ (sdoAct D U next false k e a d).1 = 0 ∧ (sdoAct D U next false k e a d).2.2.1 = U ∧ (sdoAct D U next false k e a d).2.2.2.1 = next ∧ (sdoAct D U next false k e a d).2.2.2.2.1 = false ∧
      SDisk (sdoAct D U next false k e a d).2.1 U next N) ∨
    ((sdoAct D U next false k e a d).2.2.2.2.2 = 14 ∧ (rapply U k e a d).2.2 = 0 ∧ (sdoAct D U next false k e a d).1 = 0 ∧ (sdoAct D U next false k e a d).2.2.1 = U ∧ (sdoAct D U next false k e a d).2.2.2.1 = next ∧ (sdoAct D U next false k e a d).2.2.2.2.1 = true ∧ (sdoAct D U next false k e a d).2.1.down = true ∧ next ≤ 99999999 ∧
      SReop (sdoAct D U next false k e a d).2.1 (N + 1) fun V n => (V = U ∧ n = next) ∨ (V = (rapply U k e a d).2.1 ∧ n = next + 1)) := by
  obtain ⟨hf, hl, b, U0, l, hi⟩ := h
  by_cases hz : (rapply U k e a d).2.2 = 0
  rotate_left
  · rw [sdo_bad rfl hz]
    exact .inr (.inl ⟨hz, rapply_ne14 _ _ _ _ _, rfl, rfl, rfl, rfl, hf, hl, b, U0, l, hi⟩)
  by_cases hn : 99999999 < next
  · rw [sdo_full hz hn]
    exact .inr (.inl ⟨by simp, by simp, rfl, rfl, rfl, rfl, hf, hl, b, U0, l, hi⟩)
  have hn' : next ≤ 99999999 := by omega
  obtain ⟨z1, z2, z3, z4, z5, z6, z7⟩ := rchk_zero (rapply_chk hz)
  have ek : ((k.toNat : Nat) : Int) = k := by omega
  have ee : ((e.toNat : Nat) : Int) = e := by omega
  have ea : ((a.toNat : Nat) : Int) = a := by omega
  have hfr : (⟨k.toNat, e.toNat, a.toNat, d⟩ : SA).Right := ⟨by rw [ek, ee, ea]; exact rapply_chk hz, h8⟩
  have hact := hi.act hn' ⟨k.toNat, e.toNat, a.toNat, d⟩ hfr (by simp only; rw [ek, ee, ea]; exact hz)
  simp only at hact
  rw [ek, ee, ea] at hact
  have hfl : (fput D.sure (sname 114 next) (SA.text ⟨k.toNat, e.toNat, a.toNat, d⟩)).length ≤ N + 1 := Nat.le_trans (fput_length_le _ _ _) (by omega)
  obtain ⟨P, hP⟩ : ∃ P, sput D (sname 114 next) (fr (rtext k.toNat e.toNat a.toNat d)) = P := ⟨_, rfl⟩
  have hnx := put_next hf (sname 114 next) (fr (rtext k.toNat e.toNat a.toNat d))
  have hdn := sput_down (d := D) (n := sname 114 next) (b := fr (rtext k.toNat e.toNat a.toNat d))
  rw [hP] at hnx hdn
  rcases hnx with ⟨p1, p2, p3⟩ | ⟨p1, p2, p3, p4⟩ | ⟨p1, p2⟩
  · rw [sdo_fine rfl hz hn hP p1]
    exact .inl ⟨rfl, hz, rfl, rfl, rfl, rfl, p2, by rw [p3]; exact hfl, b, U0, _, by rw [p3]; exact hact⟩
  · rw [sdo_fail hz hn hP p1]
    exact .inr (.inl ⟨p1, p2, rfl, rfl, rfl, by simpa using p2, p3, by rw [p4]; exact hl, b, U0, l, by rw [p4]; exact hi⟩)
  · rw [sdo_fail hz hn hP (by omega)]
    refine .inr (.inr ⟨p1, hz, rfl, rfl, rfl, by simpa using p1, hdn p1, hn', ?_⟩)
    exact p2.says ⟨by omega, b, U0, l, U, next, hi, .inl ⟨rfl, rfl⟩⟩ ⟨hfl, b, U0, _, _, _, hact, .inr ⟨rfl, rfl⟩⟩
theorem fr_act_len {k e a : Int} {d : List Nat} (h : rchk k e a d.length = 0) : (fr (rtext k.toNat e.toNat a.toNat d)).length ≤ 130 := by
  obtain ⟨z1, z2, z3, z4, z5, z6, z7, _⟩ := rchk_zero h
  have h1 := rtext_le (k := k.toNat) (e := e.toNat) (a := a.toNat) (by unfold U64; omega) (by unfold U64; omega) (by unfold U64; omega) z7
  have h2 := enc_len10 (n := (rtext k.toNat e.toNat a.toNat d).length) (by unfold U64; omega)
  rw [fr_length]
  unfold fsize
  omega
/-- Where there is room, Do answers as the unit does, or without power. -/
theorem sdo_room {k e a : Int} {d : List Nat} (h : SDisk D U next N) (hn : next ≤ 99999999) (hN : N ≤ 200) (hs : Small 65536 D.sure) (hr : N * 65536 + 130 ≤ D.room) :
    (sdoAct D U next false k e a d).2.2.2.2.2 = (rapply U k e a d).2.2 ∨ ((sdoAct D U next false k e a d).2.2.2.2.2 = 14 ∧ (rapply U k e a d).2.2 = 0) := by
  by_cases hz : (rapply U k e a d).2.2 = 0
  rotate_left
  · rw [sdo_bad rfl hz]
    exact .inl rfl
  have hnn : ¬ 99999999 < next := by omega
  have h1 := fr_act_len (rapply_chk hz)
  have h2 := tot_le (l := D.sure) (m := 65536) fun f hf => (hs f hf).1
  have h3 := h.2.1
  have h4 : D.sure.length * 65536 ≤ N * 65536 := Nat.mul_le_mul_right _ h3
  have hp := sput_fits h.1 (snamed_sname (.inr rfl) next) (b := fr (rtext k.toNat e.toNat a.toNat d)) (by omega) (by omega) (by omega)
  obtain ⟨P, hP⟩ : ∃ P, sput D (sname 114 next) (fr (rtext k.toNat e.toNat a.toNat d)) = P := ⟨_, rfl⟩
  rw [hP] at hp
  rcases hp with hp | hp
  · rw [sdo_fine rfl hz hnn hP hp, hz]
    exact .inl rfl
  · rw [sdo_fail hz hnn hP (by omega)]
    exact .inr ⟨hp, hz⟩
theorem sdo_roomD (D : DS) (br : Bool) (k e a : Int) (d : List Nat) : (sdoAct D U next br k e a d).2.1.room = D.room := by
  unfold sdoAct
  split
  · rfl
  · split
    · rfl
    · split
      · rfl
      · split
        · exact sput_room _ _ _
        · exact sput_room _ _ _
theorem sdo_calmD {k e a : Int} {d : List Nat} (h1 : D.down = false) (h2 : D.fuse = -1) : (sdoAct D U next false k e a d).2.2.2.2.2 ≠ 14 ∧ (sdoAct D U next false k e a d).2.1.down = false ∧ (sdoAct D U next false k e a d).2.1.fuse = -1 := by
  have hp := sput_calm h1 h2 (sname 114 next) (fr (rtext k.toNat e.toNat a.toNat d))
  unfold sdoAct
  rw [if_neg (fun h : false = true => Bool.noConfusion h)]
  split
  · exact ⟨rapply_ne14 _ _ _ _ _, h1, h2⟩
  · split
    · exact ⟨by simp, h1, h2⟩
    · split
      · exact hp
      · exact ⟨by simp, hp.2⟩

/-! ### Compact -/
/-- What Compact comes to: the disk, is it broken, an error's number. -/
def scompact (D : DS) (U : US) (next : Nat) (br : Bool) : DS × Bool × Nat :=
  if br = true then (D, true, 14) else if 99999999 < next then (D, false, 5) else if 65536 < (utext U).length then (D, false, 3)
  else if (sput D (sname 98 next) (fr (utext U))).2 ≠ 0 then ((sput D (sname 98 next) (fr (utext U))).1, decide ((sput D (sname 98 next) (fr (utext U))).2 = 14), (sput D (sname 98 next) (fr (utext U))).2)
  else ((sclean (sput D (sname 98 next) (fr (utext U))).1 (sname 98 next)).1, decide ((sclean (sput D (sname 98 next) (fr (utext U))).1 (sname 98 next)).2 = 14), (sclean (sput D (sname 98 next) (fr (utext U))).1 (sname 98 next)).2)
theorem delBut_says : ∀ (ns : List Nm) {D : DS}, Fine D → SBase D.sure U next → D.sure.length ≤ N →
    ((sdelBut D (sname 98 next) ns).2 ≠ 14 ∧ Fine (sdelBut D (sname 98 next) ns).1 ∧ SBase (sdelBut D (sname 98 next) ns).1.sure U next ∧ (sdelBut D (sname 98 next) ns).1.sure.length ≤ N) ∨
    ((sdelBut D (sname 98 next) ns).2 = 14 ∧ (sdelBut D (sname 98 next) ns).1.down = true ∧ SReop (sdelBut D (sname 98 next) ns).1 N fun V n => V = U ∧ n = next)
  | [], D, h1, h2, h3 => .inl ⟨by simp [sdelBut], h1, h2, h3⟩
  | n :: r, D, h1, h2, h3 => by
    by_cases hs : n = sname 98 next ∨ isNum n = false
    · rw [sdel_skip hs]
      exact delBut_says r h1 h2 h3
    have hb : n ≠ sname 98 next := fun e => hs (.inl e)
    have hi : isNum n = true := by
      cases h : isNum n
      · exact absurd (.inr h) hs
      · rfl
    have hdl := Nat.le_trans (fdel_length D.sure n) h3
    have hdn := sdelete_down (d := D) (n := n)
    rcases delete_next h1 n with ⟨p1, p2, p3⟩ | ⟨p1, p2, p3, p4⟩ | ⟨p1, p2⟩
    · rw [sdel_on hb hi p1]
      exact delBut_says r p2 (by rw [p3]; exact h2.del hb) (by rw [p3]; exact hdl)
    · rw [sdel_stop hb hi p1]
      exact .inl ⟨p2, p3, by rw [p4]; exact h2, by rw [p4]; exact h3⟩
    · rw [sdel_stop hb hi (by omega)]
      exact .inr ⟨p1, hdn p1, p2.says ⟨h3, next, U, [], U, next, h2.1, rfl, rfl⟩ ⟨hdl, next, U, [], U, next, (h2.del hb).1, rfl, rfl⟩⟩
theorem scompact_cases (h : SDisk D U next N) (hu : UOk U) :
    ((scompact D U next false).2.2 ≠ 14 ∧ (scompact D U next false).2.1 = false ∧ SDisk (scompact D U next false).1 U next (N + 1)) ∨
    ((scompact D U next false).2.2 = 14 ∧ (scompact D U next false).2.1 = true ∧ (scompact D U next false).1.down = true ∧ SReop (scompact D U next false).1 (N + 1) fun V n => V = U ∧ n = next) := by
  obtain ⟨hf, hl, b, U0, l, hi⟩ := h
  unfold scompact
  rw [if_neg (fun h : false = true => Bool.noConfusion h)]
  split
  · exact .inl ⟨by simp, rfl, hf, Nat.le_succ_of_le hl, b, U0, l, hi⟩
  · rename_i hn
    split
    · exact .inl ⟨by simp, rfl, hf, Nat.le_succ_of_le hl, b, U0, l, hi⟩
    · rename_i ht
      have hfl : (fput D.sure (sname 98 next) (fr (utext U))).length ≤ N + 1 := Nat.le_trans (fput_length_le _ _ _) (by omega)
      have hsb := hi.based (by omega) hu (by omega)
      obtain ⟨P, hP⟩ : ∃ P, P = sput D (sname 98 next) (fr (utext U)) := ⟨_, rfl⟩
      have hnx := put_next hf (sname 98 next) (fr (utext U))
      have hdn := sput_down (d := D) (n := sname 98 next) (b := fr (utext U))
      rw [← hP] at hnx hdn ⊢
      rcases hnx with ⟨p1, p2, p3⟩ | ⟨p1, p2, p3, p4⟩ | ⟨p1, p2⟩
      · rw [if_neg (by omega)]
        have hcl : sclean P.1 (sname 98 next) = sdelBut P.1 (sname 98 next) (slist P.1 []).1 := by
          unfold sclean
          rw [if_neg (by rw [p2.list.1]; exact fun h => h rfl)]
        rw [hcl]
        rcases delBut_says (U := U) (next := next) (N := N + 1) (slist P.1 []).1 p2 (by rw [p3]; exact hsb) (by rw [p3]; exact hfl) with ⟨q1, q2, q3, q4⟩ | ⟨q1, q2, q3⟩
        · exact .inl ⟨q1, by simpa using q1, q2, q4, _, _, _, q3.1⟩
        · exact .inr ⟨q1, by simpa using q1, q2, q3⟩
      · rw [if_pos p1]
        exact .inl ⟨p2, by simpa using p2, p3, by rw [p4]; omega, b, U0, l, by rw [p4]; exact hi⟩
      · rw [if_pos (by omega)]
        exact .inr ⟨p1, by simpa using p1, hdn p1, p2.says ⟨by omega, b, U0, l, U, next, hi, rfl, rfl⟩ ⟨hfl, _, _, _, _, _, hsb.1, rfl, rfl⟩⟩
theorem scompact_room (D : DS) (U : US) (next : Nat) (br : Bool) : (scompact D U next br).1.room = D.room := by
  unfold scompact
  split
  · rfl
  · split
    · rfl
    · split
      · rfl
      · split
        · exact sput_room _ _ _
        · unfold sclean
          split
          · exact sput_room _ _ _
          · exact (sdelBut_room _ _ _).trans (sput_room _ _ _)
end
end Go.Proofs.YteknibaappcgmaaGreatDoor

namespace Go.Proofs.YteknibaappcgmaaGreatDoor
open Go.RowKit

theorem sdelete_zero {D : DS} (h : Fine D) (hfu : D.fuse = -1) {n : Nm} (hn : snamed n = true) (hh : fhas D.sure n = true) : (sdelete D n).2 = 0 := by
  obtain ⟨e1, e2⟩ := dremove_calm h.up hfu (snamed_named hn) (by rw [h.shown]; exact hh)
  unfold sdelete
  rw [if_neg (by rw [hn]; decide), e1, if_neg (fun h => h rfl)]
  have : (dsync (dadd D ⟨2, n, [], []⟩)).2 = 0 := by rw [dsync_calm (d := dadd D ⟨2, n, [], []⟩) h.up hfu]
  exact this
theorem mem_fdel_iff {F : Fm (List Nat)} {n : Nm} {f : Nm × List Nat} : f ∈ fdel F n ↔ f ∈ F ∧ f.1 ≠ n := by
  unfold fdel
  rw [List.mem_filter]
  simp
theorem delBut_calm {b : Nm} : ∀ (ns : List Nm) {D : DS}, Fine D → D.fuse = -1 → ns.Nodup → (∀ n ∈ ns, fhas D.sure n = true ∧ snamed n = true) →
    (sdelBut D b ns).2 = 0 ∧ Fine (sdelBut D b ns).1 ∧ (sdelBut D b ns).1.fuse = -1 ∧ ∀ f, f ∈ (sdelBut D b ns).1.sure ↔ f ∈ D.sure ∧ (f.1 = b ∨ isNum f.1 = false ∨ f.1 ∉ ns)
  | [], D, h1, h2, _, _ => ⟨rfl, h1, h2, fun f => ⟨fun h => ⟨h, .inr (.inr (by simp))⟩, fun h => h.1⟩⟩
  | n :: r, D, h1, h2, hnd, hn => by
    have hnd2 := List.nodup_cons.1 hnd
    by_cases hs : n = b ∨ isNum n = false
    · rw [sdel_skip hs]
      obtain ⟨k1, k2, k3, k4⟩ := delBut_calm r h1 h2 hnd2.2 fun x hx => hn x (by simp [hx])
      refine ⟨k1, k2, k3, fun f => (k4 f).trans ⟨?_, ?_⟩⟩
      · rintro ⟨m1, m2 | m2 | m2⟩
        · exact ⟨m1, .inl m2⟩
        · exact ⟨m1, .inr (.inl m2)⟩
        · by_cases e : f.1 = n
          · rcases hs with hs | hs
            · exact ⟨m1, .inl (e.trans hs)⟩
            · exact ⟨m1, .inr (.inl (by rw [e]; exact hs))⟩
          · exact ⟨m1, .inr (.inr (by rw [List.mem_cons]; rintro (h | h); exact e h; exact m2 h))⟩
      · rintro ⟨m1, m2 | m2 | m2⟩
        · exact ⟨m1, .inl m2⟩
        · exact ⟨m1, .inr (.inl m2)⟩
        · exact ⟨m1, .inr (.inr fun h => m2 (List.mem_cons_of_mem _ h))⟩
    · have hb : n ≠ b := fun e => hs (.inl e)
      have hi : isNum n = true := by
        cases h : isNum n
        · exact absurd (.inr h) hs
        · rfl
      obtain ⟨q1, q2⟩ := hn n (by simp)
      have hz := sdelete_zero h1 h2 q2 q1
      rw [sdel_on hb hi hz]
      have hc := sdelete_calm h1.up h2 n
      rcases delete_next h1 n with ⟨p1, p2, p3⟩ | ⟨p1, _⟩ | ⟨p1, _⟩
      · obtain ⟨k1, k2, k3, k4⟩ := delBut_calm r p2 hc.2.2 hnd2.2 fun x hx => by
          obtain ⟨x1, x2⟩ := hn x (by simp [hx])
          refine ⟨?_, x2⟩
          rw [p3, fhas_get, fget_del_other (fun e => hnd2.1 (by rw [e]; exact hx)), ← fhas_get]
          exact x1
        refine ⟨k1, k2, k3, fun f => (k4 f).trans ?_⟩
        rw [p3, mem_fdel_iff]
        constructor
        · rintro ⟨⟨m1, m0⟩, m2 | m2 | m2⟩
          · exact ⟨m1, .inl m2⟩
          · exact ⟨m1, .inr (.inl m2)⟩
          · exact ⟨m1, .inr (.inr (by rw [List.mem_cons]; rintro (h | h); exact m0 h; exact m2 h))⟩
        · rintro ⟨m1, m2 | m2 | m2⟩
          · exact ⟨⟨m1, by rw [m2]; exact fun e => hb e.symm⟩, .inl m2⟩
          · exact ⟨⟨m1, fun e => by rw [e, hi] at m2; cases m2⟩, .inr (.inl m2)⟩
          · rw [List.mem_cons] at m2
            exact ⟨⟨m1, fun e => m2 (.inl e)⟩, .inr (.inr fun h => m2 (.inr h))⟩
      · exact absurd hz p1
      · omega
theorem one_left {F : Fm (List Nat)} {n : Nm} {t : List Nat} (ha : Apart F) (hn : ∀ f ∈ F, f.1 = n) (hg : (n, t) ∈ F) : F = [(n, t)] := by
  match F with
  | [] => cases hg
  | [x] =>
    obtain rfl : (n, t) = x := by simpa using hg
    rfl
  | x :: y :: r =>
    have h1 := (List.pairwise_cons.1 ha).1 y (by simp)
    exact absurd ((hn x (by simp)).trans (hn y (by simp)).symm) h1
section
variable {D : DS} {U : US} {next N : Nat}
/-- A base is all that is left. -/
theorem scompact_calm (h : SDisk D U next N) (hfu : D.fuse = -1) (hn : next ≤ 99999999) (hN : N ≤ 200) (hs : Small 65536 D.sure) (hr : D.room = 16777216) (hu : UOk U) (hl : (utext U).length ≤ 60000) :
    (scompact D U next false).2.2 = 0 ∧ (scompact D U next false).2.1 = false ∧ (scompact D U next false).1.sure = [(sname 98 next, fr (utext U))] ∧ (scompact D U next false).1.fuse = -1 ∧ (scompact D U next false).1.room = 16777216 ∧ SDisk (scompact D U next false).1 U next 1 := by
  have hroom := scompact_room D U next false
  rw [hr] at hroom
  obtain ⟨hf, hlen, b, U0, l, hi⟩ := h
  have h1 : (fr (utext U)).length ≤ 65536 := by
    have := enc_len10 (n := (utext U).length) (by unfold U64; omega)
    rw [fr_length]
    unfold fsize
    omega
  have h2 := tot_le (l := D.sure) (m := 65536) fun f hf => (hs f hf).1
  have h4 : D.sure.length * 65536 ≤ 200 * 65536 := Nat.mul_le_mul_right _ (by omega)
  have hp := sput_fits hf (snamed_sname (.inl rfl) next) (b := fr (utext U)) h1 (by omega) (by omega)
  have hc := sput_calm hf.up hfu (sname 98 next) (fr (utext U))
  have hsb := hi.based hn hu (by omega)
  have hpc : (sput D (sname 98 next) (fr (utext U))).2 = 0 := hp.resolve_right hc.1
  have hsc : scompact D U next false = ((sclean (sput D (sname 98 next) (fr (utext U))).1 (sname 98 next)).1, decide ((sclean (sput D (sname 98 next) (fr (utext U))).1 (sname 98 next)).2 = 14), (sclean (sput D (sname 98 next) (fr (utext U))).1 (sname 98 next)).2) := by
    unfold scompact
    rw [if_neg (fun h : false = true => Bool.noConfusion h), if_neg (by omega), if_neg (by omega), if_neg (fun h => h hpc)]
  rw [hsc] at hroom ⊢
  obtain ⟨P, hP⟩ : ∃ P, P = sput D (sname 98 next) (fr (utext U)) := ⟨_, rfl⟩
  have hnx := put_next hf (sname 98 next) (fr (utext U))
  rw [← hP] at hnx hpc hc hroom ⊢
  rcases hnx with ⟨p1, p2, p3⟩ | ⟨p1, _⟩ | ⟨p1, _⟩
  rotate_left
  · exact absurd hpc p1
  · omega
  have hcl : sclean P.1 (sname 98 next) = sdelBut P.1 (sname 98 next) (slist P.1 []).1 := by
    unfold sclean
    rw [if_neg (by rw [p2.list.1]; exact fun h => h rfl)]
  rw [hcl] at hroom ⊢
  have hnd : (slist P.1 []).1.Nodup := by
    have e : dlist P.1 = (srt (P.1.sure.map (·.1)), 0) := by rw [dlist_up p2.up, p2.shown]
    have e2 : (slist P.1 []).1 = (srt (P.1.sure.map (·.1))).filter (listP []) := by
      unfold slist
      rw [e, if_neg (fun h : (0 : Nat) ≠ 0 => h rfl)]
    rw [e2]
    exact List.Pairwise.filter _ ((List.mergeSort_perm _ _).nodup_iff.2 (List.pairwise_map.2 p2.apart))
  have hin : ∀ n ∈ (slist P.1 []).1, fhas P.1.sure n = true ∧ snamed n = true := fun n hn => by
    have k : fhas P.1.sure n = true := by rw [← p2.list.2 n]; exact List.contains_iff_mem.2 hn
    refine ⟨k, ?_⟩
    obtain ⟨f, hf, rfl⟩ := List.mem_map.1 (fhas_iff.1 k)
    exact p2.all f hf
  obtain ⟨k1, k2, k3, k4⟩ := delBut_calm (b := sname 98 next) (slist P.1 []).1 p2 hc.2.2 hnd hin
  have hnum : ∀ f ∈ P.1.sure, isNum f.1 = true := by rw [p3]; exact hsb.1.num
  have hone : ∀ f ∈ (sdelBut P.1 (sname 98 next) (slist P.1 []).1).1.sure, f.1 = sname 98 next := fun f hf => by
    obtain ⟨m1, m2 | m2 | m2⟩ := (k4 f).1 hf
    · exact m2
    · rw [hnum f m1] at m2; cases m2
    · exact absurd (List.contains_iff_mem.1 (by rw [p2.list.2]; exact fhas_iff.2 (List.mem_map_of_mem m1))) m2
  have hmem : (sname 98 next, fr (utext U)) ∈ (sdelBut P.1 (sname 98 next) (slist P.1 []).1).1.sure := (k4 _).2 ⟨by rw [p3]; exact fget_some hsb.2.2.1, .inl rfl⟩
  have heq := one_left k2.apart hone hmem
  have hin1 : SInv [(sname 98 next, fr (utext U))] next U [] U next := by
    have hg : ∀ n t, fget [(n, t)] n = some (t : List Nat) := fun n t => by unfold fget; simp
    have hg2 : ∀ (n m : Nm) (t : List Nat), n ≠ m → fget [(n, t)] m = none := fun n m t h => by unfold fget; simp [h]
    refine ⟨by omega, rfl, .inr ⟨hn, hg _ _, hu, by omega, fun n hn1 hn2 => hg2 _ _ _ fun e => ?_⟩, fun i f hi => by simp at hi, fun n hn1 hn2 => hg2 _ _ _ sname_mark, rfl, fun f hf => ?_⟩
    · have := sname_inj hn hn2 e; omega
    · obtain rfl : f = (sname 98 next, fr (utext U)) := by simpa using hf
      exact isNum_sname (.inl rfl) hn
  exact ⟨k1, by simp [k1], heq, k3, hroom, k2, by rw [heq]; simp, next, U, [], by rw [heq]; exact hin1⟩
end
theorem iput_len {α : Type} (a : Int) (x : α) : ∀ l : Im α, (iput l a x).length ≤ l.length + 1 := by
  intro l
  unfold iput
  rw [iins_length]
  have : (idel l a).length ≤ l.length := List.length_filter_le _ _
  omega
theorem rapply_len (U : US) (k e a : Int) (d : List Nat) : (rapply U k e a d).2.1.cells.length ≤ U.cells.length + 1 := by
  unfold rapply
  split
  · exact Nat.le_succ _
  · split
    · unfold useal
      repeat' split
      all_goals exact Nat.le_succ _
    · split
      · unfold uwrite
        repeat' split
        all_goals first | exact Nat.le_succ _ | exact iput_len _ _ _
      · split
        · unfold ufill
          repeat' split
          all_goals first | exact Nat.le_succ _ | exact iput_len _ _ _
        · split
          · unfold utrim
            repeat' split
            all_goals first | exact Nat.le_succ _ | exact Nat.le_trans (List.length_filter_le _ _) (Nat.le_succ _)
          · unfold ucut
            repeat' split
            all_goals first | exact Nat.le_succ _ | exact Nat.le_trans (List.length_filter_le _ _) (Nat.le_succ _)
end Go.Proofs.YteknibaappcgmaaGreatDoor

namespace Go.Proofs.YteknibaappcgmaaGreatDoor
open Go.RowKit
section
variable {w w1 w2 : World} {S : Nat → Prop} {h p q u m : Nat} {B : Nat → Prop} {U U2 : US} {next next2 : Nat} {br br2 : Bool} {D D2 : DS}
theorem ShDone.on {S1 : Nat → Prop} {u1 m1 : Nat} {B1 : Nat → Prop} (f1 : Fr (fun j => S j ∨ j = h) w w1) (a1 : ∀ j, S j → S1 j) (b1 : ∀ j, S1 j → S j ∨ w.heap.size ≤ j) (c1 : u1 = u ∨ w.heap.size ≤ u1) (e1 : m1 = m ∨ w.heap.size ≤ m1) (g1 : ∀ j, B1 j → B j ∨ w.heap.size ≤ j) (h2 : ShDone w1 S1 h p q u1 m1 B1 D2 U2 next2 br2 w2) : ShDone w S h p q u m B D2 U2 next2 br2 w2 := by
  obtain ⟨S2, u2, m2, B2, s2, d2, f2, a2, b2, c2, e2, g2⟩ := h2
  have hs := f1.size
  refine ⟨S2, u2, m2, B2, s2, d2, f1.trans f2 (fun _ _ h => h) (fun j hj hS => ?_), fun j hj => a2 j (a1 j hj), fun j hj => ?_, ?_, ?_, fun j hj => ?_⟩
  · rcases hS with hS | hS
    · rcases b1 j hS with h | h
      · exact .inl h
      · omega
    · exact .inr hS
  · rcases b2 j hj with h | h
    · exact b1 j h
    · exact .inr (by omega)
  · rcases c2 with rfl | h
    · exact c1
    · exact .inr (by omega)
  · rcases e2 with rfl | h
    · exact e1
    · exact .inr (by omega)
  · rcases g2 j hj with h | h
    · exact g1 j h
    · exact .inr (by omega)
theorem sput_sz10 (d : DS) (n : Nm) (b : List Nat) : (sput d n b).1.sz ≤ d.sz + 4 := by
  have h1 := opSz_write d (til :: n) b
  have h2 := opSz_sync (dwrite d (til :: n) b).1
  have h3 := opSz_rename (dsync (dwrite d (til :: n) b).1).1 (til :: n) n
  have h4 := opSz_sync (drename (dsync (dwrite d (til :: n) b).1).1 (til :: n) n).1
  unfold sput
  split
  · simp only; omega
  · split
    · omega
    · split
      · omega
      · split <;> omega
theorem scompact_broke : scompact D U next true = (D, true, 14) := rfl
theorem scompact_full (hn : 99999999 < next) : scompact D U next false = (D, false, 5) := by
  unfold scompact
  rw [if_neg (fun h : false = true => Bool.noConfusion h), if_pos hn]
theorem scompact_long (hn : ¬ 99999999 < next) (hl : 65536 < (utext U).length) : scompact D U next false = (D, false, 3) := by
  unfold scompact
  rw [if_neg (fun h : false = true => Bool.noConfusion h), if_neg hn, if_pos hl]
theorem scompact_fail {P : DS × Nat} (hn : ¬ 99999999 < next) (hl : ¬ 65536 < (utext U).length) (hP : sput D (sname 98 next) (fr (utext U)) = P) (hc : P.2 ≠ 0) : scompact D U next false = (P.1, decide (P.2 = 14), P.2) := by
  unfold scompact
  rw [if_neg (fun h : false = true => Bool.noConfusion h), if_neg hn, if_neg hl, hP, if_pos hc]
theorem scompact_fine {P : DS × Nat} (hn : ¬ 99999999 < next) (hl : ¬ 65536 < (utext U).length) (hP : sput D (sname 98 next) (fr (utext U)) = P) (hc : P.2 = 0) : scompact D U next false = ((sclean P.1 (sname 98 next)).1, decide ((sclean P.1 (sname 98 next)).2 = 14), (sclean P.1 (sname 98 next)).2) := by
  unfold scompact
  rw [if_neg (fun h : false = true => Bool.noConfusion h), if_neg hn, if_neg hl, hP, if_neg (fun h => h hc)]
def ShCPost (w : World) (S : Nat → Prop) (h p q u m : Nat) (B : Nat → Prop) (U : US) (next : Nat) (x : DS × Bool × Nat) (r : Ending) (w' : World) : Prop :=
  r = .returned (errV x.2.2) ∧ ShDone w S h p q u m B x.1 U next x.2.1 w'
set_option maxHeartbeats 8000000 in
set_option maxRecDepth 100000 in
theorem compact_any (hd : Dk w S p D) (s : ShelfAt w S h p q u m B U next br) (hsz : D.sz ≤ 300000) (ht : ∀ W, Fr (fun j => S j ∨ j = h) w W → Tens W) (hnx : next ≤ 1000000000) :
    Calls Tryz.prog 21 #[.pointer (some ⟨h, 0, none⟩)] w (ShCPost w S h p q u m B U next (scompact D U next br)) := by
  have HS := Lib.hid s
  have HD := Lib.hid hd
  have HSZ := Lib.hid hsz
  have HT := Lib.hid ht
  have HNX := Lib.hid hnx
  have HWH := Lib.hid (whole_any s)
  obtain ⟨x0, x1, x2, x3, xf⟩ := s.x
  clear hd s hsz ht hnx
  cases br
  rotate_left
  · rw [if_pos rfl, errV_pos (by decide)] at HWH
    rw [scompact_broke]
    go_enter Tryz.func21, Tryz.ntmps21
    go_wp2_with fail
    refine HWH.out.mono ?_
    rintro r w' ⟨rfl, rfl⟩
    go_wp2
    go_ret
    exact ⟨rfl, ShDone.same HS.out HD.out (Below.refl _ _)⟩
  rw [if_neg (by decide), errV_zero] at HWH
  by_cases hn : 99999999 < next
  · rw [scompact_full hn]
    have hni : (99999999 : Int) < (next : Int) := by omega
    clear hn
    go_enter Tryz.func21, Tryz.ntmps21
    go_wp2_with fail
    refine HWH.out.mono ?_
    rintro r w' ⟨rfl, rfl⟩
    go_wp2
    go_ret
    exact ⟨rfl, ShDone.same HS.out HD.out (Below.refl _ _)⟩
  have HN := Lib.hid hn
  have hni : ¬ (99999999 : Int) < (next : Int) := by omega
  have HPU := Lib.hid (putUnit_any HS.out.un)
  clear hn
  go_enter Tryz.func21, Tryz.ntmps21
  go_wp2_with fail
  refine HWH.out.mono ?_
  rintro r w' ⟨rfl, rfl⟩
  go_wp2_with fail
  refine HPU.out.mono ?_
  rintro r w3 ⟨hb3, hcase⟩
  rcases hcase with ⟨hle, v3, rfl, ho3⟩ | ⟨hle, rfl⟩
  rotate_left
  · have HB3 := Lib.hid hb3
    have HLL := Lib.hid hle
    rw [errV_pos (by decide)]
    clear hb3 hle
    go_wp2
    go_ret
    rw [scompact_long HN.out HLL.out]
    exact ⟨rfl, ShDone.same HS.out HD.out HB3.out⟩
  have HLE : Hid (¬ 65536 < (utext U).length) := Lib.hid (by omega)
  have hby : ∀ y ∈ fr (utext U), y < 256 := by
    have := utext_many U
    exact fr_byte (utext_len HS.out.un.ok (by omega)).2 (by unfold U64; omega)
  obtain ⟨ao3, cap3, rfl, _, _, _⟩ := ho3.reads.val
  obtain ⟨b3, hb3e⟩ : ∃ b, b = fr (utext U) := ⟨_, rfl⟩
  rw [← hb3e] at ho3 hby ⊢
  have hat3 : At w3 (fun j => ¬ S j) .u8 (.slice ao3 b3.length cap3) b3 := ho3.at'.mono fun j _ ho hS => by
    have h1 := HD.out.lt hS
    have h2 := ho.1
    omega
  have HP := Lib.hid (sput_any (HD.out.keep (kept_new hb3 S)) (HS.out.old hb3).box (HS.out.old hb3).st HS.out.sh.2.1 HS.out.sh.1 (by have := HSZ.out; omega) (HT.out _ (fr_below hb3 _)) (by have := HN.out; omega) (mk := [98]) (by decide) hat3 hby)
  have HB3 := Lib.hid hb3
  obtain ⟨P, hP⟩ : ∃ P, P = sput D ([98] ++ dig8 next) b3 := ⟨_, rfl⟩
  have HPE : Hid (sput D (sname 98 next) (fr (utext U)) = P) := Lib.hid (by rw [hP, hb3e]; rfl)
  rw [← hP, show (([98] : Nm)).toArray = #[98] from rfl] at HP
  obtain ⟨nb, hnb⟩ : ∃ n, n = b3.length := ⟨_, rfl⟩
  rw [← hnb] at HP ⊢
  clear x0 x1 x2 x3 xf
  obtain ⟨x0, x1, x2, x3, xf⟩ := (HS.out.old hb3).x
  rw [errV_zero]
  clear hb3 hle hby ho3 hb3e hat3 hP hnb
  go_wp2_with fail
  refine HP.out.mono ?_
  rintro r w6 hp6
  obtain ⟨rfl, hsd⟩ := ShDone.put HS.out HB3.out hp6
  have HSD := Lib.hid hsd
  have HP6 := Lib.hid hp6
  clear hp6 hsd x0 x1 x2 x3 xf
  by_cases hc : P.2 = 0
  rotate_left
  · have HC := Lib.hid hc
    rw [errV_pos hc]
    clear hc
    go_wp2
    go_ret
    rw [scompact_fail HN.out HLE.out HPE.out HC.out]
    exact ⟨by rw [errV_pos HC.out]; rfl, HSD.out⟩
  have HC := Lib.hid hc
  rw [hc, errV_zero]
  have hdf : decide (P.2 = 14) = false := by rw [hc]; rfl
  have hsd := HSD.out
  rw [hdf] at hsd
  have HSD2 := Lib.hid hsd
  obtain ⟨S1, u1, m1, B1, s1, d1, f1, a1, b1, c1, e1, g1⟩ := hsd
  have HFR : Hid (Fr (fun j => S j ∨ j = h) w' w6) := Lib.hid f1
  have HX6 : Hid (∀ W, Below w6.heap.size w6 W → W.cell? ⟨h, 2, none⟩ = some (.int .i64 (next : Int))) := Lib.hid fun W hW => (s1.old hW).x.2.2.1
  have ht6 : Tens w6 := HT.out _ f1
  have HNAM : Hid (∀ W, Below w6.heap.size w6 W → Calls Tryz.prog 63 #[.string ⟨#[98]⟩, .int .i64 (next : Int)] W fun e w' => e = .returned (nmV (sname 98 next)) ∧ Below w6.heap.size w6 w') := Lib.hid fun W hW => (nameOf_any [98] (by decide) next (by have := HN.out; omega) W (ht6.below hW)).mono fun e w' k => ⟨k.1, hW.trans (k.2.mono hW.size)⟩
  have hpz : P.1.sz ≤ 400000 := by
    have h1 := sput_sz10 D (sname 98 next) (fr (utext U))
    rw [HPE.out] at h1
    have := HSZ.out
    omega
  have HDB : Hid (∀ W, Below w6.heap.size w6 W → Calls Tryz.prog 62 #[.pointer (some ⟨h, 0, none⟩), nmV (sname 98 next)] W fun e w7 => e = .returned (errV (sclean P.1 (sname 98 next)).2) ∧ ShDone w' S h p q u m B (sclean P.1 (sname 98 next)).1 U next (decide ((sclean P.1 (sname 98 next)).2 = 14)) w7) := Lib.hid fun W hW => by
    refine (deleteBut_any (d1.keep (kept_new hW S1)) (s1.old hW) hpz (sname 98 next)).mono fun e w7 hp => ?_
    obtain ⟨he, hdn⟩ := ShDone.put s1 hW hp
    exact ⟨he, hdn.on f1 a1 b1 c1 e1 g1⟩
  obtain ⟨sn, hsn⟩ : ∃ s, nmV (sname 98 next) = .string s := ⟨_, rfl⟩
  rw [hsn] at HNAM HDB
  obtain ⟨cc, hcc⟩ : ∃ c, c = (sclean P.1 (sname 98 next)).2 := ⟨_, rfl⟩
  have x2 := HX6.out w6 (Below.refl _ _)
  clear hc hdf s1 d1 f1 a1 b1 c1 e1 g1 ht6 hpz hsn
  obtain ⟨er, her⟩ : ∃ x, x = errV (sclean P.1 (sname 98 next)).2 := ⟨_, rfl⟩
  rw [← her] at HDB
  have HER := Lib.hid her
  clear hcc her cc
  go_upto_region 12 with fail
  go_wp2_with fail
  refine (HNAM.out _ (Below.refl _ _)).mono ?_
  rintro r w7 ⟨rfl, hb7⟩
  have HB7 := Lib.hid hb7
  clear hb7 x2
  go_wp2_with fail
  refine (HDB.out _ HB7.out).mono ?_
  rintro r w8 ⟨rfl, hd8⟩
  have HD8 := Lib.hid hd8
  clear hd8
  go_wp2
  go_ret
  rw [scompact_fine HN.out HLE.out HPE.out HC.out]
  exact ⟨by rw [HER.out]; rfl, HD8.out⟩
end
end Go.Proofs.YteknibaappcgmaaGreatDoor

namespace Go.Proofs.YteknibaappcgmaaGreatDoor
open Go.RowKit

/-- A shelf and its disk. Of the blocks that its calls may write C holds, of those that it only reads R. -/
structure Drs (w0 w : World) (C R : Nat → Prop) (p h : Nat) (D : DS) (U : US) (next : Nat) (br : Bool) : Prop where
  is : ∃ (S : Nat → Prop) (q u m : Nat) (B : Nat → Prop), ShelfAt w S h p q u m B U next br ∧ Dk w S p D ∧ (∀ j, S j ∨ j = h → C j) ∧ ∀ j, j = q ∨ j = u ∨ j = m ∨ B j → R j
  apart : ∀ j, R j → ¬ C j
  lt : ∀ j, C j ∨ R j → j < w.heap.size
  ge : ∀ j, C j ∨ R j → w0.heap.size ≤ j
  below : Below w0.heap.size w0 w
/-- A shelf's disk alone. -/
structure Ddk (w0 w : World) (C : Nat → Prop) (p : Nat) (D : DS) : Prop where
  is : ∃ S : Nat → Prop, Dk w S p D ∧ ∀ j, S j → C j
  lt : ∀ j, C j → j < w.heap.size
  ge : ∀ j, C j → w0.heap.size ≤ j
  below : Below w0.heap.size w0 w
/-- What a call changed: blocks of C; what it may write then. -/
structure Chg (C R C' R' : Nat → Prop) (w w' : World) : Prop where
  fr : Fr C w w'
  c : ∀ j, C' j → C j ∨ w.heap.size ≤ j
  r : ∀ j, R' j → R j ∨ w.heap.size ≤ j
theorem Chg.refl (C R : Nat → Prop) (w : World) : Chg C R C R w w := ⟨Fr.refl _ _, fun _ h => .inl h, fun _ h => .inl h⟩
theorem Chg.trans {C R C1 R1 C2 R2 : Nat → Prop} {w w1 w2 : World} (h : Chg C R C1 R1 w w1) (k : Chg C1 R1 C2 R2 w1 w2) : Chg C R C2 R2 w w2 := by
  have hs := h.fr.size
  refine ⟨h.fr.trans k.fr (fun _ _ h => h) (fun j hj hc => ?_), fun j hj => ?_, fun j hj => ?_⟩
  · rcases h.c j hc with h1 | h1
    · exact h1
    · omega
  · rcases k.c j hj with h1 | h1
    · exact h.c j h1
    · exact .inr (by omega)
  · rcases k.r j hj with h1 | h1
    · exact h.r j h1
    · exact .inr (by omega)
theorem chg_below {C R : Nat → Prop} {w w' : World} (h : Below w.heap.size w w') : Chg C R C R w w' := ⟨fr_below h C, fun _ h => .inl h, fun _ h => .inl h⟩
def DrsPost (w0 w : World) (C R : Nat → Prop) (p h : Nat) (D : DS) (U : US) (next : Nat) (br : Bool) (w' : World) : Prop :=
  ∃ C' R' : Nat → Prop, Drs w0 w' C' R' p h D U next br ∧ Chg C R C' R' w w'
def DdkPost (w0 w : World) (C R : Nat → Prop) (p : Nat) (D : DS) (w' : World) : Prop :=
  ∃ C' : Nat → Prop, Ddk w0 w' C' p D ∧ Chg C R C' (fun _ => False) w w'
section
variable {w0 w w' : World} {C R : Nat → Prop} {p h : Nat} {D : DS} {U : US} {next : Nat} {br : Bool}
theorem Drs.size (d : Drs w0 w C R p h D U next br) : w0.heap.size ≤ w.heap.size := d.below.size
theorem Drs.open' (d : Drs w0 w C R p h D U next br) : ∃ (S : Nat → Prop) (q u m : Nat) (B : Nat → Prop), ShelfAt w S h p q u m B U next br ∧ Dk w S p D ∧ (∀ j, S j ∨ j = h → C j) ∧ (∀ j, j = q ∨ j = u ∨ j = m ∨ B j → R j) ∧ (∀ j, B j → j < w.heap.size) ∧
    ∀ D' U' next' br' w', ShDone w S h p q u m B D' U' next' br' w' → DrsPost w0 w C R p h D' U' next' br' w' := by
  obtain ⟨S, q, u, m, B, s, hd, hC, hR⟩ := d.is
  refine ⟨S, q, u, m, B, s, hd, hC, hR, fun j hj => d.lt j (.inr (hR j (.inr (.inr (.inr hj))))), fun D' U' next' br' w' hdone => ?_⟩
  obtain ⟨S1, u', m', B', t, hd', hf, hS, hS1, hu', hm', hB'⟩ := hdone
  have hs0 := d.size
  have hfC : Fr C w w' := hf.mono fun j _ hj => hC j hj
  have hbl : Below w0.heap.size w0 w' := hfC.fresh d.below fun j hj => d.ge j (.inl hj)
  have hc1 : ∀ j, S1 j ∨ j = h → C j ∨ w.heap.size ≤ j := by
    rintro j (hj | rfl)
    · exact (hS1 j hj).imp (fun x => hC j (.inl x)) id
    · exact .inl (hC _ (.inr rfl))
  have hr1 : ∀ j, j = q ∨ j = u' ∨ j = m' ∨ (B' j ∧ j < w'.heap.size) → R j ∨ w.heap.size ≤ j := by
    rintro j (rfl | rfl | rfl | hj)
    · exact .inl (hR _ (.inl rfl))
    · rcases hu' with rfl | hu'
      · exact .inl (hR _ (.inr (.inl rfl)))
      · exact .inr hu'
    · rcases hm' with rfl | hm'
      · exact .inl (hR _ (.inr (.inr (.inl rfl))))
      · exact .inr hm'
    · exact (hB' j hj.1).imp (fun x => hR j (.inr (.inr (.inr x)))) id
  refine ⟨fun j => S1 j ∨ j = h, fun j => j = q ∨ j = u' ∨ j = m' ∨ (B' j ∧ j < w'.heap.size), ⟨⟨S1, q, u', m', _, t.small, hd', fun _ h => h, fun _ h => h⟩, ?_, ?_, ?_, hbl⟩, hfC, hc1, hr1⟩
  · rintro j hj (hS1j | rfl)
    · rcases hj with rfl | rfl | rfl | hj
      · exact t.sh.2.1 hS1j
      · exact t.sh.2.2.1 hS1j
      · exact t.sh.2.2.2.1 hS1j
      · exact t.sh.2.2.2.2 j hj.1 hS1j
    · rcases hj with e | e | e | hj
      · exact t.hne.1 e
      · exact t.hne.2.1 e
      · exact t.hne.2.2.1 e
      · exact t.hne.2.2.2 hj.1
  · rintro j ((hj | rfl) | (rfl | rfl | rfl | hj))
    · exact hd'.lt hj
    · exact t.hlt
    · exact t.st.2
    · exact t.un.ult
    · exact t.un.mlt
    · exact hj.2
  · rintro j (hj | hj)
    · rcases hc1 j hj with h1 | h1
      · exact d.ge j (.inl h1)
      · omega
    · rcases hr1 j hj with h1 | h1
      · exact d.ge j (.inr h1)
      · omega
/-- Something that lies elsewhere has changed. -/
theorem Drs.fr {T : Nat → Prop} (d : Drs w0 w C R p h D U next br) (hf : Fr T w w') (hT : ∀ j, T j → ¬ C j ∧ ¬ R j ∧ w0.heap.size ≤ j) : Drs w0 w' C R p h D U next br := by
  obtain ⟨S, q, u, m, B, s, hd, hC, hR⟩ := d.is
  have kC : ∀ j, C j → w'.heap[j]? = w.heap[j]? := fun j hj => hf.block j (d.lt j (.inl hj)) fun ht => (hT j ht).1 hj
  have kR : ∀ j, R j → w'.heap[j]? = w.heap[j]? := fun j hj => hf.block j (d.lt j (.inr hj)) fun ht => (hT j ht).2.1 hj
  refine ⟨⟨S, q, u, m, B, ⟨(kC h (hC h (.inr rfl))).trans s.box, ⟨(World.cell?_of_block (a := ⟨q, 0, none⟩) (kR q (hR q (.inl rfl)))).trans s.st.1, Nat.lt_of_lt_of_le s.st.2 hf.size⟩, s.un.keep ⟨hf.size, fun j _ hj => kR j (hR j (.inr (.inr (.inr hj))))⟩ (kR u (hR u (.inr (.inl rfl)))) (kR m (hR m (.inr (.inr (.inl rfl))))), s.sh, s.hne, s.qne⟩, hd.keep ⟨hf.size, fun j _ hj => kC j (hC j (.inl hj))⟩, hC, hR⟩, d.apart, fun j hj => Nat.lt_of_lt_of_le (d.lt j hj) hf.size, d.ge, hf.fresh d.below fun j hj => (hT j hj).2.2⟩
theorem Drs.old (d : Drs w0 w C R p h D U next br) (hb : Below w.heap.size w w') : Drs w0 w' C R p h D U next br := d.fr (fr_below hb fun _ => False) fun _ h => h.elim
theorem Drs.small (d : Drs w0 w C R p h D U next br) : Small 65536 D.sure := by
  obtain ⟨S, q, u, m, B, s, ⟨m1, m2, cv, hd⟩, _⟩ := d.is
  exact hd.small
theorem Drs.uok (d : Drs w0 w C R p h D U next br) : UOk U := by
  obtain ⟨S, q, u, m, B, s, _⟩ := d.is
  exact s.un.ok
theorem Drs.tens (d : Drs w0 w C R p h D U next br) (ht : Tens w0) : Tens w := ht.below d.below
theorem Drs.disk (d : Drs w0 w C R p h D U next br) : Ddk w0 w C p D := by
  obtain ⟨S, q, u, m, B, s, hd, hC, hR⟩ := d.is
  exact ⟨⟨S, hd, fun j hj => hC j (.inl hj)⟩, fun j hj => d.lt j (.inl hj), fun j hj => d.ge j (.inl hj), d.below⟩
/-! ### Calls -/
theorem Drs.act (d : Drs w0 w C R p h D U next br) (hsz : D.sz ≤ 400000) (ht : Tens w0) (hnx : next ≤ 1000000000) (k e : Int) {a : Int} (ha : I64 a) {v : Value} {dd : List Nat} (hv : Reads w .u8 v dd) (h8 : ∀ y ∈ dd, y < 256) :
    Calls Tryz.prog 19 #[.pointer (some ⟨h, 0, none⟩), .agg #[.int .i64 k, .int .i64 e, .int .i64 a, v]] w fun r w' => r = .returned (.tuple #[.int .i64 (sdoAct D U next br k e a dd).1, errV (sdoAct D U next br k e a dd).2.2.2.2.2]) ∧
      DrsPost w0 w C R p h (sdoAct D U next br k e a dd).2.1 (sdoAct D U next br k e a dd).2.2.1 (sdoAct D U next br k e a dd).2.2.2.1 (sdoAct D U next br k e a dd).2.2.2.2.1 w' := by
  obtain ⟨S, q, u, m, B, s, hd, hC, hR, hB, hpost⟩ := d.open'
  refine (shdo_any hd s hsz (d.tens ht) hnx k e ha hv h8 fun hc => ?_).mono fun r w' k => ⟨k.1, hpost _ _ _ _ _ k.2⟩
  obtain ⟨z1, z2, z3, z4, z5, z6, z7, _⟩ := rchk_zero hc
  have hU : ∀ {x : Int}, 0 ≤ x → x ≤ 1099511627776 → U64 x.toNat := fun h1 h2 => by unfold U64; omega
  have hl := rtext_le (k := k.toNat) (e := e.toNat) (a := a.toNat) (hU (by omega) (by omega)) (hU z3 z4) (hU z5 (by omega)) z7
  exact fr_byte (rtext_byte (hU (by omega) (by omega)) (hU z3 z4) (hU z5 (by omega)) h8 z7) (by unfold U64; omega)
theorem Drs.compact (d : Drs w0 w C R p h D U next br) (hsz : D.sz ≤ 300000) (ht : Tens w0) (hnx : next ≤ 1000000000) :
    Calls Tryz.prog 21 #[.pointer (some ⟨h, 0, none⟩)] w fun r w' => r = .returned (errV (scompact D U next br).2.2) ∧ DrsPost w0 w C R p h (scompact D U next br).1 U next (scompact D U next br).2.1 w' := by
  obtain ⟨S, q, u, m, B, s, hd, hC, hR, hB, hpost⟩ := d.open'
  exact (compact_any hd s hsz (fun W hW => ht.below (hW.fresh d.below fun j hj => d.ge j (.inl (hC j hj)))) hnx).mono fun r w' k => ⟨k.1, hpost _ _ _ _ _ k.2⟩
/-- A unit of a law's own, beside. -/
def Lun (w : World) (C R : Nat → Prop) (u m : Nat) (U : US) : Prop := ∃ B, Un w B u m U ∧ (∀ j, j = u ∨ j = m → ¬ C j ∧ ¬ R j) ∧ ∀ j, B j → ¬ C j ∧ j < w.heap.size
theorem Drs.unit (d : Drs w0 w C R p h D U next br) :
    Calls Tryz.prog 25 #[.pointer (some ⟨h, 0, none⟩)] w fun r w' => ∃ u m, r = .returned (.pointer (some ⟨u, 0, none⟩)) ∧ Lun w' C R u m U ∧ w.heap.size ≤ u ∧ w.heap.size ≤ m ∧ Below w.heap.size w w' := by
  obtain ⟨S, q, u, m, B, s, hd, _, hR, hB, _⟩ := d.open'
  refine (shunit_any s).mono fun r w' ⟨u', m', h1, h2, h3, h4, h5⟩ => ⟨u', m', h1, ⟨_, h2, ?_, fun j hj => ⟨d.apart j (hR j (.inr (.inr (.inr hj.1)))), Nat.lt_of_lt_of_le hj.2 h5.size⟩⟩, h3, h4, h5⟩
  rintro j (rfl | rfl)
  · exact ⟨fun hc => by have := d.lt _ (.inl hc); omega, fun hc => by have := d.lt _ (.inr hc); omega⟩
  · exact ⟨fun hc => by have := d.lt _ (.inl hc); omega, fun hc => by have := d.lt _ (.inr hc); omega⟩
/-- A shelf's call leaves a law's unit. -/
theorem Lun.chg {C' R' : Nat → Prop} {u m : Nat} {V : US} (l : Lun w C R u m V) (c : Chg C R C' R' w w') : Lun w' C' R' u m V := by
  obtain ⟨B, h1, h2, h3⟩ := l
  have kb : ∀ j, ¬ C j → j < w.heap.size → w'.heap[j]? = w.heap[j]? := fun j hc hj => c.fr.block j hj hc
  refine ⟨B, h1.keep ⟨c.fr.size, fun j hj hB => kb j (h3 j hB).1 hj⟩ (kb u (h2 u (.inl rfl)).1 h1.ult) (kb m (h2 m (.inr rfl)).1 h1.mlt), ?_, fun j hj => ⟨fun hc => ?_, Nat.lt_of_lt_of_le (h3 j hj).2 c.fr.size⟩⟩
  · rintro j hj
    have hlt : j < w.heap.size := by
      rcases hj with rfl | rfl
      · exact h1.ult
      · exact h1.mlt
    exact ⟨fun hc => (c.c j hc).elim (h2 j hj).1 fun h => by omega, fun hc => (c.r j hc).elim (h2 j hj).2 fun h => by omega⟩
  · have := (h3 j hj).2
    exact (c.c j hc).elim (h3 j hj).1 fun h => by omega
theorem Lun.old {u m : Nat} {V : US} (l : Lun w C R u m V) (hb : Below w.heap.size w w') : Lun w' C R u m V := l.chg (chg_below hb)
/-- Another unit has changed. -/
theorem Lun.beside {T : Nat → Prop} {u m : Nat} {V : US} (l : Lun w C R u m V) (hf : Fr T w w') (hT : ∀ j, T j → ¬ (j = u ∨ j = m)) (hB : ∀ j, T j → w.heap.size ≤ j ∨ ∀ B, Un w B u m V → ¬ B j) : Lun w' C R u m V := by
  obtain ⟨B, h1, h2, h3⟩ := l
  refine ⟨B, h1.keep ⟨hf.size, fun j hj hBj => hf.block j hj fun ht => ?_⟩ (hf.block u h1.ult fun ht => hT u ht (.inl rfl)) (hf.block m h1.mlt fun ht => hT m ht (.inr rfl)), h2, fun j hj => ⟨(h3 j hj).1, Nat.lt_of_lt_of_le (h3 j hj).2 hf.size⟩⟩
  rcases hB j ht with h | h
  · omega
  · exact h B h1 hBj
end
end Go.Proofs.YteknibaappcgmaaGreatDoor

namespace Go.Proofs.YteknibaappcgmaaGreatDoor
open Go.RowKit
section
variable {w0 w w' : World} {C R : Nat → Prop} {p h : Nat} {D : DS} {U : US} {next : Nat} {br : Bool}
/-- What changed a disk. -/
theorem Ddk.post {S : Nat → Prop} {D' : DS} (d : Ddk w0 w C p D) (hS : ∀ j, S j → C j) (hp : DPost S p w w' D') : DdkPost w0 w C R p D' w' := by
  obtain ⟨S1, hd, hf, hs, ht⟩ := hp
  have hfC : Fr C w w' := hf.mono fun j _ hj => hS j hj
  have hsz := d.below.size
  refine ⟨S1, ⟨⟨S1, hd, fun _ h => h⟩, fun j hj => hd.lt hj, fun j hj => ?_, hfC.fresh d.below d.ge⟩, hfC, fun j hj => (ht j hj).imp (hS j) id, fun _ h => h.elim⟩
  rcases ht j hj with h1 | h1
  · exact d.ge j (hS j h1)
  · omega
theorem Ddk.old (d : Ddk w0 w C p D) (hb : Below w.heap.size w w') : Ddk w0 w' C p D := by
  obtain ⟨S, hd, hS⟩ := d.is
  exact ⟨⟨S, hd.keep (kept_new hb S), hS⟩, fun j hj => Nat.lt_of_lt_of_le (d.lt j hj) hb.size, d.ge, (fr_below hb fun _ => False).fresh d.below fun _ h => h.elim⟩
theorem Ddk.fr {T : Nat → Prop} (d : Ddk w0 w C p D) (hf : Fr T w w') (hT : ∀ j, T j → ¬ C j ∧ w0.heap.size ≤ j) : Ddk w0 w' C p D := by
  obtain ⟨S, hd, hS⟩ := d.is
  exact ⟨⟨S, hd.keep ⟨hf.size, fun j hj hSj => hf.block j hj fun ht => (hT j ht).1 (hS j hSj)⟩, hS⟩, fun j hj => Nat.lt_of_lt_of_le (d.lt j hj) hf.size, d.ge, hf.fresh d.below fun j hj => (hT j hj).2⟩
theorem ddk_new {w1 : World} (hb : Below w0.heap.size w0 w1) (hd : Dk w (fun j => j = w1.heap.size) w1.heap.size D) (hb2 : Below w1.heap.size w1 w) : Ddk w0 w (fun j => j = w1.heap.size) w1.heap.size D :=
  ⟨⟨_, hd, fun _ h => h⟩, fun j hj => hd.lt hj, fun j hj => by subst hj; exact hb.size, hb.trans (hb2.mono hb.size)⟩
theorem Ddk.cut (d : Ddk w0 w C p D) (hsz : D.sz < 1099511627776) {kv : Value} {ks : List Bool} (hkv : RowV w (fun j => ¬ C j) kv (ks.map Value.bool)) :
    Calls Tryz.prog 23 #[.pointer (some ⟨p, 0, none⟩), kv] w fun e w' => e = .returned (.tuple #[]) ∧ DdkPost w0 w C R p (dcut D ks) w' := by
  obtain ⟨S, hd, hS⟩ := d.is
  exact (cutD_any hd hsz (hkv.mono fun j _ hj hSj => hj (hS j hSj))).mono fun e w' hp => ⟨hp.1, d.post hS hp.2⟩
theorem Ddk.start (d : Ddk w0 w C p D) :
    Calls Tryz.prog 24 #[.pointer (some ⟨p, 0, none⟩)] w fun e w' => e = .returned (.tuple #[]) ∧ DdkPost w0 w C R p (dstart D) w' := by
  obtain ⟨S, hd, hS⟩ := d.is
  exact (startD_any hd).mono fun e w' hp => ⟨hp.1, d.post hS hp.2⟩
theorem Ddk.down (d : Ddk w0 w C p D) : Calls Tryz.prog 22 #[.pointer (some ⟨p, 0, none⟩)] w fun e w' => e = .returned (.bool D.down) ∧ w' = w := by
  obtain ⟨S, hd, hS⟩ := d.is
  exact downD_any hd
theorem Ddk.list (d : Ddk w0 w C p D) (hsz : D.sz ≤ 1000000) : Calls Tryz.prog 28 #[.pointer (some ⟨p, 0, none⟩)] w (DListPost (dlist D) w) := by
  obtain ⟨S, hd, hS⟩ := d.is
  exact listD_any hd hsz
/-- The fuse is set: the shelf stays. -/
theorem Drs.fuse (d : Drs w0 w C R p h D U next br) (n : Int) (h0 : 0 ≤ n) (hn : n ≤ 9223372036854775807) :
    Calls Tryz.prog 16 #[.pointer (some ⟨p, 0, none⟩), .int .i64 n] w fun e w' => e = .returned .nilIface ∧ Drs w0 w' C R p h { D with fuse := n } U next br ∧ Chg C R C R w w' := by
  obtain ⟨S, q, u, m, B, s, hd, hC, hR⟩ := d.is
  refine (fuseD_any hd n hn).mono fun e w' hp => ?_
  rw [if_neg (by omega), if_neg (by omega)] at hp
  obtain ⟨rfl, hd2, hf⟩ := hp
  have hpS : ∀ j, j = p → S j := fun j e => by rw [e]; exact hd.inS
  have hne : ∀ j, ¬ S j → j < w.heap.size → w'.heap[j]? = w.heap[j]? := fun j hj hl => hf.block j hl fun e => hj (hpS j e)
  have hfC : Fr C w w' := hf.mono fun j _ e => hC j (.inl (hpS j e))
  refine ⟨rfl, ⟨⟨S, q, u, m, B, ⟨(hne h s.sh.1 s.hlt).trans s.box, ⟨(World.cell?_of_block (a := ⟨q, 0, none⟩) (hne q s.sh.2.1 s.st.2)).trans s.st.1, Nat.lt_of_lt_of_le s.st.2 hf.size⟩, s.un.keep (hf.kept B fun j _ hj e => s.sh.2.2.2.2 j hj (hpS j e)) (hne u s.sh.2.2.1 s.un.ult) (hne m s.sh.2.2.2.1 s.un.mlt), s.sh, s.hne, s.qne⟩, hd2, hC, hR⟩, d.apart, fun j hj => Nat.lt_of_lt_of_le (d.lt j hj) hf.size, d.ge, hfC.fresh d.below fun j hj => d.ge j (.inl hj)⟩, hfC, fun _ h => .inl h, fun _ h => .inl h⟩
/-- Opened, where the files say a unit. -/
theorem Ddk.opens {D' : DS} {N : Nat} (d : Ddk w0 w C p D) (hsz : D.sz ≤ 400000) (hN : N ≤ 400000) (ht : Tens w0) (ho : sopen D = (D', 0)) (hs : SDisk D' U next N) :
    Calls Tryz.prog 14 #[.pointer (some ⟨p, 0, none⟩)] w fun e w' => ∃ (h : Nat) (C' R' : Nat → Prop), e = .returned (.tuple #[.pointer (some ⟨h, 0, none⟩), .nilIface]) ∧ Drs w0 w' C' R' p h D' U next false ∧ Chg C R C' R' w w' ∧ w.heap.size ≤ h := by
  obtain ⟨S, hd, hS⟩ := d.is
  have hsz2 : (sopen D).1.sz ≤ 400000 := by rw [ho]; exact Nat.le_trans hs.sz hN
  have hs0 := d.below.size
  refine (hopen_any hd hsz hsz2 fun W hW => ht.below ((hW.fresh d.below fun j hj => d.ge j (hS j hj)))).mono ?_
  rintro e w' ⟨D2, U2, n2, c, hro, hcase⟩
  obtain ⟨rfl, hc, hun⟩ := (hs.ropen ho).unique hro
  subst hc
  obtain ⟨rfl, rfl⟩ := hun rfl
  rcases hcase with ⟨hz, _⟩ | ⟨_, S1, hb, q, u, m, B, rfl, hd', hf, hsub, hnew, s, g1, g2, g3, g4, g5⟩
  · exact absurd rfl hz
  have hfC : Fr C w w' := hf.mono fun j _ hj => hS j hj
  refine ⟨hb, fun j => S1 j ∨ j = hb, fun j => j = q ∨ j = u ∨ j = m ∨ (B j ∧ j < w'.heap.size), rfl, ⟨⟨S1, q, u, m, _, s.small, hd', fun _ h => h, fun _ h => h⟩, ?_, ?_, ?_, hfC.fresh d.below d.ge⟩, ⟨hfC, ?_, ?_⟩, g1⟩
  · rintro j hj (hS1j | rfl)
    · rcases hj with rfl | rfl | rfl | hj
      · exact s.sh.2.1 hS1j
      · exact s.sh.2.2.1 hS1j
      · exact s.sh.2.2.2.1 hS1j
      · exact s.sh.2.2.2.2 j hj.1 hS1j
    · rcases hj with e | e | e | hj
      · exact s.hne.1 e
      · exact s.hne.2.1 e
      · exact s.hne.2.2.1 e
      · exact s.hne.2.2.2 hj.1
  · rintro j ((hj | rfl) | (rfl | rfl | rfl | hj))
    · exact hd'.lt hj
    · exact s.hlt
    · exact s.st.2
    · exact s.un.ult
    · exact s.un.mlt
    · exact hj.2
  · rintro j ((hj | rfl) | (rfl | rfl | rfl | hj))
    · rcases hnew j hj with h1 | h1
      · exact d.ge j (hS j h1)
      · omega
    · omega
    · omega
    · omega
    · omega
    · have := g5 j hj.1; omega
  · rintro j (hj | rfl)
    · exact (hnew j hj).imp (hS j) id
    · exact .inr g1
  · rintro j (rfl | rfl | rfl | hj)
    · exact .inr g2
    · exact .inr g3
    · exact .inr g4
    · exact .inr (g5 j hj.1)
theorem Drs.read (d : Drs w0 w C R p h D U next br) (e : Int) {a : Int} (ha : I64 a) :
    Calls Tryz.prog 29 #[.pointer (some ⟨h, 0, none⟩), .int .i64 e, .int .i64 a] w (UReadPost w (sread D br U e a)) := by
  obtain ⟨S, q, u, m, B, s, hd, _⟩ := d.is
  exact shread_any hd s e ha
theorem Drs.tail (d : Drs w0 w C R p h D U next br) (e : Int) :
    Calls Tryz.prog 37 #[.pointer (some ⟨h, 0, none⟩), .int .i64 e] w fun r w' => r = .returned (.tuple #[.int .i64 (stail D br U e).1, errV (stail D br U e).2]) ∧ Below w.heap.size w w' := by
  obtain ⟨S, q, u, m, B, s, hd, _⟩ := d.is
  exact shtail_any hd s e
theorem Drs.cell (d : Drs w0 w C R p h D U next br) : w.cell? ⟨h, 2, none⟩ = some (.int .i64 (next : Int)) ∧ w.cell? ⟨h, 3, none⟩ = some (.bool br) := by
  obtain ⟨S, q, u, m, B, s, _⟩ := d.is
  obtain ⟨_, _, x2, x3, _⟩ := s.x
  exact ⟨x2, x3⟩
set_option maxRecDepth 100000 in
theorem shnext_any (d : Drs w0 w C R p h D U next br) : Calls Tryz.prog 27 #[.pointer (some ⟨h, 0, none⟩)] w fun r w' => r = .returned (.int .i64 (next : Int)) ∧ w' = w := by
  obtain ⟨x2, x3⟩ := d.cell
  clear d
  go_enter Tryz.func27, Tryz.ntmps27
  go_wp2
  go_ret
  exact ⟨rfl, rfl⟩
end
end Go.Proofs.YteknibaappcgmaaGreatDoor

namespace Go.Proofs.YteknibaappcgmaaGreatDoor
open Go.RowKit
theorem SDisk.szc {D : DS} {U : US} {n N : Nat} (h : SDisk D U n N) (ks : List Bool) : (dstart (dcut D ks)).sz ≤ N := by
  rw [cut_start h.1.chs ks]
  exact h.2.1
def U1s : US := ⟨0, 0, [(2, (1, [120]))]⟩
theorem rapply_x : rapply unew 2 0 2 [120] = (0, U1s, 0) := rfl
theorem rapply_bad {U : US} {k e a : Int} {d : List Nat} (h : (rapply U k e a d).2.2 ≠ 0) : (rapply U k e a d).1 = 0 ∧ (rapply U k e a d).2.1 = U := by
  unfold rapply at h ⊢
  split
  · exact ⟨rfl, rfl⟩
  · rename_i h1
    rw [if_neg h1] at h
    split
    · rename_i h2
      rw [if_pos h2] at h
      unfold useal at h ⊢
      repeat' split
      all_goals first | exact ⟨rfl, rfl⟩ | (rename_i h3 h4; rw [if_neg h3, if_neg h4] at h; exact absurd rfl h)
    · rename_i h2
      rw [if_neg h2] at h
      split
      · rename_i h3
        rw [if_pos h3] at h
        refine ⟨rfl, ?_⟩
        unfold uwrite at h ⊢
        repeat' split
        all_goals first | rfl | (simp_all; done)
      · rename_i h3
        rw [if_neg h3] at h
        split
        · rename_i h4
          rw [if_pos h4] at h
          refine ⟨rfl, ?_⟩
          unfold ufill at h ⊢
          repeat' split
          all_goals first | rfl | (simp_all; done)
        · rename_i h4
          rw [if_neg h4] at h
          split
          · rename_i h5
            rw [if_pos h5] at h
            refine ⟨rfl, ?_⟩
            unfold utrim at h ⊢
            repeat' split
            all_goals first | rfl | (simp_all; done)
          · rename_i h5
            rw [if_neg h5] at h
            unfold ucut at h ⊢
            repeat' split
            all_goals first | exact ⟨rfl, rfl⟩ | (simp_all; done)
/-- Do, where it is calm and there is room: the unit's own answer. -/
theorem sdo_calm {D : DS} {U : US} {next N : Nat} {k e a : Int} {d : List Nat} (h : SDisk D U next N) (hfu : D.fuse = -1) (hn : next ≤ 99999999) (hN : N ≤ 200) (hs : Small 65536 D.sure) (hr : N * 65536 + 130 ≤ D.room) (h8 : ∀ y ∈ d, y < 256) :
    ∃ D' n', sdoAct D U next false k e a d = ((rapply U k e a d).1, D', (rapply U k e a d).2.1, n', false, (rapply U k e a d).2.2) ∧ SDisk D' (rapply U k e a d).2.1 n' (N + 1) ∧ D'.fuse = -1 ∧ D'.room = D.room ∧ n' ≤ next + 1 := by
  have h1 := sdo_room (k := k) (e := e) (a := a) (d := d) h hn hN hs hr
  have h2 := sdo_calmD (D := D) (U := U) (next := next) (k := k) (e := e) (a := a) (d := d) h.1.up hfu
  have h3 := sdo_roomD (U := U) (next := next) D false k e a d
  obtain ⟨X, hX⟩ : ∃ X, X = sdoAct D U next false k e a d := ⟨_, rfl⟩
  have h4 := sdo_cases k e a h h8
  rw [← hX] at h1 h2 h3 h4 ⊢
  obtain ⟨x1, x2, x3, x4, x5, x6⟩ := X
  simp only at h1 h2 h3 h4
  have hne := h2.1
  rcases h1 with h1 | h1
  rotate_left
  · exact absurd h1.1 hne
  rcases h4 with ⟨c1, c2, c3, c4, c5, c6, c7⟩ | ⟨c1, c2, c3, c4, c5, c6, c7⟩ | ⟨c1, _⟩
  · subst c1 c3 c4 c5 c6
    exact ⟨x2, next + 1, by rw [c2], c7, h2.2.2, h3, Nat.le_refl _⟩
  · have hz : (rapply U k e a d).2.2 ≠ 0 := by rw [← h1]; exact c1
    obtain ⟨z1, z2⟩ := rapply_bad hz
    subst c3 c4 c5 c6 h1
    rw [z2, z1]
    exact ⟨x2, x4, rfl, c7.more (Nat.le_succ _), h2.2.2, h3, Nat.le_succ _⟩
  · exact absurd c1 hne
theorem alive10_do {D : DS} (h : SDisk D unew 0 0) (hfu : D.fuse = -1) (hs : Small 65536 D.sure) (hr : D.room = 1000) :
    ∃ D', sdoAct D unew 0 false 2 0 2 [120] = (0, D', U1s, 1, false, 0) ∧ SDisk D' U1s 1 1 := by
  obtain ⟨D', n', e1, e2, _⟩ := sdo_calm (k := 2) (e := 0) (a := 2) (d := [120]) h hfu (by omega) (by omega) hs (by omega) (by simp)
  rw [rapply_x] at e1 e2
  have hn : n' = 1 := by
    rcases sdo_cases 2 0 2 h (d := [120]) (by simp) with ⟨_, _, _, _, c5, _⟩ | ⟨c1, _⟩ | ⟨c1, _⟩
    · rw [e1] at c5; exact c5
    · rw [e1] at c1; exact absurd rfl c1
    · rw [e1] at c1; cases c1
  subst hn
  exact ⟨D', e1, e2⟩

set_option maxHeartbeats 4000000 in
set_option maxRecDepth 100000 in
theorem alive10_any (w : World) (ht : Tens w) : Calls Tryz.prog 6 #[] w fun e w' => e = .returned (.bool true) ∧ Below w.heap.size w w' := by
  have HT := Lib.hid ht
  clear ht
  go_enter Tryz.func6, Tryz.ntmps6
  go_wp2_with fail
  refine (newD_any 1000 w).mono ?_
  rintro r w1 (⟨_, _, rfl, hd1, hb1, _⟩ | ⟨hn, _⟩)
  rotate_left
  · exact absurd ⟨by decide, by decide⟩ hn
  obtain ⟨D1, ho1, hs1, hf1, hr1, hu1⟩ := (sdisk_new 1000).sopen rfl
  have HO := Lib.hid ((ddk_new (Below.refl _ _) hd1 hb1).opens (R := fun _ => False) (by decide) (by decide) HT.out ho1 hs1)
  have HDS : Hid (SDisk D1 unew 0 0 ∧ D1.fuse = -1 ∧ D1.room = 1000) := Lib.hid ⟨hs1, hf1, hr1⟩
  obtain ⟨p, hp⟩ : ∃ p, p = w.heap.size := ⟨_, rfl⟩
  rw [← hp] at HO ⊢
  clear hd1 hb1 ho1 hs1 hf1 hr1 hu1 hp
  go_wp2_with fail
  refine HO.out.mono ?_
  rintro r w2 ⟨h, C2, R2, rfl, hd2, hc2, hh2⟩
  have HD2 := Lib.hid hd2
  obtain ⟨D2, hdo, hs2⟩ := alive10_do HDS.out.1 HDS.out.2.1 hd2.small HDS.out.2.2
  have HS2 := Lib.hid hs2
  have hcv := fun (W : World) (C : Array Value) (n c : Nat) => Lib.run_convert_bytes_const (P := Tryz.prog) W 46 5 C n c Tryz.underlying46 Tryz.underlying5
  obtain ⟨W3, hW3⟩ : ∃ W3, W3 = w2.alloc (.cells #[.int .u8 120] 5 (1, 2)) := ⟨_, rfl⟩
  have hb3 : Below w2.heap.size w2 W3 := by rw [hW3]; exact (Below.refl _ _).alloc (Nat.le_refl _) _
  have hat : Reads W3 .u8 (.slice (some ⟨w2.heap.size, 0, none⟩) 1 1) [120] := by
    rw [hW3]
    exact reads_lit8 w2 5 .u8 [120] _ _ (by simp [vals]) (by simp [maxLen])
  have hcall := (hd2.old hb3).act (by have := HDS.out.1.sz; omega) HT.out (by omega) 2 0 (a := 2) ⟨by decide, by decide⟩ hat (by simp)
  rw [hdo] at hcall
  have HC3 := Lib.hid hcall
  have HW3 := Lib.hid hW3
  clear hd2 hc2 hh2 hdo hs2 hW3 hb3 hat hcall
  go_wp2_with fail
  rw [← HW3.out]
  refine HC3.out.mono ?_
  rintro r w4 ⟨rfl, C4, R4, hd4, hc4⟩

  have HD4 := Lib.hid hd4
  obtain ⟨D3, U3, n3, ho3, hf3, hr3, hs3, rfl, rfl⟩ := HS2.out.cut []
  have HO3 : Hid (sopen (dstart (dcut D2 [])) = (D3, 0) ∧ SDisk D3 U1s 1 1) := Lib.hid ⟨ho3, hs3⟩
  have HCU := Lib.hid (hd4.disk.cut (R := R4) (by have := HS2.out.sz; omega) (kv := .slice none 0 0) (ks := []) ⟨none, 0, rfl, by simp, by simp [maxLen], fun _ => rfl, .inl rfl⟩)
  simp only [errV_zero]
  clear hd4 hc4 ho3 hf3 hr3 hs3 hcv
  go_wp2_with fail
  refine HCU.out.mono ?_
  rintro r w5 ⟨rfl, C5, hd5, hc5⟩
  have HST := Lib.hid (hd5.start (R := fun _ => False))
  clear hd5 hc5
  go_wp2_with fail
  refine HST.out.mono ?_
  rintro r w6 ⟨rfl, C6, hd6, hc6⟩
  have HOP := Lib.hid (hd6.opens (R := fun _ => False) (by have := HS2.out.szc []; omega) (by omega) HT.out HO3.out.1 HO3.out.2)
  clear hd6 hc6
  go_wp2_with fail
  refine HOP.out.mono ?_
  rintro r w7 ⟨h7, C7, R7, rfl, hd7, hc7, hh7⟩
  have HD7 := Lib.hid hd7
  have hrd := hd7.read 0 (a := 2) ⟨by decide, by decide⟩
  rw [show sread D3 false U1s 0 2 = ((1, [120]), 0) by
    unfold sread sable
    rw [if_neg (by rw [if_neg (by decide), if_neg (by rw [HO3.out.2.1.up]; decide)]; exact fun h => h rfl)]
    decide +kernel] at hrd
  have HRD := Lib.hid hrd
  clear hd7 hc7 hh7 hrd
  go_wp2_with fail
  refine HRD.out.mono ?_
  rintro r w8 ⟨v, rfl, ho8, hb8⟩
  simp only at ho8
  obtain ⟨ao8, cap8, rfl, _, _, _⟩ := ho8.reads.val
  obtain ⟨W9, hW9⟩ : ∃ W9, W9 = w8.alloc (.cells #[.int .i64 1, .slice ao8 1 cap8] 79) := ⟨_, rfl⟩
  have hb9 : Below w8.heap.size w8 W9 := by rw [hW9]; exact (Below.refl _ _).alloc (Nat.le_refl _) _
  have hc1 := conv_reads _ _ W9 (ho8.reads.new hb9)
  rw [show strOfNums (([120] : List Nat).map (fun n : Nat => (n : Int))) = { data := #[120] } from rfl] at hc1
  have hc2 : (convert 46 9 (.slice ao8 1 cap8)).run Tryz.prog W9 = .ok (.string { data := #[120] }) W9 := hc1
  rw [hW9] at hc2
  have HB9 : Hid (Below w.heap.size w W9) := Lib.hid ((HD7.out.old (hb8.trans (hb9.mono hb8.size))).below)
  have HNX := Lib.hid (shnext_any (HD7.out.old (hb8.trans (hb9.mono hb8.size))))
  have HW9 := Lib.hid hW9
  simp only [errV_zero]
  clear ho8 hb8 hb9 hc1 hW9
  go_wp2_with fail
  rw [← HW9.out]
  refine HNX.out.mono ?_
  rintro r w10 ⟨rfl, rfl⟩
  go_wp2
  go_ret
  exact ⟨rfl, by first | exact HB9.out | (rw [← HW9.out]; exact HB9.out)⟩
end Go.Proofs.YteknibaappcgmaaGreatDoor
