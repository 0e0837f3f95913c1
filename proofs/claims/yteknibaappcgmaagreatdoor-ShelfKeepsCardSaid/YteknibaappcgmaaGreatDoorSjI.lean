/- A driven shelf whose power may go. -/
import Derived.Test.YteknibaappcgmaaGreatDoorSjG
namespace Go.Proofs.YteknibaappcgmaaGreatDoor
open Go.RowKit
theorem SDisk.fused {D : DS} {U : US} {n N : Nat} (h : SDisk D U n N) (v : Int) : SDisk { D with fuse := v } U n N := ⟨⟨h.1.up, h.1.chs, h.1.all, h.1.apart⟩, h.2⟩
theorem sdelBut_sz : ∀ (ns : List Nm) (d : DS) (b : Nm), (sdelBut d b ns).1.sz ≤ d.sz + 2 * ns.length
  | [], d, b => Nat.le_refl _
  | n :: r, d, b => by
    have h1 := sdelete_sz10 d n
    have h2 := sdelBut_sz r (sdelete d n).1 b
    have h3 := sdelBut_sz r d b
    rw [List.length_cons]
    unfold sdelBut
    split
    · omega
    · split
      · simp only; omega
      · omega
theorem scompact_sz (D : DS) (U : US) (n : Nat) (br : Bool) : (scompact D U n br).1.sz ≤ 3 * D.sz + 12 := by
  have h1 := sput_sz10 D (sname 98 n) (fr (utext U))
  unfold scompact
  split
  · simp only; omega
  · split
    · simp only; omega
    · split
      · simp only; omega
      · split
        · simp only; omega
        · unfold sclean
          split
          · simp only; omega
          · have h2 := sdelBut_sz (slist (sput D (sname 98 n) (fr (utext U))).1 []).1 (sput D (sname 98 n) (fr (utext U))).1 (sname 98 n)
            have h3 : (slist (sput D (sname 98 n) (fr (utext U))).1 []).1.length ≤ (sput D (sname 98 n) (fr (utext U))).1.sz := by
              have h4 := dlist_length (sput D (sname 98 n) (fr (utext U))).1
              unfold slist
              split
              · exact Nat.zero_le _
              · exact Nat.le_trans (List.length_filter_le _ _) h4
            show (sdelBut (sput D (sname 98 n) (fr (utext U))).1 (sname 98 n) (slist (sput D (sname 98 n) (fr (utext U))).1 []).1).1.sz ≤ 3 * D.sz + 12
            omega
theorem sdo_sz (D : DS) (U : US) (n : Nat) (br : Bool) (k e a : Int) (d : List Nat) : (sdoAct D U n br k e a d).2.1.sz ≤ D.sz + 4 := by
  have h1 := sput_sz10 D (sname 114 n) (fr (rtext k.toNat e.toNat a.toNat d))
  unfold sdoAct
  split
  · simp only; omega
  · split
    · simp only; omega
    · split
      · simp only; omega
      · split <;> (simp only; omega)
theorem picked_len : ∀ (cs : List Ch) (l : Fm (List Nat)) (ks : List Bool), (picked l cs ks).length ≤ l.length + cs.length
  | [], l, ks => by cases ks <;> exact Nat.le_refl _
  | c :: cs, l, [] => Nat.le_add_right _ _
  | c :: cs, l, k :: ks => by
    have h1 := picked_len cs (if k then capply l c else l) ks
    have h2 := capply_length l c
    show (picked (if k then capply l c else l) cs ks).length ≤ _
    rw [List.length_cons]
    cases k
    · simp only [Bool.false_eq_true, if_false] at h1 ⊢; omega
    · simp only [if_true] at h1 ⊢; omega
theorem cut_sz (D : DS) (ks : List Bool) : (dstart (dcut D ks)).sz ≤ D.sz := by
  have h := picked_len D.chs D.sure ks
  unfold DS.sz dstart dcut
  simp only [if_true, List.length_nil]
  omega
/-- A shelf with power, and a fuse perhaps. -/
structure Kst (w wr : World) (C R : Nat → Prop) (p h : Nat) (D : DS) (U : US) (n N : Nat) : Prop where
  drs : Drs w wr C R p h D U n false
  says : SDisk D U n N
  room : D.room = 16777216
  le : n ≤ N
/-- A shelf without power: opened anew it has one of two units. -/
structure Kbr (w wr : World) (C R : Nat → Prop) (p h : Nat) (D : DS) (U1 U2 : US) (N : Nat) : Prop where
  drs : ∃ U n, Drs w wr C R p h D U n true ∧ n ≤ N
  down : D.down = true
  room : D.room = 16777216
  sz : D.sz ≤ 5000
  goes : SReop D N fun V m => (V = U1 ∨ V = U2) ∧ m ≤ N
section
variable {w0 w w' : World} {C R : Nat → Prop} {p h : Nat} {D : DS} {U U1 U2 : US} {n N : Nat}
theorem Kst.old (b : Kst w0 w C R p h D U n N) (hb : Below w.heap.size w w') : Kst w0 w' C R p h D U n N := ⟨b.drs.old hb, b.says, b.room, b.le⟩
theorem Kst.fr {T : Nat → Prop} (b : Kst w0 w C R p h D U n N) (hf : Fr T w w') (hT : ∀ j, T j → ¬ C j ∧ ¬ R j ∧ w0.heap.size ≤ j) : Kst w0 w' C R p h D U n N := ⟨b.drs.fr hf hT, b.says, b.room, b.le⟩
theorem Kst.upto {N' : Nat} (b : Kst w0 w C R p h D U n N) (hN : N ≤ N') : Kst w0 w C R p h D U n N' := ⟨b.drs, b.says.more hN, b.room, Nat.le_trans b.le hN⟩
theorem Kst.fuse (b : Kst w0 w C R p h D U n N) (v : Int) (h0 : 0 ≤ v) (hn : v ≤ 9223372036854775807) :
    Calls Tryz.prog 16 #[.pointer (some ⟨p, 0, none⟩), .int .i64 v] w fun e w' => e = .returned .nilIface ∧ Kst w0 w' C R p h { D with fuse := v } U n N ∧ Chg C R C R w w' :=
  (b.drs.fuse v h0 hn).mono fun _ _ hp => ⟨hp.1, ⟨hp.2.1, b.says.fused v, b.room, b.le⟩, hp.2.2⟩
def KPost (w0 w : World) (C R : Nat → Prop) (p h : Nat) (U : US) (X : Int × US × Nat) (N : Nat) (x : Int) (c : Nat) (w' : World) : Prop :=
  (c ≠ 14 ∧ x = X.1 ∧ c = X.2.2 ∧ ∃ (C' R' : Nat → Prop) (D : DS) (n : Nat), Kst w0 w' C' R' p h D X.2.1 n N ∧ Chg C R C' R' w w') ∨
  (c = 14 ∧ x = 0 ∧ X.2.2 = 0 ∧ ∃ (C' R' : Nat → Prop) (D : DS), Kbr w0 w' C' R' p h D U X.2.1 N ∧ Chg C R C' R' w w')
def KActPost (w0 w : World) (C R : Nat → Prop) (p h : Nat) (U : US) (X : Int × US × Nat) (N : Nat) (r : Ending) (w' : World) : Prop :=
  ∃ x c, r = .returned (.tuple #[.int .i64 x, errV c]) ∧ KPost w0 w C R p h U X N x c w'
theorem Kst.act (b : Kst w0 w C R p h D U n N) (hN : N ≤ 150) (ht : Tens w0) (k e : Int) {a : Int} (ha : I64 a) {v : Value} {dd : List Nat} (hv : Reads w .u8 v dd) (h8 : ∀ y ∈ dd, y < 256) :
    Calls Tryz.prog 19 #[.pointer (some ⟨h, 0, none⟩), .agg #[.int .i64 k, .int .i64 e, .int .i64 a, v]] w (KActPost w0 w C R p h U (rapply U k e a dd) (N + 1)) := by
  have hle := b.le
  have hsz := b.says.sz
  have h1 := sdo_room (k := k) (e := e) (a := a) (d := dd) b.says (by omega) (by omega) b.drs.small (by rw [b.room]; omega)
  have h3 := (sdo_roomD (U := U) (next := n) D false k e a dd).trans b.room
  have h5 := sdo_sz D U n false k e a dd
  have h4 := sdo_cases k e a b.says h8
  have hc := b.drs.act (by omega) ht (by omega) k e ha hv h8
  obtain ⟨X, hX⟩ : ∃ X, X = sdoAct D U n false k e a dd := ⟨_, rfl⟩
  rw [← hX] at h1 h3 h4 h5 hc
  obtain ⟨x1, x2, x3, x4, x5, x6⟩ := X
  simp only at h1 h3 h4 h5 hc
  refine hc.mono fun r w' hp => ?_
  obtain ⟨hr, C', R', hd, hch⟩ := hp
  rcases h4 with ⟨c1, c2, c3, c4, c5, c6, c7⟩ | ⟨c1, c2, c3, c4, c5, c6, c7⟩ | ⟨c1, c2, c3, c4, c5, c6, c7, c8, c9⟩
  · subst c1 c3 c4 c5 c6
    exact ⟨_, _, hr, .inl ⟨by decide, rfl, c2.symm, C', R', x2, n + 1, ⟨hd, c7, h3, by omega⟩, hch⟩⟩
  · rcases h1 with h1 | h1
    rotate_left
    · exact absurd h1.1 c2
    obtain ⟨z1, z2⟩ := rapply_bad (U := U) (k := k) (e := e) (a := a) (d := dd) (by rw [← h1]; exact c1)
    subst c3 c4 c5 c6 h1
    exact ⟨_, _, hr, .inl ⟨c2, z1.symm, rfl, C', R', x2, x4, ⟨by rw [z2]; exact hd, by rw [z2]; exact c7.more (Nat.le_succ _), h3, by omega⟩, hch⟩⟩
  · subst c1 c3 c4 c5 c6
    refine ⟨_, _, hr, .inr ⟨rfl, rfl, c2, C', R', x2, ⟨⟨x3, x4, hd, by omega⟩, c7, h3, by omega, fun ks => ?_⟩, hch⟩⟩
    obtain ⟨D', V, m, k1, k2, k3, k4, k5⟩ := c9 ks
    refine ⟨D', V, m, k1, k2, k3, k4, ?_⟩
    rcases k5 with ⟨rfl, rfl⟩ | ⟨rfl, rfl⟩
    · exact ⟨.inl rfl, by omega⟩
    · exact ⟨.inr rfl, by omega⟩
/-- With power and one unit, or without. -/
def Kany (w0 w : World) (C R : Nat → Prop) (p h : Nat) (U1 U2 : US) (N : Nat) : Prop :=
  (U1 = U2 ∧ ∃ D n, Kst w0 w C R p h D U1 n N) ∨ ∃ D, Kbr w0 w C R p h D U1 U2 N
theorem Kany.old (b : Kany w0 w C R p h U1 U2 N) (hb : Below w.heap.size w w') : Kany w0 w' C R p h U1 U2 N := by
  rcases b with ⟨e, D, n, b⟩ | ⟨D, ⟨U, n, b, hn⟩, h1, h2, h3, h4⟩
  · exact .inl ⟨e, D, n, b.old hb⟩
  · exact .inr ⟨D, ⟨U, n, b.old hb, hn⟩, h1, h2, h3, h4⟩
theorem Kany.upto {N' : Nat} (b : Kany w0 w C R p h U1 U2 N) (hN : N ≤ N') : Kany w0 w C R p h U1 U2 N' := by
  rcases b with ⟨e, D, n, b⟩ | ⟨D, ⟨U, n, b, hn⟩, h1, h2, h3, h4⟩
  · exact .inl ⟨e, D, n, b.upto hN⟩
  · exact .inr ⟨D, ⟨U, n, b, by omega⟩, h1, h2, h3, fun ks => by
      obtain ⟨D', V, m, k1, k2, k3, k4, k5, k6⟩ := h4 ks
      exact ⟨D', V, m, k1, k2, k3, k4.more hN, k5, by omega⟩⟩
theorem Kany.below (b : Kany w0 w C R p h U1 U2 N) : Below w0.heap.size w0 w := by
  rcases b with ⟨e, D, n, b⟩ | ⟨D, ⟨U, n, b, hn⟩, _⟩
  · exact b.drs.below
  · exact b.below
theorem Kany.compact (b : Kany w0 w C R p h U1 U2 N) (hN : N ≤ 150) (ht : Tens w0) :
    Calls Tryz.prog 21 #[.pointer (some ⟨h, 0, none⟩)] w fun r w' => (∃ c, r = .returned (errV c)) ∧ ∃ C' R' : Nat → Prop, Kany w0 w' C' R' p h U1 U2 (N + 1) ∧ Chg C R C' R' w w' := by
  rcases b with ⟨rfl, D, n, b⟩ | ⟨D, ⟨U, n, b, hn⟩, h1, h2, h3, h4⟩
  · have hle := b.le
    have hsz := b.says.sz
    have hz := scompact_sz D U1 n false
    have hrm := (scompact_room D U1 n false).trans b.room
    have hcs := scompact_cases b.says b.drs.uok
    refine (b.drs.compact (by omega) ht (by omega)).mono fun r w' hp => ⟨⟨_, hp.1⟩, ?_⟩
    obtain ⟨_, C', R', hd, hch⟩ := hp
    rcases hcs with ⟨c1, c2, c3⟩ | ⟨c1, c2, c3, c4⟩
    · rw [c2] at hd
      exact ⟨C', R', .inl ⟨rfl, _, n, hd, c3, hrm, by omega⟩, hch⟩
    · rw [c2] at hd
      refine ⟨C', R', .inr ⟨_, ⟨U1, n, hd, by omega⟩, c3, hrm, by omega, fun ks => ?_⟩, hch⟩
      obtain ⟨D', V, m, k1, k2, k3, k4, rfl, rfl⟩ := c4 ks
      exact ⟨D', V, m, k1, k2, k3, k4, .inl rfl, by omega⟩
  · refine (b.compact (by omega) ht (by have := hN; omega)).mono fun r w' hp => ⟨⟨_, hp.1⟩, ?_⟩
    obtain ⟨_, C', R', hd, hch⟩ := hp
    exact ⟨C', R', Kany.upto (.inr ⟨D, ⟨U, n, hd, hn⟩, h1, h2, h3, h4⟩) (Nat.le_succ _), hch⟩
theorem Kbr.cut (b : Kbr w0 w C R p h D U1 U2 N) {kv : Value} {ks : List Bool} (hkv : RowV w0 (fun j => j < w0.heap.size) kv (ks.map Value.bool)) :
    Calls Tryz.prog 23 #[.pointer (some ⟨p, 0, none⟩), kv] w fun e w' => e = .returned (.tuple #[]) ∧ DdkPost w0 w C R p (dcut D ks) w' := by
  obtain ⟨U, n, d, _⟩ := b.drs
  exact d.disk.cut (by have := b.sz; omega) ((hkv.keep (kept_below d.below)).mono fun j _ hj hc => Nat.not_le_of_lt hj (d.ge j (.inl hc)))
theorem Kbr.start {w1 : World} {C1 : Nat → Prop} {ks : List Bool} (d : Ddk w0 w1 C1 p (dcut D ks)) :
    Calls Tryz.prog 24 #[.pointer (some ⟨p, 0, none⟩)] w1 fun e w' => e = .returned (.tuple #[]) ∧ DdkPost w0 w1 C1 (fun _ => False) p (dstart (dcut D ks)) w' := d.start
theorem Kbr.opens {w1 : World} {C1 : Nat → Prop} {ks : List Bool} (b : Kbr w0 w C R p h D U1 U2 N) (hN : N ≤ 150) (ht : Tens w0) (d : Ddk w0 w1 C1 p (dstart (dcut D ks))) :
    Calls Tryz.prog 14 #[.pointer (some ⟨p, 0, none⟩)] w1 fun e w' => ∃ h, e = .returned (.tuple #[.pointer (some ⟨h, 0, none⟩), .nilIface]) ∧ ∃ (C' R2 : Nat → Prop) (D : DS) (V : US) (n : Nat), Kst w0 w' C' R2 p h D V n N ∧ (V = U1 ∨ V = U2) ∧ Chg C1 (fun _ => False) C' R2 w1 w' := by
  obtain ⟨D', V, m, k1, k2, k3, k4, k5, k6⟩ := b.goes ks
  refine (d.opens (R := fun _ => False) (by have := cut_sz D ks; have := b.sz; omega) (by omega) ht k1 k4).mono fun e w' hp => ?_
  obtain ⟨h2, C2, R2, he, hd, hch, _⟩ := hp
  exact ⟨h2, he, C2, R2, D', V, m, ⟨hd, k4, k3.trans b.room, k6⟩, k5, hch⟩
/-- The shelf, and the law's two units, behind an act. -/
def Kend (w0 w : World) (C R : Nat → Prop) (p h pu mu : Nat) (U1 : US) (pl ml : Nat) (U2 : US) (N : Nat) : Prop :=
  Kany w0 w C R p h U1 U2 N ∧ Lun w C R pu mu U1 ∧ Lun w C R pl ml U2 ∧ w0.heap.size ≤ pu ∧ w0.heap.size ≤ mu
section
variable {pu mu pl ml : Nat}
theorem Kend.more (b : Kend w0 w C R p h pu mu U1 pl ml U2 N) : ∃ C' R' : Nat → Prop, Kend w0 w C' R' p h pu mu U1 pl ml U2 (N + 1) := ⟨C, R, b.1.upto (Nat.le_succ _), b.2⟩
theorem Kend.compact (b : Kend w0 w C R p h pu mu U1 pl ml U2 N) (hN : N ≤ 150) (ht : Tens w0) :
    Calls Tryz.prog 21 #[.pointer (some ⟨h, 0, none⟩)] w fun r w' => (∃ c, r = .returned (errV c)) ∧ ∃ C' R' : Nat → Prop, Kend w0 w' C' R' p h pu mu U1 pl ml U2 (N + 1) :=
  (b.1.compact hN ht).mono fun r w' hp => by
    obtain ⟨hc, C', R', hk, hch⟩ := hp
    exact ⟨hc, C', R', hk, b.2.1.chg hch, b.2.2.1.chg hch, b.2.2.2⟩
theorem Kend.cases (b : Kend w0 w C R p h pu mu U1 pl ml U2 N) : (∃ D n, Kst w0 w C R p h D U1 n N ∧ Lun w C R pu mu U1 ∧ w0.heap.size ≤ pu ∧ w0.heap.size ≤ mu) ∨ ∃ D, Kbr w0 w C R p h D U1 U2 N ∧ Lun w C R pu mu U1 ∧ Lun w C R pl ml U2 := by
  obtain ⟨h1, h2, h3, h4⟩ := b
  rcases h1 with ⟨rfl, D, n, k⟩ | ⟨D, k⟩
  · exact .inl ⟨D, n, k, h2, h4⟩
  · exact .inr ⟨D, k, h2, h3⟩
theorem Kbr.downD (b : Kbr w0 w C R p h D U1 U2 N) : Calls Tryz.prog 22 #[.pointer (some ⟨p, 0, none⟩)] w fun e w' => e = .returned (.bool true) ∧ w' = w := by
  obtain ⟨U, n, d, _⟩ := b.drs
  have k := d.disk.down
  rw [b.down] at k
  exact k
theorem Kst.downD (b : Kst w0 w C R p h D U n N) : Calls Tryz.prog 22 #[.pointer (some ⟨p, 0, none⟩)] w fun e w' => e = .returned (.bool false) ∧ w' = w := by
  have k := b.drs.disk.down
  rw [b.says.1.up] at k
  exact k
end
end
end Go.Proofs.YteknibaappcgmaaGreatDoor
