/- A calm driven shelf; a law's unit beside it. -/
import Derived.Test.YteknibaappcgmaaGreatDoorSfP
import Derived.Test.YteknibaappcgmaaGreatDoorUfP
namespace Go.Proofs.YteknibaappcgmaaGreatDoor
open Go.RowKit
/-- A calm shelf with room, behind at most N acts. -/
structure Bst (w wr : World) (C R : Nat → Prop) (p h : Nat) (D : DS) (U : US) (n N : Nat) : Prop where
  drs : Drs w wr C R p h D U n false
  says : SDisk D U n N
  fuse : D.fuse = -1
  room : D.room = 16777216
  le : n ≤ N
  few : U.cells.length ≤ N
section
variable {w0 w w' : World} {C R : Nat → Prop} {p h : Nat} {D : DS} {U : US} {n N : Nat}
theorem Bst.old (b : Bst w0 w C R p h D U n N) (hb : Below w.heap.size w w') : Bst w0 w' C R p h D U n N := ⟨b.drs.old hb, b.says, b.fuse, b.room, b.le, b.few⟩
theorem Bst.fr {T : Nat → Prop} (b : Bst w0 w C R p h D U n N) (hf : Fr T w w') (hT : ∀ j, T j → ¬ C j ∧ ¬ R j ∧ w0.heap.size ≤ j) : Bst w0 w' C R p h D U n N := ⟨b.drs.fr hf hT, b.says, b.fuse, b.room, b.le, b.few⟩
theorem Bst.upto {N' : Nat} (b : Bst w0 w C R p h D U n N) (hN : N ≤ N') : Bst w0 w C R p h D U n N' := ⟨b.drs, b.says.more hN, b.fuse, b.room, Nat.le_trans b.le hN, Nat.le_trans b.few hN⟩
def BstPost (w0 w : World) (C R : Nat → Prop) (p h : Nat) (U : US) (N : Nat) (w' : World) : Prop :=
  ∃ (C' R' : Nat → Prop) (D : DS) (n : Nat), Bst w0 w' C' R' p h D U n N ∧ Chg C R C' R' w w'
theorem Bst.act (b : Bst w0 w C R p h D U n N) (hN : N ≤ 150) (ht : Tens w0) (k e : Int) {a : Int} (ha : I64 a) {v : Value} {dd : List Nat} (hv : Reads w .u8 v dd) (h8 : ∀ y ∈ dd, y < 256) :
    Calls Tryz.prog 19 #[.pointer (some ⟨h, 0, none⟩), .agg #[.int .i64 k, .int .i64 e, .int .i64 a, v]] w fun r w' => r = .returned (.tuple #[.int .i64 (rapply U k e a dd).1, errV (rapply U k e a dd).2.2]) ∧
      BstPost w0 w C R p h (rapply U k e a dd).2.1 (N + 1) w' := by
  have hle := b.le
  obtain ⟨D', n', e1, e2, e3, e4, e5⟩ := sdo_calm (k := k) (e := e) (a := a) b.says b.fuse (by omega) (by omega) b.drs.small (by rw [b.room]; omega) h8
  have hc := b.drs.act (by have := b.says.sz; omega) ht (by omega) k e ha hv h8
  rw [e1] at hc
  refine hc.mono fun r w' hp => ⟨hp.1, ?_⟩
  obtain ⟨C', R', hd, hch⟩ := hp.2
  exact ⟨C', R', D', n', ⟨hd, e2, e3, e4.trans b.room, by omega, Nat.le_trans (rapply_len _ _ _ _ _) (by have := b.few; omega)⟩, hch⟩
/-- A calm disk alone. -/
structure Cst (w wr : World) (C : Nat → Prop) (p : Nat) (D : DS) (U : US) (n N : Nat) : Prop where
  disk : Ddk w wr C p D
  goes : ∃ D', sopen D = (D', 0) ∧ SDisk D' U n N ∧ D'.fuse = -1 ∧ D'.room = 16777216
  sz : D.sz ≤ 1000
  le : n ≤ N
  few : U.cells.length ≤ N
theorem Bst.cutC (b : Bst w0 w C R p h D U n N) (hN : N ≤ 150) : Calls Tryz.prog 23 #[.pointer (some ⟨p, 0, none⟩), .slice none 0 0] w fun e w' => e = .returned (.tuple #[]) ∧ DdkPost w0 w C R p (dcut D []) w' :=
  b.drs.disk.cut (by have := b.says.sz; omega) (kv := .slice none 0 0) (ks := []) ⟨none, 0, rfl, by simp, by simp [maxLen], fun _ => rfl, .inl rfl⟩
theorem Bst.startC {w1 : World} {C1 : Nat → Prop} (b : Bst w0 w C R p h D U n N) (hN : N ≤ 150) (d : Ddk w0 w1 C1 p (dcut D [])) : Calls Tryz.prog 24 #[.pointer (some ⟨p, 0, none⟩)] w1 fun e w' => e = .returned (.tuple #[]) ∧ ∃ C', Cst w0 w' C' p (dstart (dcut D [])) U n N ∧ Chg C1 (fun _ => False) C' (fun _ => False) w1 w' := by
  refine (d.start (R := fun _ => False)).mono fun e w' hp => ⟨hp.1, ?_⟩
  obtain ⟨C', hd, hc⟩ := hp.2
  obtain ⟨D3, U3, n3, ho3, hf3, hr3, hs3, rfl, rfl⟩ := b.says.cut []
  refine ⟨C', ⟨hd, ⟨D3, ho3, hs3, hf3, hr3.trans b.room⟩, ?_, b.le, b.few⟩, hc⟩
  have := b.says.szc []
  omega
theorem Cst.open {R' : Nat → Prop} (c : Cst w0 w C p D U n N) (hN : N ≤ 150) (ht : Tens w0) : Calls Tryz.prog 14 #[.pointer (some ⟨p, 0, none⟩)] w fun e w' => ∃ h, e = .returned (.tuple #[.pointer (some ⟨h, 0, none⟩), .nilIface]) ∧ ∃ (C' R2 : Nat → Prop) (D : DS), Bst w0 w' C' R2 p h D U n N ∧ Chg C R' C' R2 w w' := by
  obtain ⟨D', ho, hs, hf, hr⟩ := c.goes
  refine (c.disk.opens (R := R') (by have := c.sz; omega) (by omega) ht ho hs).mono fun e w' hp => ?_
  obtain ⟨h, C2, R2, he, hd, hch, _⟩ := hp
  exact ⟨h, he, C2, R2, D', ⟨hd, hs, hf, hr, c.le, c.few⟩, hch⟩
/-- A new disk, opened. -/
theorem cst_new {w1 : World} (hb : Below w0.heap.size w0 w1) (hd : Dk w (fun j => j = w1.heap.size) w1.heap.size (dnew 16777216)) (hb2 : Below w1.heap.size w1 w) : Cst w0 w (fun j => j = w1.heap.size) w1.heap.size (dnew 16777216) unew 0 0 := by
  obtain ⟨D1, ho1, hs1, hf1, hr1, hu1⟩ := (sdisk_new 16777216).sopen rfl
  exact ⟨ddk_new hb hd hb2, ⟨D1, ho1, hs1, hf1, hr1⟩, by decide, by omega, by decide⟩
/-- A base is all that is left. -/
theorem Bst.base (b : Bst w0 w C R p h D U n N) (hN : N ≤ 150) (ht : Tens w0) :
    Calls Tryz.prog 21 #[.pointer (some ⟨h, 0, none⟩)] w fun r w' => r = .returned .nilIface ∧ ∃ (C' R' : Nat → Prop) (D : DS), Bst w0 w' C' R' p h D U n (N + 1) ∧ dlist D = ([sname 98 n], 0) ∧ Chg C R C' R' w w' := by
  have hle := b.le
  have hfew := b.few
  have hul := utext_len b.drs.uok (by omega)
  obtain ⟨c1, c2, c3, c4, c5, c6⟩ := scompact_calm b.says b.fuse (by omega) (by omega) b.drs.small b.room b.drs.uok (by omega)
  refine (b.drs.compact (by have := b.says.sz; omega) ht (by omega)).mono fun r w' hp => ?_
  rw [c1] at hp
  obtain ⟨hr, C', R', hd, hch⟩ := hp
  rw [c2] at hd
  refine ⟨hr, C', R', (scompact D U n false).1, ⟨hd, c6.more (by omega), c4, c5, by omega, by omega⟩, ?_, hch⟩
  rw [dlist_up c6.1.up, c6.1.shown, c3]
  simp [srt]
theorem Lun.out {u m : Nat} {V : US} (l : Lun w C R u m V) : ¬ C u ∧ ¬ R u ∧ ¬ C m ∧ ¬ R m := by
  obtain ⟨B, h1, h2, h3⟩ := l
  exact ⟨(h2 u (.inl rfl)).1, (h2 u (.inl rfl)).2, (h2 m (.inr rfl)).1, (h2 m (.inr rfl)).2⟩
/-- An act is done to a law's unit. -/
theorem Lun.apply {u m : Nat} {V : US} (l : Lun w C R u m V) (k e : Int) {a : Int} (ha : I64 a) {v : Value} {dd : List Nat} (hv : Reads w .u8 v dd) (h8 : ∀ y ∈ dd, y < 256) :
    Calls Tryz.prog 18 #[.pointer (some ⟨u, 0, none⟩), .agg #[.int .i64 k, .int .i64 e, .int .i64 a, v]] w fun r w' => r = .returned (.tuple #[.int .i64 (rapply V k e a dd).1, errV (rapply V k e a dd).2.2]) ∧ Lun w' (fun j => C j ∧ j < w.heap.size) R u m (rapply V k e a dd).2.1 ∧ Fr (fun j => j = u ∨ j = m) w w' := by
  obtain ⟨B, h1, h2, h3⟩ := l
  have hu := h2 u (.inl rfl)
  refine (rapply_any h1 k e ha hv h8).mono fun r w' hp => ⟨hp.1, ⟨fun j => (B j ∨ w.heap.size ≤ j) ∧ j < w'.heap.size, hp.2.1.more (fun j hj hB => ⟨hB, hj⟩) (fun hc => hp.2.1.nu hc.1) (fun hc => hp.2.1.nm hc.1), fun j hj => ⟨fun hc => (h2 j hj).1 hc.1, (h2 j hj).2⟩, fun j hj => ⟨fun hc => ?_, hj.2⟩⟩, hp.2.2⟩
  rcases hj.1 with hB | hB
  · exact (h3 j hB).1 hc.1
  · omega
theorem Lun.sub {C2 R2 : Nat → Prop} {u m : Nat} {V : US} (l : Lun w C R u m V) (hC : ∀ j, C2 j → C j) (hR : ∀ j, R2 j → R j) : Lun w C2 R2 u m V := by
  obtain ⟨B, h1, h2, h3⟩ := l
  exact ⟨B, h1, fun j hj => ⟨fun hc => (h2 j hj).1 (hC j hc), fun hc => (h2 j hj).2 (hR j hc)⟩, fun j hj => ⟨fun hc => (h3 j hj).1 (hC j hc), (h3 j hj).2⟩⟩
theorem Lun.same {u m u2 m2 : Nat} {V V2 : US} {C2 R2 : Nat → Prop} (l : Lun w C R u m V) (l2 : Lun w C2 R2 u2 m2 V2) : Calls Tryz.prog 26 #[.pointer (some ⟨u, 0, none⟩), .pointer (some ⟨u2, 0, none⟩)] w fun r w' => r = .returned (.bool (sameUS V V2)) ∧ Below w.heap.size w w' := by
  obtain ⟨B, h1, _⟩ := l
  obtain ⟨B2, h2, _⟩ := l2
  exact usame_any h1 h2
theorem Lun.copy {u m : Nat} {V : US} (l : Lun w C R u m V) (hCR : ∀ j, C j ∨ R j → j < w.heap.size) : Calls Tryz.prog 17 #[.pointer (some ⟨u, 0, none⟩)] w fun r w' => ∃ u' m', r = .returned (.pointer (some ⟨u', 0, none⟩)) ∧ Lun w' C R u' m' V ∧ w.heap.size ≤ u' ∧ w.heap.size ≤ m' ∧ Below w.heap.size w w' := by
  obtain ⟨B, h1, h2, h3⟩ := l
  refine (ucopy_any h1 fun j hj => (h3 j hj).2).mono fun r w' hp => ?_
  obtain ⟨u', m', hr, hu, g1, g2, hb⟩ := hp
  refine ⟨u', m', hr, ⟨B, hu, ?_, fun j hj => ⟨(h3 j hj).1, Nat.lt_of_lt_of_le (h3 j hj).2 hb.size⟩⟩, g1, g2, hb⟩
  rintro j (rfl | rfl)
  · exact ⟨fun hc => by have := hCR _ (.inl hc); omega, fun hc => by have := hCR _ (.inr hc); omega⟩
  · exact ⟨fun hc => by have := hCR _ (.inl hc); omega, fun hc => by have := hCR _ (.inr hc); omega⟩
end
end Go.Proofs.YteknibaappcgmaaGreatDoor
