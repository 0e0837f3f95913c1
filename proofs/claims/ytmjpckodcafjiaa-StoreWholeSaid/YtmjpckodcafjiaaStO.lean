/- For StoreWhole, mathematics: a put and a delete end whole, or as they were; a cut within leaves one of both. -/
import Derived.Test.YtmjpckodcafjiaaStN
namespace Go.Proofs.Ytmjpckodcafjiaa
open Go.RowKit

/-- One change, or none. -/
def OneCh (d : DS) (c : Ch) (r : DS × Nat) : Prop :=
  r.1.sure = d.sure ∧ ((r.2 = 14 ∧ r.1.chs = []) ∨ (r.2 ≠ 0 ∧ r.2 ≠ 14 ∧ r.1.chs = [] ∧ r.1.down = false) ∨ (r.2 = 0 ∧ r.1.chs = [c] ∧ r.1.down = false))
theorem one_of {d : DS} {c : Ch} {r : DS × Nat} (hk : r.1.sure = d.sure ∧ ((r.2 = 0 ∧ r.1.chs = d.chs ++ [c]) ∨ (r.2 ≠ 0 ∧ r.1.chs = d.chs))) (ho : OpOk d r) (h1 : d.down = false) (h2 : d.chs = []) : OneCh d c r := by
  obtain ⟨k1, k2⟩ := hk
  rw [h2] at k2
  refine ⟨k1, ?_⟩
  by_cases hd : d.dead
  · have h3 := (ho.dead hd).1
    rcases k2 with ⟨z, _⟩ | ⟨_, z⟩
    · rw [h3] at z; cases z
    · exact .inl ⟨h3, z⟩
  · obtain ⟨q1, q2, _⟩ := ho.alive hd
    rcases k2 with ⟨z, y⟩ | ⟨z, y⟩
    · exact .inr (.inr ⟨z, y, q2.trans h1⟩)
    · exact .inr (.inl ⟨z, q1, y, q2.trans h1⟩)
theorem sync_one {d : DS} {c : Ch} (h1 : d.down = false) (h2 : d.chs = [c]) :
    ((dsync d).2 = 14 ∧ (dsync d).1.sure = d.sure ∧ (dsync d).1.chs = [c]) ∨ ((dsync d).2 = 0 ∧ (dsync d).1.sure = capply d.sure c ∧ (dsync d).1.chs = [] ∧ (dsync d).1.down = false) := by
  have hs : d.shown = capply d.sure c := by unfold DS.shown; rw [h2]; rfl
  by_cases hd : d.dead
  · left
    have e : dsync d = ({ d with down := true }, 14) := by
      unfold dsync
      rw [dwork_dead hd, if_pos (by simp)]
    rw [e]
    exact ⟨rfl, rfl, h2⟩
  · right
    have e : dsync d = ({ d with sure := d.shown, chs := [], fuse := if d.fuse = -1 then -1 else d.fuse - 1 }, 0) := by
      unfold dsync
      rw [dwork_alive hd, if_neg (by simp)]
    rw [e]
    exact ⟨rfl, hs, rfl, h1⟩
theorem picked_one (S : Fm (List Nat)) (c : Ch) : ∀ ks, picked S [c] ks = S ∨ picked S [c] ks = capply S c
  | [] => .inl rfl
  | k :: ks => by
    cases k
    · left; cases ks <;> rfl
    · right; cases ks <;> rfl
theorem picked_none (S : Fm (List Nat)) (ks : List Bool) : picked S [] ks = S := by cases ks <;> rfl

/-- How a put or a delete ends. -/
def Next (d : DS) (S : Fm (List Nat)) (r : DS × Nat) : Prop :=
  (r.2 = 0 ∧ Fine r.1 ∧ r.1.sure = S) ∨ (r.2 ≠ 0 ∧ r.2 ≠ 14 ∧ Fine r.1 ∧ r.1.sure = d.sure) ∨ (r.2 = 14 ∧ Reopens r.1 d.sure S)
/-- What may lie there behind a cut. -/
structure MayLie (A B P : Fm (List Nat)) : Prop where
  named : ∀ f ∈ P, named f.1 = true
  apart : Apart P
  is : P.filter (fun f => !tildeN f.1) = A ∨ P.filter (fun f => !tildeN f.1) = B
theorem reopens_may {d : DS} {A B : Fm (List Nat)} (hA : ∀ f ∈ A, snamed f.1 = true) (hB : ∀ f ∈ B, snamed f.1 = true) (hpA : Apart A) (hpB : Apart B) (h : ∀ ks, MayLie A B (picked d.sure d.chs ks)) : Reopens d A B :=
  reopens_of hA hB hpA hpB fun ks => ⟨(h ks).named, (h ks).apart, (h ks).is⟩

theorem delete_next {d : DS} (h : Fine d) (n : Nm) : Next d (fdel d.sure n) (sdelete d n) := by
  have hB : ∀ f ∈ fdel d.sure n, snamed f.1 = true := fun f hf => h.all f (mem_fdel hf)
  have hpB := h.apart.del n
  have mA : MayLie d.sure (fdel d.sure n) d.sure := ⟨fun f hf => snamed_named (h.all f hf), h.apart, .inl (keep_all h.all)⟩
  have mB : MayLie d.sure (fdel d.sure n) (fdel d.sure n) := ⟨fun f hf => snamed_named (hB f hf), hpB, .inr (keep_all hB)⟩
  unfold sdelete
  split
  · exact .inr (.inl ⟨by simp, by simp, h, rfl⟩)
  · obtain ⟨e1, e2⟩ := one_of (dremove_keeps d n) (opOk_remove d n) h.up h.chs
    rcases e2 with ⟨z, y⟩ | ⟨z, z2, y, u⟩ | ⟨z, y, u⟩
    · rw [if_pos (by rw [z]; decide)]
      exact .inr (.inr ⟨z, reopens_may h.all hB h.apart hpB fun ks => by rw [y, e1, picked_none]; exact mA⟩)
    · rw [if_pos z]
      exact .inr (.inl ⟨z, z2, ⟨u, y, by rw [e1]; exact h.all, by rw [e1]; exact h.apart⟩, e1⟩)
    · rw [if_neg (by rw [z]; decide)]
      have hc : capply d.sure ⟨2, n, [], []⟩ = fdel d.sure n := by
        unfold capply
        rw [if_neg (show ¬ ((2 : Nat) = 0) from by decide)]
        cases hg : fget d.sure n with
        | none => simp only; exact (fdel_none hg).symm
        | some t => simp only; rfl
      rcases sync_one u y with ⟨a1, a2, a3⟩ | ⟨a1, a2, a3, a4⟩
      · refine .inr (.inr ⟨a1, reopens_may h.all hB h.apart hpB fun ks => ?_⟩)
        rw [a2, a3, e1]
        rcases picked_one d.sure ⟨2, n, [], []⟩ ks with e | e
        · rw [e]; exact mA
        · rw [e, hc]; exact mB
      · rw [e1, hc] at a2
        exact .inl ⟨a1, ⟨a4, a3, by rw [a2]; exact hB, by rw [a2]; exact hpB⟩, a2⟩

theorem rename_zero {d : DS} {a b : Nm} (hd : ¬ d.dead) (ha : named a = true) (hb : named b = true) (hh : fhas d.shown a = true) : (drename d a b).2 = 0 := by
  unfold drename
  rw [dwork_alive hd, if_neg (by simp), if_neg (by rw [ha, hb]; simp), if_neg (by rw [hh]; simp)]

theorem put_next {d : DS} (h : Fine d) (n : Nm) (b : List Nat) : Next d (fput d.sure n b) (sput d n b) := by
  unfold sput
  split
  · exact .inr (.inl ⟨by simp, by simp, h, rfl⟩)
  · rename_i hsn
    have hn : snamed n = true := by simpa using hsn
    have hB := all_put h.all hn b
    have hpB := h.apart.put n b
    have hpT := h.apart.put (til :: n) b
    have mA : MayLie d.sure (fput d.sure n b) d.sure := ⟨fun f hf => snamed_named (h.all f hf), h.apart, .inl (keep_all h.all)⟩
    have mB : MayLie d.sure (fput d.sure n b) (fput d.sure n b) := ⟨fun f hf => snamed_named (hB f hf), hpB, .inr (keep_all hB)⟩
    have mT : MayLie d.sure (fput d.sure n b) (fput d.sure (til :: n) b) := ⟨fun f hf => by
      rcases mem_fput hf with rfl | hf
      · exact til_named hn
      · exact snamed_named (h.all f hf), hpT, .inl (keep_til h.all n b)⟩
    obtain ⟨e1, e2⟩ := one_of (dwrite_keeps d (til :: n) b) (opOk_write d (til :: n) b) h.up h.chs
    rcases e2 with ⟨z, y⟩ | ⟨z, z2, y, u⟩ | ⟨z, y, u⟩
    · rw [if_pos (by rw [z]; decide)]
      exact .inr (.inr ⟨z, reopens_may h.all hB h.apart hpB fun ks => by rw [y, e1, picked_none]; exact mA⟩)
    · rw [if_pos z]
      exact .inr (.inl ⟨z, z2, ⟨u, y, by rw [e1]; exact h.all, by rw [e1]; exact h.apart⟩, e1⟩)
    · rw [if_neg (by rw [z]; decide)]
      obtain ⟨d1, hd1⟩ : ∃ d1, d1 = (dwrite d (til :: n) b).1 := ⟨_, rfl⟩
      rw [← hd1] at e1 y u ⊢
      have hc : capply d.sure ⟨0, til :: n, [], b⟩ = fput d.sure (til :: n) b := rfl
      rcases sync_one u y with ⟨a1, a2, a3⟩ | ⟨a1, a2, a3, a4⟩
      · rw [if_pos (by rw [a1]; decide)]
        refine .inr (.inr ⟨a1, reopens_may h.all hB h.apart hpB fun ks => ?_⟩)
        rw [a2, a3, e1]
        rcases picked_one d.sure ⟨0, til :: n, [], b⟩ ks with e | e
        · rw [e]; exact mA
        · rw [e, hc]; exact mT
      · rw [if_neg (by rw [a1]; decide)]
        rw [e1, hc] at a2
        obtain ⟨d2, hd2⟩ : ∃ d2, d2 = (dsync d1).1 := ⟨_, rfl⟩
        rw [← hd2] at a2 a3 a4 ⊢
        have hsh : d2.shown = fput d.sure (til :: n) b := by unfold DS.shown; rw [a3, a2]; rfl
        have hcr : capply (fput d.sure (til :: n) b) ⟨1, til :: n, n, []⟩ = fput d.sure n b := by
          unfold capply
          rw [if_neg (show ¬ ((1 : Nat) = 0) from by decide), fget_put_same]
          simp only [if_true]
          rw [fdel_put b h.no]
        obtain ⟨f1, f2⟩ := one_of (drename_keeps d2 (til :: n) n) (opOk_rename d2 (til :: n) n) a4 a3
        rcases f2 with ⟨z3, y3⟩ | ⟨z3, z4, y3, u3⟩ | ⟨z3, y3, u3⟩
        · rw [if_pos (by rw [z3]; decide)]
          exact .inr (.inr ⟨z3, reopens_may h.all hB h.apart hpB fun ks => by rw [y3, f1, a2, picked_none]; exact mT⟩)
        · exfalso
          have hdd : ¬ d2.dead := fun hdd => z4 ((opOk_rename d2 (til :: n) n).dead hdd).1
          exact z3 (rename_zero hdd (til_named hn) (snamed_named hn) (by rw [hsh]; exact fhas_put_same _ _ _))
        · rw [if_neg (by rw [z3]; decide)]
          rcases sync_one u3 y3 with ⟨b1, b2, b3⟩ | ⟨b1, b2, b3, b4⟩
          · refine .inr (.inr ⟨b1, reopens_may h.all hB h.apart hpB fun ks => ?_⟩)
            rw [b2, b3, f1, a2]
            rcases picked_one (fput d.sure (til :: n) b) ⟨1, til :: n, n, []⟩ ks with e | e
            · rw [e]; exact mT
            · rw [e, hcr]; exact mB
          · rw [f1, a2, hcr] at b2
            exact .inl ⟨b1, ⟨b4, b3, by rw [b2]; exact hB, by rw [b2]; exact hpB⟩, b2⟩

end Go.Proofs.Ytmjpckodcafjiaa
