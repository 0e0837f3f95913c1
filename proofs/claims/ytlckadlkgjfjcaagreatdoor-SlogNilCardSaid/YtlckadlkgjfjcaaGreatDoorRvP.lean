/- A unit's bytes: what they are, what bytes begin with, there and back: the mathematics. · A whole unit as it is recorded, taken by the program: its entries. · A whole unit as it is recorded: TakeUnit, by the program. · An act as it is recorded, done to a unit: by the program. · An act as it is recorded, done to a unit: by the document. -/
import Derived.Test.YtlckadlkgjfjcaaGreatDoorRqP
import Derived.Test.YtlckadlkgjfjcaaGreatDoorUvQ
import Derived.Test.YtlckadlkgjfjcaaGreatDoorRaP
import Derived.Test.YtlckadlkgjfjcaaGreatDoorQg
import Derived.Test.YtlckadlkgjfjcaaGreatDoorUnP
import Derived.Test.YtlckadlkgjfjcaaGreatDoorUrP
namespace Go.Proofs.YtlckadlkgjfjcaaGreatDoor
open Go.RowKit

/-- Entries' bytes, from the first address that the first one might have. -/
def etext : Int → Im IC → List Nat
  | _, [] => []
  | first, f :: r => enc (f.1 - first).toNat ++ (cbytes (toCC f.2) ++ etext (f.1 + 1) r)
theorem etext_cons (first : Int) (f : Int × IC) (r : Im IC) : etext first (f :: r) = enc (f.1 - first).toNat ++ (cbytes (toCC f.2) ++ etext (f.1 + 1) r) := rfl
theorem toCC_nat (k : Nat) (d : List Nat) : toCC ((k : Int), d) = (k, d) := by unfold toCC; simp only [Int.toNat_natCast]
/-- The text of a unit's frame. -/
def utext (U : US) : List Nat := enc U.epoch.toNat ++ (enc U.low.toNat ++ (enc U.cells.length ++ etext U.low U.cells))
/-- An error's number of how far an address is behind the first one. -/
def addC (first n c : Nat) : Nat := if c ≠ 0 then c else if 1048576 - first ≤ n then 1 else 0
/-- What so many entries' bytes begin with. -/
def TEs : Nat → Nat → List Nat → Nat → Im IC → List Nat → Nat → Prop
  | 0, _, rest, c, l, fin, c' => l = [] ∧ c' = c ∧ fin = (if c = 0 then rest else [])
  | n + 1, first, rest, c, l, fin, c' => ∃ m r1 c1, NumRel rest c m r1 c1 ∧
      ((addC first m c1 ≠ 0 ∧ l = [] ∧ fin = [] ∧ c' = addC first m c1) ∨
       (addC first m c1 = 0 ∧ ∃ k d c3 r3, TCell r1 0 k d c3 r3 ∧
         ((c3 ≠ 0 ∧ l = [] ∧ fin = [] ∧ c' = c3) ∨
          (c3 = 0 ∧ ∃ l1, TEs n (first + m + 1) r3 0 l1 fin c' ∧ l = (if c' = 0 then (((first + m : Nat) : Int), ((k : Int), d)) :: l1 else [])))))
theorem TEs.unique : ∀ {n first : Nat} {rest : List Nat} {c : Nat} {l l' : Im IC} {fin fin' : List Nat} {d d' : Nat}, TEs n first rest c l fin d → TEs n first rest c l' fin' d' → l = l' ∧ fin = fin' ∧ d = d'
  | 0, _, _, _, _, _, _, _, _, _, h, h' => by
    obtain ⟨rfl, rfl, rfl⟩ := h
    obtain ⟨rfl, rfl, rfl⟩ := h'
    exact ⟨rfl, rfl, rfl⟩
  | n + 1, _, _, _, _, _, _, _, _, _, h, h' => by
    obtain ⟨m, r1, c1, hn, h⟩ := h
    obtain ⟨m', r1', c1', hn', h'⟩ := h'
    obtain ⟨rfl, rfl, rfl⟩ := hn.unique hn'
    rcases h with ⟨a1, rfl, rfl, rfl⟩ | ⟨a1, k, t, c3, r3, ht, h⟩ <;> rcases h' with ⟨b1, rfl, rfl, rfl⟩ | ⟨b1, k', t', c3', r3', ht', h'⟩
    · exact ⟨rfl, rfl, rfl⟩
    · exact absurd b1 a1
    · exact absurd a1 b1
    · obtain ⟨rfl, rfl, rfl, rfl⟩ := ht.unique ht'
      rcases h with ⟨a2, rfl, rfl, rfl⟩ | ⟨a2, l1, h1, hl⟩ <;> rcases h' with ⟨b2, rfl, rfl, rfl⟩ | ⟨b2, l2, h2, hl2⟩
      · exact ⟨rfl, rfl, rfl⟩
      · exact absurd b2 a2
      · exact absurd a2 b2
      · obtain ⟨rfl, rfl, rfl⟩ := TEs.unique h1 h2
        exact ⟨hl.trans hl2.symm, rfl, rfl⟩

theorem manyC_err {n c : Nat} {most : Int} (h : manyC n c most = 0) : c = 0 ∧ ¬ (most < 0 ∨ most < (n : Int)) ∧ manyR n most = n := by
  unfold manyC at h
  split at h
  · split at h
    · cases h
    · omega
  · rename_i h9
    exact ⟨h, h9, (many_good (c := c) h9).1⟩
/-- A cell that is taken without an error. -/
theorem tcell_ok {rest d fin : List Nat} {k : Nat} (h8 : ∀ y ∈ rest, y < 256) (h : TCell rest 0 k d 0 fin) : okC (k, d) ∧ rest = cbytes (k, d) ++ fin := by
  obtain ⟨n, r1, c1, hn, h⟩ := h
  rcases h with ⟨h1, ⟨h2, _, _, h3, _⟩ | ⟨h2, rfl, rfl, _, rfl⟩⟩ | ⟨rfl, m, r2, c2, out, r3, c3, hm, hf, ⟨h2, _, _, h3, _⟩ | ⟨h2, rfl, rfl, _, rfl⟩⟩
  · exact absurd h3.symm h2
  · obtain ⟨rfl, h3⟩ := within_three h2
    obtain ⟨rfl, _⟩ := num_back hn
    refine ⟨⟨h3, by simp, fun _ => rfl, by simp⟩, ?_⟩
    unfold cbytes
    rw [if_neg h1]
  · exact absurd h3.symm h2
  · rcases hf with ⟨_, _, _, y4⟩ | ⟨_, _, _, _, y5⟩ | ⟨y1, _, y3, y4, y5, _⟩
    · omega
    · omega
    · obtain ⟨q1, q2, q3⟩ := manyC_err y1
      rw [q3] at y3 y4 y5
      rw [Int.toNat_natCast] at y4 y5
      obtain ⟨p1, p2, p3⟩ := hm.err q1
      subst p1
      obtain ⟨rfl, _⟩ := num_back hn
      have hl : d.length = m := by rw [y4, List.length_take]; omega
      refine ⟨⟨by simp, by simp only; omega, fun h => absurd rfl h, fun y hy => h8 y ?_⟩, ?_⟩
      · rw [p3]
        have : y ∈ r2 := by rw [y4] at hy; exact List.mem_of_mem_take hy
        simp [this]
      · unfold cbytes
        rw [if_pos rfl, p3, hl]
        simp only [List.append_assoc]
        rw [y4, y5, List.take_append_drop]
theorem addC_zero {first n c : Nat} (h : addC first n c = 0) : c = 0 ∧ first + n < 1048576 := by
  unfold addC at h
  split at h
  · omega
  · split at h
    · cases h
    · omega
/-- Entries that are taken without an error. -/
theorem TEs.ok : ∀ {n first : Nat} {rest fin : List Nat} {l : Im IC}, (∀ y ∈ rest, y < 256) → TEs n first rest 0 l fin 0 →
    rest = etext first l ++ fin ∧ l.length = n ∧ (∀ f ∈ l, (first : Int) ≤ f.1 ∧ f.1 ≤ 1048575 ∧ 0 ≤ f.2.1 ∧ okC (toCC f.2)) ∧ IRise l
  | 0, _, _, _, _, _, h => by
    obtain ⟨rfl, _, rfl⟩ := h
    exact ⟨rfl, rfl, fun f hf => (by cases hf), List.Pairwise.nil⟩
  | n + 1, first, rest, fin, l, h8, h => by
    obtain ⟨m, r1, c1, hn, h⟩ := h
    rcases h with ⟨a1, _, _, a2⟩ | ⟨a1, k, d, c3, r3, ht, h⟩
    · exact absurd a2.symm a1
    · rcases h with ⟨a2, _, _, a3⟩ | ⟨rfl, l1, h1, hl⟩
      · exact absurd a3.symm a2
      · obtain ⟨rfl, hm⟩ := addC_zero a1
        obtain ⟨rfl, _⟩ := num_back hn
        obtain ⟨hk, rfl⟩ := tcell_ok (fun y hy => h8 y (by simp [hy])) ht
        obtain ⟨rfl, rfl, hc, hr⟩ := TEs.ok (fun y hy => h8 y (by simp [hy])) h1
        rw [if_pos rfl] at hl
        subst hl
        refine ⟨?_, rfl, fun f hf => ?_, List.pairwise_cons.2 ⟨fun f hf => ?_, hr⟩⟩
        · rw [etext_cons, show (((first + m : Nat) : Int) - (first : Int)).toNat = m by omega, show ((first + m : Nat) : Int) + 1 = ((first + m + 1 : Nat) : Int) by omega, toCC_nat]
          simp only [List.append_assoc]
        · rcases List.mem_cons.1 hf with rfl | hf
          · refine ⟨by simp only; omega, by simp only; omega, by simp only; omega, ?_⟩
            rw [toCC_nat]
            exact hk
          · obtain ⟨p1, p2, p3, p4⟩ := hc f hf
            exact ⟨by omega, p2, p3, p4⟩
        · have := (hc f hf).1
          simp only
          omega
/-- A cell's bytes are taken. -/
theorem tcell_put {c : CC} (h : okC c) (rest : List Nat) : TCell (cbytes c ++ rest) 0 c.1 c.2 0 rest := by
  obtain ⟨k, d⟩ := c
  obtain ⟨h3, h64, h1, _⟩ := h
  simp only at h3 h64 h1
  unfold cbytes
  by_cases hk : k = 1
  · subst hk
    rw [if_pos rfl]
    simp only [List.append_assoc]
    have hm := many_good (n := d.length) (c := 0) (most := 64) (by omega)
    refine ⟨1, enc d.length ++ (d ++ rest), 0, num_of (by unfold U64; omega) _, .inr ⟨rfl, d.length, d ++ rest, 0, d, rest, 0, num_of (by unfold U64; omega) _, ?_, .inr ⟨rfl, rfl, rfl, rfl, rfl⟩⟩⟩
    rw [hm.1, hm.2]
    exact .inr (.inr ⟨rfl, by omega, by simp; omega, by simp, by simp, rfl⟩)
  · rw [if_neg hk]
    exact ⟨k, rest, 0, num_of (by unfold U64; omega) _, .inl ⟨hk, .inr ⟨within_of h3, rfl, h1 hk, rfl, rfl⟩⟩⟩
theorem okU_cc {c : IC} (h : okU c) : okC (toCC c) := by
  obtain ⟨h1, h2, h3⟩ := h
  unfold chk at h2
  split at h2
  · cases h2
  · split at h2
    · cases h2
    · split at h2
      · cases h2
      · rename_i h4 h5 h6
        refine ⟨?_, by unfold toCC; simp only; omega, fun h7 => ?_, h3⟩
        · unfold toCC
          simp only
          omega
        · unfold toCC at h7 ⊢
          simp only at h7 ⊢
          exact List.length_eq_zero_iff.1 (by omega)
/-- Entries' bytes are taken. -/
theorem tes_etext : ∀ {l : Im IC} {first : Nat} (rest : List Nat), (∀ f ∈ l, (first : Int) ≤ f.1 ∧ f.1 ≤ 1048575 ∧ okU f.2) → IRise l → TEs l.length first (etext first l ++ rest) 0 l rest 0
  | [], _, _, _, _ => ⟨rfl, rfl, by rw [if_pos rfl]; rfl⟩
  | f :: r, first, rest, hf, hr => by
    obtain ⟨h1, h2, h3⟩ := hf f (by simp)
    have hp := List.pairwise_cons.1 hr
    have ih := tes_etext (l := r) (first := first + (f.1 - first).toNat + 1) rest (fun g hg => ⟨by have := hp.1 g hg; omega, (hf g (by simp [hg])).2.1, (hf g (by simp [hg])).2.2⟩) hp.2
    have e1 : ((first + (f.1 - first).toNat + 1 : Nat) : Int) = f.1 + 1 := by omega
    rw [e1] at ih
    refine ⟨(f.1 - first).toNat, cbytes (toCC f.2) ++ (etext (f.1 + 1) r ++ rest), 0, ?_, .inr ⟨?_, (toCC f.2).1, (toCC f.2).2, 0, etext (f.1 + 1) r ++ rest, tcell_put (okU_cc h3) _, .inr ⟨rfl, r, ih, ?_⟩⟩⟩
    · rw [etext_cons]
      simp only [List.append_assoc]
      exact num_of (by unfold U64; omega) _
    · unfold addC
      rw [if_neg (by decide), if_neg (by omega)]
    · rw [if_pos rfl]
      have e2 : ((first + (f.1 - first).toNat : Nat) : Int) = f.1 := by omega
      rw [e2]
      have e3 : (((toCC f.2).1 : Nat) : Int) = f.2.1 := by
        unfold toCC
        rcases h3.1 with h | h <;> rw [h] <;> rfl
      rw [e3]
      rfl

/-- What a unit's text begins with. -/
def TUnit (t : List Nat) (e low : Nat) (l : Im IC) (fin : List Nat) (c : Nat) : Prop :=
  ∃ n1 r1 c1 n2 r2 c2 n3 r3 c3, NumRel t 0 n1 r1 c1 ∧ e = withinR n1 1099511627776 ∧ NumRel r1 (withinC n1 c1 1099511627776) n2 r2 c2 ∧ low = withinR n2 1048576 ∧
    NumRel r2 (withinC n2 c2 1048576) n3 r3 c3 ∧ TEs (manyR n3 65536) low r3 (manyC n3 c3 65536) l fin c
theorem TUnit.unique {t : List Nat} {e low e' low' : Nat} {l l' : Im IC} {fin fin' : List Nat} {c c' : Nat} (h : TUnit t e low l fin c) (h' : TUnit t e' low' l' fin' c') : e = e' ∧ low = low' ∧ l = l' ∧ fin = fin' ∧ c = c' := by
  obtain ⟨n1, r1, c1, n2, r2, c2, n3, r3, c3, p1, rfl, p2, rfl, p3, p4⟩ := h
  obtain ⟨m1, s1, b1, m2, s2, b2, m3, s3, b3, q1, rfl, q2, rfl, q3, q4⟩ := h'
  obtain ⟨rfl, rfl, rfl⟩ := p1.unique q1
  obtain ⟨rfl, rfl, rfl⟩ := p2.unique q2
  obtain ⟨rfl, rfl, rfl⟩ := p3.unique q3
  obtain ⟨rfl, rfl, rfl⟩ := p4.unique q4
  exact ⟨rfl, rfl, rfl, rfl, rfl⟩
/-- What TakeUnit answers: an error's number, the unit if that is 0. -/
def RUnit (b : List Nat) (U : US) (c : Nat) : Prop :=
  ∃ t c0, FO b t c0 ∧ if c0 ≠ 0 then c = c0 else ∃ e low l fin c1, TUnit t e low l fin c1 ∧
    if endC fin.length c1 ≠ 0 then c = endC fin.length c1 else c = ofC e low l ∧ (c = 0 → U = ⟨e, low, l⟩)
theorem RUnit.unique {b : List Nat} {U U' : US} {c c' : Nat} (h : RUnit b U c) (h' : RUnit b U' c') : c = c' ∧ (c = 0 → U = U') := by
  obtain ⟨t, c0, hfo, hif⟩ := h
  obtain ⟨t', c0', hfo', hif'⟩ := h'
  obtain ⟨rfl, rfl⟩ := hfo.unique hfo'
  split at hif
  · rename_i h1
    rw [if_pos h1] at hif'
    exact ⟨hif.trans hif'.symm, fun h => absurd (hif.symm.trans h) h1⟩
  · rename_i h1
    rw [if_neg h1] at hif'
    obtain ⟨e, low, l, fin, c1, ht, hif⟩ := hif
    obtain ⟨e', low', l', fin', c1', ht', hif'⟩ := hif'
    obtain ⟨rfl, rfl, rfl, rfl, rfl⟩ := ht.unique ht'
    split at hif
    · rename_i h2
      rw [if_pos h2] at hif'
      exact ⟨hif.trans hif'.symm, fun h => absurd (hif.symm.trans h) h2⟩
    · rename_i h2
      rw [if_neg h2] at hif'
      have hc := hif.1.trans hif'.1.symm
      exact ⟨hc, fun h => (hif.2 h).trans (hif'.2 (hc ▸ h)).symm⟩
theorem endC_none {n c : Nat} (h : endC n c = 0) : n = 0 ∧ c = 0 := by
  unfold endC at h
  split at h
  · omega
  · split at h
    · omega
    · cases h
/-- What is taken without an error: rows of entries are right but for cells that no entry has. -/
theorem TEs.code {n low : Nat} {rest fin : List Nat} {l : Im IC} (h8 : ∀ y ∈ rest, y < 256) (h : TEs n low rest 0 l fin 0) : entC low l = if l.any badK = true then 2 else 0 := by
  obtain ⟨_, _, hc, hr⟩ := h.ok h8
  have ha : ∀ f ∈ l, badA low f = false := fun f hf => by
    obtain ⟨p1, p2, _⟩ := hc f hf
    unfold badA
    rw [Bool.or_eq_false_iff, decide_eq_false_iff_not, decide_eq_false_iff_not]
    omega
  have hb : ∀ f ∈ l, badC f = 0 := fun f hf => by
    obtain ⟨_, _, p3, p4, p5, p6, _⟩ := hc f hf
    unfold toCC at p4 p5 p6
    simp only at p4 p5 p6
    unfold badC chk
    rw [if_neg (by omega), if_neg (by omega), if_neg]
    rintro ⟨q1, q2⟩
    rw [p6 (by omega)] at q2
    cases q2
  unfold entC
  rw [if_neg (noA ha), firstC_none hb, if_neg (by decide), if_pos hr]
theorem withinR_le (n most : Nat) : withinR n most ≤ most := by
  unfold withinR
  split
  · omega
  · omega
theorem ofC_taken {n e low : Nat} {rest fin : List Nat} {l : Im IC} (he : e ≤ 1099511627776) (hl : low ≤ 1048576) (h8 : ∀ y ∈ rest, y < 256) (h : TEs n low rest 0 l fin 0) : ofC e low l = if l.any badK = true then 2 else 0 := by
  unfold ofC
  rw [if_neg (by omega), h.code h8]
/-- Take of what was put. -/
theorem runit_put {U : US} (h : UOk U) (hl : (utext U).length ≤ 65536) (hn : U.cells.length ≤ 65536) : RUnit (fr (utext U)) U 0 := by
  have h2 := ft_fr hl []
  rw [List.append_nil] at h2
  obtain ⟨⟨e0, e1⟩, ⟨l0, l1⟩, hat, hr⟩ := h
  have he := withinR_id (n := U.epoch.toNat) (most := 1099511627776) (by omega) (by decide)
  have hw := withinR_id (n := U.low.toNat) (most := 1048576) (by omega) (by decide)
  have hm := many_good (n := U.cells.length) (c := 0) (most := 65536) (by omega)
  have ee : ((U.epoch.toNat : Nat) : Int) = U.epoch := by omega
  have el : ((U.low.toNat : Nat) : Int) = U.low := by omega
  have ht := tes_etext (l := U.cells) (first := U.low.toNat) [] (fun f hf => ⟨by have := (hat f hf).1; omega, (hat f hf).2.1, (hat f hf).2.2⟩) hr
  rw [el, List.append_nil] at ht
  refine ⟨utext U, 0, ⟨_, _, _, h2, by rw [if_neg (by decide), if_neg (by rw [fr_length]; omega)]; exact ⟨rfl, rfl⟩⟩, ?_⟩
  rw [if_neg (by decide)]
  refine ⟨U.epoch.toNat, U.low.toNat, U.cells, [], 0, ⟨U.epoch.toNat, enc U.low.toNat ++ (enc U.cells.length ++ etext U.low U.cells), 0, U.low.toNat, enc U.cells.length ++ etext U.low U.cells, 0, U.cells.length, etext U.low U.cells, 0, num_of (by unfold U64; omega) _, he.1.symm, ?_, hw.1.symm, ?_, ?_⟩, ?_⟩
  · rw [he.2]; exact num_of (by unfold U64; omega) _
  · rw [hw.2]; exact num_of (by unfold U64; omega) _
  · rw [hm.1, hm.2]; exact ht
  · rw [if_neg (by decide), ee, el]
    refine ⟨(of_uok ⟨⟨e0, e1⟩, ⟨l0, l1⟩, hat, hr⟩).symm, fun _ => rfl⟩
end Go.Proofs.YtlckadlkgjfjcaaGreatDoor

namespace Go.Proofs.YtlckadlkgjfjcaaGreatDoor
open Go.RowKit

theorem grown_low {w a b : World} {p B : Nat} (h : w.grownBy a (some p)) (hb : Below B a b) (hB : w.heap.size ≤ B) : w.grownBy b (some p) :=
  ⟨hb.os.trans h.os, hb.tape.trans h.tape, hb.output.trans h.output, Nat.le_trans h.size hb.size, fun j hj hne => (hb.block j (Nat.lt_of_lt_of_le hj hB)).trans (h.block j hj hne)⟩
theorem Rd.low {w w' : World} {p B : Nat} {rv : Value} {row : List Nat} {place c : Nat} (h : Rd w p rv row place c) (hb : Below B w w') (hp : p < B) : Rd w' p rv row place c := by
  refine ⟨(hb.block p hp).trans h.blk, ?_, h.off, h.le, h.byte, h.len⟩
  have ho := h.own
  refine ⟨ho.1, ?_⟩
  rcases ho.2 with h2 | ⟨g, cap, cur, h1, h2, h3, r⟩
  · exact .inl h2
  · exact .inr ⟨g, cap, cur, h1, h2, by rw [hb.block g (by have := h.off g (by rw [h1]; rfl); omega)]; exact h3, r⟩
theorem EntO.rd {w w' : World} {base p : Nat} {v : Value} {l : Im IC} (h : EntO w base v l) (hg : w.grownBy w' (some p)) (hp : p < base) : EntO w' base v l := by
  obtain ⟨rows, h1, h2, h3⟩ := h
  refine ⟨rows, h1.keep fun j hj => hg.block j (h1.block hj).2.1 (fun e => by have := (h1.block hj).1; cases e; omega), h2, fun i f hf => ?_⟩
  obtain ⟨dv, h4, h5⟩ := h3 i f hf
  exact ⟨dv, h4, h5.own ⟨hg.size, fun j hj hB => hg.block j hj (fun e => by have := hB.1; cases e; omega)⟩⟩
theorem TEs.bad : ∀ {n first : Nat} {rest : List Nat} {c : Nat} {l : Im IC} {fin : List Nat} {d : Nat}, TEs n first rest c l fin d → d ≠ 0 → l = []
  | 0, _, _, _, _, _, _, h, _ => h.1
  | n + 1, _, _, _, _, _, _, h, hd => by
    obtain ⟨m, r1, c1, _, ⟨_, h2, _⟩ | ⟨_, k, t, c3, r3, _, ⟨_, h2, _⟩ | ⟨_, l1, _, h2⟩⟩⟩ := h
    · exact h2
    · exact h2
    · rw [h2, if_neg hd]
theorem tcell_had {rest fin d : List Nat} {c k c' : Nat} (h : TCell rest c k d c' fin) (hc : c ≠ 0) : c' = c := by
  obtain ⟨n, r1, c1, hn, h⟩ := h
  rcases hn with ⟨_, rfl, rfl, rfl⟩ | ⟨h1, _⟩ | ⟨h1, _⟩
  · have hw := within_good (n := 0) (c := c1) (most := 3) (by decide)
    rw [hw.2] at h
    rcases h with ⟨_, ⟨_, _, _, h, _⟩ | ⟨h, _⟩⟩ | ⟨h, _⟩
    · exact h
    · exact absurd h hc
    · cases h
  · exact absurd h1 hc
  · exact absurd h1 hc

set_option maxHeartbeats 1000000 in
set_option maxRecDepth 100000 in
theorem takeMany_any {w : World} {p : Nat} {rv : Value} {row : List Nat} {place c : Nat} (h : Rd w p rv row place c) :
    Calls Tryz.prog 257 #[.pointer (some ⟨p, 0, none⟩)] w (ManyPost p rv row place c 65536 w) := by
  go_enter Tryz.func257, Tryz.ntmps257
  go_wp2_with fail
  refine (number_any h).mono ?_
  rintro e w1 ⟨n, place', c1, rfl, hn, hrd, hg⟩
  clear h
  have HN := Lib.hid hn
  clear hn
  by_cases hb : (65536 : Int) < (n : Int)
  · have HB := Lib.hid (many_bad (c := c1) (n := n) (most := 65536) (.inr hb))
    have hfl := fail_any hrd 3
    rw [errV_pos (by decide)] at hfl
    have HFL := Lib.hid hfl
    clear hfl hrd
    go_wp2_with fail
    refine HFL.out.mono ?_
    rintro e w2 ⟨rfl, hrd2, hg2⟩
    have HR := Lib.hid hrd2
    clear hrd2
    go_wp2
    go_ret
    exact ⟨n, place', c1, by rw [HB.out.1]; rfl, HN.out, by rw [HB.out.2]; exact HR.out, grownBy_trans hg hg2 (fun j hj _ => hj)⟩
  · have HB := Lib.hid (many_good (c := c1) (n := n) (most := 65536) (by omega))
    have hn2 : (n : Int) ≤ 65536 := by omega
    go_wp2
    go_ret
    exact ⟨n, place', c1, by rw [HB.out.1]; rfl, HN.out, by rw [HB.out.2]; exact hrd, hg⟩

/-- What takeAddress answers. -/
def TAddrPost (p : Nat) (rv : Value) (row : List Nat) (place c first : Nat) (w : World) (r : Ending) (w' : World) : Prop :=
  ∃ (x : Int) (n pl c1 : Nat), r = .returned (.int .i64 x) ∧ (addC first n c1 = 0 → x = ((first + n : Nat) : Int)) ∧ NumRel (row.drop place) c n (row.drop pl) c1 ∧ Rd w' p rv row pl (addC first n c1) ∧ w.grownBy w' (some p)
set_option maxHeartbeats 1000000 in
set_option maxRecDepth 100000 in
theorem takeAddress_any {w : World} {p : Nat} {rv : Value} {row : List Nat} {place c first : Nat} (h : Rd w p rv row place c) (hf : first ≤ 1048576) :
    Calls Tryz.prog 258 #[.pointer (some ⟨p, 0, none⟩), .int .i64 (first : Int)] w (TAddrPost p rv row place c first w) := by
  obtain ⟨g, hg⟩ : ∃ g : Nat, g = 1048576 - first := ⟨_, rfl⟩
  have hsub : (1048576 : Int) - (first : Int) = (g : Int) := by omega
  have hg0 : (g : Int) ≤ 1048576 := by omega
  have hf0 : (first : Int) ≤ 1048576 := by omega
  have HG := Lib.hid hg
  have HF := Lib.hid hf
  clear hg hf
  go_enter Tryz.func258, Tryz.ntmps258
  go_wp2_with fail
  refine (number_any h).mono ?_
  rintro e w1 ⟨n, place', c1, rfl, hn, hrd, hg⟩
  clear h
  have HN := Lib.hid hn
  clear hn
  by_cases hb : (g : Int) ≤ (n : Int)
  · have HB : Hid (addC first n c1 = if c1 = 0 then 1 else c1) := Lib.hid (by
      unfold addC
      by_cases hc : c1 = 0
      · rw [if_neg (by omega), if_pos (by have := HG.out; omega), if_pos hc]
      · rw [if_pos hc, if_neg hc])
    have hfl := fail_any hrd 1
    rw [errV_pos (by decide)] at hfl
    have HFL := Lib.hid hfl
    clear hfl hrd
    go_wp2_with fail
    refine HFL.out.mono ?_
    rintro e w2 ⟨rfl, hrd2, hg2⟩
    have HR := Lib.hid hrd2
    clear hrd2
    go_wp2
    go_ret
    refine ⟨0, n, place', c1, rfl, fun h => ?_, HN.out, by rw [HB.out]; exact HR.out, grownBy_trans hg hg2 (fun j hj _ => hj)⟩
    rw [HB.out] at h
    split at h
    · cases h
    · rename_i h1
      exact absurd h h1
  · have HB : Hid (addC first n c1 = c1) := Lib.hid (by
      unfold addC
      by_cases hc : c1 = 0
      · rw [if_neg (by omega), if_neg (by have := HG.out; omega), hc]
      · rw [if_pos hc])
    have hn2 : (n : Int) ≤ 1048576 := by omega
    have hwr : wrap64 ((first : Int) + (n : Int)) = ((first + n : Nat) : Int) := by simp only [wrap64]; omega
    go_wp2
    go_ret
    exact ⟨_, n, place', c1, rfl, fun _ => by first | rfl | omega, HN.out, by rw [HB.out]; exact hrd, hg⟩

/-- How far takeEntries has come. -/
structure TEI (w : World) (p : Nat) (rv : Value) (row : List Nat) (pl0 c0 m low : Nat) (wr : World) (lv : Value) (k f pl : Nat) (l : Im IC) : Prop where
  kle : k ≤ m
  fle : f ≤ 1048576
  len : l.length = k
  ent : EntO wr w.heap.size lv l
  rd : Rd wr p rv row pl c0
  gr : w.grownBy wr (some p)
  go : ∀ l2 fin c2, TEs (m - k) f (row.drop pl) c0 l2 fin c2 → TEs m low (row.drop pl0) c0 (if c2 = 0 then l ++ l2 else []) fin c2
section
variable {w W : World} {p : Nat} {rv : Value} {row : List Nat} {pl0 c0 m low : Nat}
theorem tei_start (hrd : Rd W p rv row pl0 c0) (hg : w.grownBy W (some p)) (hl : low ≤ 1048576) : TEI w p rv row pl0 c0 m low W (.slice none 0 0) 0 low pl0 [] :=
  ⟨Nat.zero_le _, hl, rfl, entO_nil _ _, hrd, hg, fun l2 fin c2 h => by
    rw [Nat.sub_zero] at h
    by_cases hc : c2 = 0
    · rw [if_pos hc]; exact h
    · rw [if_neg hc, ← h.bad hc]; exact h⟩
variable {lv : Value} {k f pl : Nat} {l : Im IC}
theorem TEI.next {W' : World} {lv' : Value} {n1 pl' kk : Nat} {r1 d : List Nat} (h : TEI w p rv row pl0 0 m low W lv k f pl l) (hk : k < m) (hn : NumRel (row.drop pl) 0 n1 r1 0) (ha : addC f n1 0 = 0)
    (ht : TCell r1 0 kk d 0 (row.drop pl')) (hrd : Rd W' p rv row pl' 0) (hg : w.grownBy W' (some p)) (he : EntO W' w.heap.size lv' (l ++ [(((f + n1 : Nat) : Int), ((kk : Int), d))])) :
    TEI w p rv row pl0 0 m low W' lv' (k + 1) (f + n1 + 1) pl' (l ++ [(((f + n1 : Nat) : Int), ((kk : Int), d))]) :=
  ⟨hk, by have := (addC_zero ha).2; omega, by rw [List.length_append, h.len]; rfl, he, hrd, hg, fun l2 fin c2 h2 => by
    have hmk : m - k = (m - (k + 1)) + 1 := by omega
    have h3 := h.go (if c2 = 0 then (((f + n1 : Nat) : Int), ((kk : Int), d)) :: l2 else []) fin c2 (by
      rw [hmk]
      exact ⟨n1, r1, 0, hn, .inr ⟨ha, kk, d, 0, _, ht, .inr ⟨rfl, l2, h2, rfl⟩⟩⟩)
    by_cases hc : c2 = 0
    · rw [if_pos hc] at h3 ⊢
      rw [if_pos hc] at h3
      rw [List.append_assoc]
      exact h3
    · rw [if_neg hc] at h3 ⊢
      exact h3⟩
theorem TEI.stop {n1 c1 : Nat} {r1 : List Nat} (h : TEI w p rv row pl0 0 m low W lv k f pl l) (hk : k < m) (hn : NumRel (row.drop pl) 0 n1 r1 c1) (ha : addC f n1 c1 ≠ 0) : TEs m low (row.drop pl0) 0 [] [] (addC f n1 c1) := by
  have hmk : m - k = (m - (k + 1)) + 1 := by omega
  have h3 := h.go [] [] (addC f n1 c1) (by rw [hmk]; exact ⟨n1, r1, c1, hn, .inl ⟨ha, rfl, rfl, rfl⟩⟩)
  rw [if_neg ha] at h3
  exact h3
theorem TEI.stopC {n1 kk c3 : Nat} {r1 r3 d : List Nat} (h : TEI w p rv row pl0 0 m low W lv k f pl l) (hk : k < m) (hn : NumRel (row.drop pl) 0 n1 r1 0) (ha : addC f n1 0 = 0) (ht : TCell r1 0 kk d c3 r3) (hc : c3 ≠ 0) : TEs m low (row.drop pl0) 0 [] [] c3 := by
  have hmk : m - k = (m - (k + 1)) + 1 := by omega
  have h3 := h.go [] [] c3 (by rw [hmk]; exact ⟨n1, r1, 0, hn, .inr ⟨ha, kk, d, c3, r3, ht, .inl ⟨hc, rfl, rfl, rfl⟩⟩⟩)
  rw [if_neg hc] at h3
  exact h3
theorem TEI.done (h : TEI w p rv row pl0 c0 m low W lv k f pl l) (hk : k = m) (hz : 0 < m → c0 = 0) : TEs m low (row.drop pl0) c0 l (if c0 = 0 then row.drop pl else []) c0 := by
  have h3 := h.go [] (if c0 = 0 then row.drop pl else []) c0 (by rw [hk, Nat.sub_self]; exact ⟨rfl, rfl, rfl⟩)
  by_cases hc : c0 = 0
  · rw [if_pos hc, List.append_nil] at h3
    exact h3
  · rw [if_neg hc] at h3
    have hl : l = [] := List.length_eq_zero_iff.1 (by rw [h.len]; by_cases h0 : 0 < m; exact absurd (hz h0) hc; omega)
    rw [hl]
    exact h3
end
/-- What takeEntries answers. -/
def TEntsPost (p : Nat) (rv : Value) (row : List Nat) (place c low : Nat) (w : World) (r : Ending) (w' : World) : Prop :=
  ∃ (v : Value) (l : Im IC) (fin : List Nat) (n3 pl3 c3 pl' c' : Nat), r = .returned v ∧ NumRel (row.drop place) c n3 (row.drop pl3) c3 ∧ TEs (manyR n3 65536) low (row.drop pl3) (manyC n3 c3 65536) l fin c' ∧
    EntO w' w.heap.size v l ∧ Rd w' p rv row pl' c' ∧ (c' = 0 → row.drop pl' = fin) ∧ w.grownBy w' (some p)
theorem wrap_succ16 (k : Nat) (h : k ≤ 1048576) : wrap64 ((k : Int) + 1) = ((k + 1 : Nat) : Int) := by simp only [wrap64]; omega

set_option maxHeartbeats 4000000 in
set_option maxRecDepth 100000 in
theorem takeEntries_any {w : World} {p : Nat} {rv : Value} {row : List Nat} {place c low : Nat} (h : Rd w p rv row place c) (hl : low ≤ 1048576) :
    Calls Tryz.prog 196 #[.pointer (some ⟨p, 0, none⟩), .int .i64 (low : Int)] w (TEntsPost p rv row place c low w) := by
  have HPL : Hid (p < w.heap.size) := Lib.hid h.lt
  have HL := Lib.hid hl
  have HTM := Lib.hid (takeMany_any h)
  clear h hl
  go_enter Tryz.func196, Tryz.ntmps196
  go_wp2_with fail
  refine HTM.out.mono ?_
  rintro r w2 ⟨n3, pl3, c3, rfl, hn3, hrd2, hg2⟩
  have HN3 := Lib.hid hn3
  have HZ : Hid (0 < manyR n3 65536 → manyC n3 c3 65536 = 0) := Lib.hid fun h0 => by
    by_cases hc : manyC n3 c3 65536 = 0
    · exact hc
    · rw [manyR_zero hn3 hc] at h0; cases h0
  have HM : Hid (manyR n3 65536 ≤ 65536) := Lib.hid (by
    by_cases h0 : 0 < manyR n3 65536
    · have := manyR_most h0; omega
    · omega)
  have HS := Lib.hid (tei_start (m := manyR n3 65536) hrd2 hg2 HL.out)
  obtain ⟨m, hm⟩ : ∃ m, m = manyR n3 65536 := ⟨_, rfl⟩
  obtain ⟨c0, hc0⟩ : ∃ c, c = manyC n3 c3 65536 := ⟨_, rfl⟩
  rw [← hm] at HM HZ HS ⊢
  rw [← hc0] at HZ HS
  have HMM := Lib.hid hm
  have HCC := Lib.hid hc0
  clear hn3 hrd2 hg2 hm hc0
  go_wp2
  go_loopw [5, 6, 12] (fun lv fv i wr => ∃ (k f pl : Nat) (l : Im IC), i = .int .i64 (k : Int) ∧ fv = .int .i64 (f : Int) ∧ TEI w p rv row pl3 c0 m low wr lv k f pl l)
    (fun _ _ i _ => m - (intOf i).toNat)
  case atStart => exact ⟨0, low, pl3, [], rfl, rfl, HS.out⟩
  case round =>
    obtain ⟨k, f, pl, l, rfl, rfl, ht⟩ := hrel
    have HT := Lib.hid ht
    obtain ⟨lo, lc, rfl⟩ := ht.ent.val
    obtain ⟨nl, hnl⟩ : ∃ n, n = l.length := ⟨_, rfl⟩
    rw [← hnl] at HT ⊢
    clear hnl
    by_cases hlt : k < m
    · have hlti : (k : Int) < (m : Int) := by omega
      have hz := HZ.out (by omega)
      subst hz
      have HK := Lib.hid hlt
      have HKM : Hid (k ≤ 1048576) := Lib.hid (by have := HM.out; omega)
      have HA := Lib.hid (takeAddress_any ht.rd ht.fle)
      clear ht hlt
      go_wp2_with fail
      refine HA.out.mono ?_
      rintro r w3 ⟨x, n1, pl1, c1, rfl, hx, hn1, hrd3, hg3⟩
      have HX := Lib.hid hx
      have HN1 := Lib.hid hn1
      have HE3 := Lib.hid (HT.out.ent.rd hg3 HPL.out)
      have HG3 := Lib.hid (grownBy_trans HT.out.gr hg3 (fun j hj _ => hj))
      have HC := Lib.hid (cellTake_any hrd3)
      clear hx hn1 hrd3 hg3
      go_wp2_with fail
      refine HC.out.mono ?_
      rintro r w4 ⟨v4, kk, d, pl4, c4, fin4, rfl, htc, hrd4, hfin, ho4, hg4⟩
      have HTC := Lib.hid htc
      have HFIN := Lib.hid hfin
      have HE4 := Lib.hid (HE3.out.rd hg4 HPL.out)
      have HG4 := Lib.hid (grownBy_trans HG3.out hg4 (fun j hj _ => hj))
      have HWW : Hid (w.heap.size ≤ w3.heap.size) := Lib.hid HG3.out.size
      obtain ⟨ao4, cap4, rfl, _, _, _⟩ := ho4.reads.val
      obtain ⟨W5, hW5⟩ : ∃ W5, W5 = w4.alloc (.cells #[.int .i64 (kk : Int), .slice ao4 d.length cap4] 24) := ⟨_, rfl⟩
      have hb5 : Below w4.heap.size w4 W5 := by rw [hW5]; exact (Below.refl _ _).alloc (Nat.le_refl _) _
      have hx5 : W5.heap[w4.heap.size]? = some (.cells #[.int .i64 (kk : Int), .slice ao4 d.length cap4] 24 (0, 0)) := by rw [hW5]; exact heap_alloc_new _ _
      have HE5 := Lib.hid (HE4.out.grown hb5)
      have HG5 : Hid (w.grownBy W5 (some p)) := Lib.hid (grown_low HG4.out hb5 (by have := HG4.out.size; omega))
      have HR5 := Lib.hid (hrd4.below hb5 (Nat.le_refl _))
      have HAT5 : Hid (At W5 (Own W5 w.heap.size 5) .u8 (.slice ao4 d.length cap4) d) := Lib.hid ((ho4.below hb5 (Nat.le_refl _)).at'.mono fun _ _ hj => ⟨Nat.le_trans HWW.out hj.1, hj.2⟩)
      have HER := Lib.hid (err_any HR5.out)
      obtain ⟨a0, a1, _, _⟩ := blk2 hx5
      rw [hW5] at a0 a1
      have HX5 := Lib.hid hx5
      have HW5 := Lib.hid hW5
      obtain ⟨nd, hnd⟩ : ∃ n, n = d.length := ⟨_, rfl⟩
      rw [← hnd] at HAT5 HX5 HW5 a0 a1 ⊢
      clear htc hrd4 hfin ho4 hg4 hb5 hx5 hW5 hnd
      go_wp2_with fail
      rw [← HW5.out]
      refine HER.out.mono ?_
      rintro r w6 ⟨rfl, rfl⟩
      by_cases hz : c4 = 0
      rotate_left
      · rw [errV_pos hz]
        have HZ4 := Lib.hid hz
        clear hz a0 a1
        go_wp2
        go_ret
        refine ⟨.slice none 0 0, [], [], n3, pl3, c3, pl4, c4, rfl, HN3.out, ?_, entO_nil _ _, HR5.out, fun h => absurd h HZ4.out, HG5.out⟩
        rw [← HMM.out, ← HCC.out]
        by_cases ha : addC f n1 c1 = 0
        · obtain ⟨rfl, _⟩ := addC_zero ha
          have h4 := HTC.out
          rw [ha] at h4
          exact HT.out.stopC HK.out HN1.out ha h4 HZ4.out
        · have h4 := tcell_had HTC.out ha
          rw [h4]
          exact HT.out.stop HK.out HN1.out ha
      · subst hz
        have ha : addC f n1 c1 = 0 := by
          by_cases ha : addC f n1 c1 = 0
          · exact ha
          · exact absurd (tcell_had HTC.out ha).symm ha
        obtain ⟨rfl, hfm⟩ := addC_zero ha
        have hxe := HX.out ha
        subst hxe
        have HTC' : Hid (TCell (row.drop pl1) 0 kk d 0 (row.drop pl4)) := Lib.hid (by have h4 := HTC.out; rw [ha] at h4; rw [HFIN.out rfl]; exact h4)
        have HAA := Lib.hid ha
        have HFM : Hid (f + n1 ≤ 1048576) := Lib.hid (by omega)
        have HLT : Hid (l.length ≤ 1048576) := Lib.hid (by rw [HT.out.len]; exact HKM.out)
        have HW5B : Hid (w.heap.size ≤ W5.heap.size) := Lib.hid HG5.out.size
        rw [errV_zero]
        obtain ⟨y, hy⟩ : ∃ y, y = f + n1 := ⟨_, rfl⟩
        have HY := Lib.hid hy
        rw [← hy] at HFM ⊢
        clear ha hfm hy a0 a1
        obtain ⟨a0, a1, _, _⟩ := blk2 HX5.out
        go_wp2_with (at_builtin; go_must (refine wpList_appE _ rfl _ _ rfl w.heap.size _ _ rfl W5 (((y : Nat) : Int), ((kk : Int), d)) (.slice ao4 nd cap4) rfl rfl HE5.out HAT5.out rfl HLT.out HW5B.out ?_))
        intro v7 w7 he7 hb7
        have HE7 := Lib.hid he7
        have HB7 := Lib.hid hb7
        clear he7 hb7 a0 a1
        go_wp2
        go_roundw
        case rel =>
          have h7 := HT.out.next HK.out HN1.out HAA.out HTC'.out (HR5.out.low HB7.out HPL.out) (grown_low HG5.out HB7.out (Nat.le_refl _)) (by rw [← HY.out]; exact HE7.out)
          exact ⟨k + 1, f + n1 + 1, pl4, _, by rw [wrap_succ16 k HKM.out], by rw [wrap_succ16 y HFM.out, HY.out], h7⟩
        case measure =>
          rw [wrap_succ16 k HKM.out]
          show m - (((k + 1 : Nat) : Int)).toNat < m - ((k : Int)).toNat
          have := HK.out
          omega
    · have hke : k = m := by have := ht.kle; omega
      subst hke
      have HD := Lib.hid (ht.done rfl HZ.out)
      have HRD := Lib.hid ht.rd
      clear ht hlt
      go_wp2
      go_ret
      refine ⟨_, l, _, n3, pl3, c3, pl, c0, rfl, HN3.out, by rw [← HMM.out, ← HCC.out]; exact HD.out, HT.out.ent, HRD.out, fun h => by rw [if_pos h], HT.out.gr⟩
end Go.Proofs.YtlckadlkgjfjcaaGreatDoor

namespace Go.Proofs.YtlckadlkgjfjcaaGreatDoor
open Go.RowKit

theorem tes_zero : ∀ {n first : Nat} {rest : List Nat} {c : Nat} {l : Im IC} {fin : List Nat}, TEs n first rest c l fin 0 → c = 0
  | 0, _, _, _, _, _, h => h.2.1.symm
  | n + 1, _, _, c, _, _, h => by
    obtain ⟨m, r1, c1, hn, h⟩ := h
    by_cases hc : c = 0
    · exact hc
    · exfalso
      have h1 : c1 = c := by rcases hn with ⟨_, _, _, h⟩ | ⟨h, _⟩ | ⟨h, _⟩ <;> first | exact h | exact absurd h hc
      subst h1
      rcases h with ⟨h2, _, _, h3⟩ | ⟨h2, _⟩
      · exact h2 h3.symm
      · exact hc (addC_zero h2).1
theorem num_sub {rest r : List Nat} {c n c' : Nat} (h : NumRel rest c n r c') : ∀ y ∈ r, y ∈ rest := by
  rcases h with ⟨_, _, rfl, _⟩ | ⟨_, _, rfl, _⟩ | ⟨_, _, rfl, _⟩
  · exact fun _ h => h
  · exact fun y hy => by simp [hy]
  · exact fun _ h => h
/-- A unit's entries, taken without an error. -/
theorem TUnit.ok {t fin : List Nat} {e low : Nat} {l : Im IC} (h8 : ∀ y ∈ t, y < 256) (h : TUnit t e low l fin 0) :
    l.length ≤ 65536 ∧ (∀ f ∈ l, ∀ y ∈ f.2.2, y < 256) ∧ ofC e low l = (if l.any badK = true then 2 else 0) ∧ IRise l := by
  obtain ⟨n1, r1, c1, n2, r2, c2, n3, r3, c3, p1, rfl, p2, rfl, p3, p4⟩ := h
  have hz := tes_zero p4
  obtain ⟨_, q1, q2⟩ := manyC_err hz
  rw [hz] at p4
  have hr3 : ∀ y ∈ r3, y < 256 := fun y hy => h8 y (num_sub p1 y (num_sub p2 y (num_sub p3 y hy)))
  obtain ⟨k1, k2, k3, k4⟩ := p4.ok hr3
  exact ⟨by omega, fun f hf y hy => (k3 f hf).2.2.2.2.2.2 y hy, ofC_taken (withinR_le _ _) (withinR_le _ _) hr3 p4, k4⟩
theorem fo_good {b t : List Nat} {c : Nat} (h8 : ∀ y ∈ b, y < 256) (h : FO b t c) (hz : c = 0) : (∀ y ∈ t, y < 256) ∧ t.length ≤ 65536 := by
  obtain ⟨t1, s1, c1, hft, hif⟩ := h
  by_cases h1 : c1 ≠ 0
  · rw [if_pos h1] at hif
    exact absurd (hif.2.symm.trans hz) h1
  · rw [if_neg h1] at hif
    obtain rfl : c1 = 0 := Classical.not_not.1 h1
    split at hif
    · rw [hif.2] at hz; cases hz
    · obtain ⟨_, _, h3, _, h5⟩ := hft.good
      rw [hif.1]
      exact ⟨fun y hy => h8 y (h5 y hy), h3⟩

/-- What TakeUnit answers. -/
def TUnitPost (b : List Nat) (w : World) (r : Ending) (w' : World) : Prop :=
  Below w.heap.size w w' ∧ ∃ (U : US) (c : Nat), RUnit b U c ∧ ((c ≠ 0 ∧ r = .returned (.tuple #[.pointer none, errV c])) ∨
    (c = 0 ∧ ∃ u m B, r = .returned (.tuple #[.pointer (some ⟨u, 0, none⟩), .nilIface]) ∧ Un w' B u m U ∧ w.heap.size ≤ u ∧ w.heap.size ≤ m ∧ ∀ j, B j → w.heap.size ≤ j))
set_option maxHeartbeats 4000000 in
set_option maxRecDepth 100000 in
theorem takeUnit_any (v : Value) (b : List Nat) (w : World) (hr : Reads w .u8 v b) (hb : ∀ y ∈ b, y < 256) (hx : b.length ≤ 80000000000000) :
    Calls Tryz.prog 138 #[v] w (TUnitPost b w) := by
  obtain ⟨ao, cap, rfl, _, _, _⟩ := hr.val
  have HONE := Lib.hid (frameOne_any _ b w hr hb (by omega))
  have HBB := Lib.hid hb
  generalize b.length = nb at *
  clear hr hb hx
  go_enter Tryz.func138, Tryz.ntmps138
  go_wp2_with fail
  refine HONE.out.mono ?_
  rintro r w2 ⟨v2, t, c0, rfl, hfo, hat, hb2⟩
  obtain ⟨ao2, cap2, rfl, _, _, _⟩ := hat.reads.val
  have HFO := Lib.hid hfo
  have HR2 := Lib.hid hat.reads
  have HB2 := Lib.hid hb2
  have HT8 := Lib.hid (fo_good HBB.out hfo)
  obtain ⟨nt, hnt⟩ : ∃ n, n = t.length := ⟨_, rfl⟩
  rw [← hnt] at HR2
  rw [← hnt]
  clear hfo hat hb2 hnt
  by_cases hz : c0 = 0
  rotate_left
  · rw [errV_pos hz]
    have HZ := Lib.hid hz
    clear hz
    go_wp2
    go_ret2
    exact ⟨HB2.out, unew, c0, ⟨t, c0, HFO.out, by rw [if_pos HZ.out]⟩, .inl ⟨HZ.out, by rw [errV_pos HZ.out]; rfl⟩⟩
  have HNEW := Lib.hid (new_any _ t w2 HR2.out (HT8.out hz).1 (by have := (HT8.out hz).2; omega))
  have HFZ : Hid (FO b t 0) := Lib.hid (by rw [← hz]; exact HFO.out)
  have HT9 := Lib.hid (HT8.out hz).1
  rw [hz, errV_zero]
  clear hz HT8
  go_wp2_with fail
  refine HNEW.out.mono ?_
  rintro r w3 ⟨p, rv, rfl, hrd3, hb3, hp3, _⟩
  have HB3 : Hid (Below w.heap.size w w3) := Lib.hid (HB2.out.trans (hb3.mono HB2.out.size))
  have HPW : Hid (w.heap.size ≤ p) := Lib.hid (Nat.le_trans HB2.out.size hp3)
  have HE := Lib.hid (within_any hrd3 1099511627776)
  clear hrd3 hb3 hp3
  go_wp2_with fail
  refine HE.out.mono ?_
  rintro r w4 ⟨n1, pl1, c1, rfl, hn1, hrd4, hg4⟩
  have HN1 := Lib.hid hn1
  have HB4 : Hid (Below w.heap.size w w4) := Lib.hid (HB3.out.grown hg4 HB3.out.size fun j hj => by cases hj; exact HPW.out)
  have HL := Lib.hid (within_any hrd4 1048576)
  obtain ⟨e, he⟩ : ∃ e, e = withinR n1 1099511627776 := ⟨_, rfl⟩
  rw [← he]
  have HEE := Lib.hid he
  clear hn1 hrd4 hg4 he
  go_wp2_with fail
  refine HL.out.mono ?_
  rintro r w5 ⟨n2, pl2, c2, rfl, hn2, hrd5, hg5⟩
  have HN2 := Lib.hid hn2
  have HB5 : Hid (Below w.heap.size w w5) := Lib.hid (HB4.out.grown hg5 HB4.out.size fun j hj => by cases hj; exact HPW.out)
  have HTE := Lib.hid (takeEntries_any hrd5 (low := withinR n2 1048576) (withinR_le _ _))
  obtain ⟨lw, hlw⟩ : ∃ e, e = withinR n2 1048576 := ⟨_, rfl⟩
  rw [← hlw] at HTE ⊢
  have HLW := Lib.hid hlw
  clear hn2 hrd5 hg5 hlw
  go_wp2_with fail
  refine HTE.out.mono ?_
  rintro r w6 ⟨v6, l, fin, n3, pl3, c3, pl6, c6, rfl, hn3, htes, hen, hrd6, hfin, hg6⟩
  have HTU : Hid (TUnit t e lw l fin c6) := Lib.hid ⟨n1, _, c1, n2, _, c2, n3, _, c3, by have := HN1.out; rwa [List.drop_zero] at this, HEE.out, HN2.out, HLW.out, hn3, htes⟩
  have HB6 : Hid (Below w.heap.size w w6) := Lib.hid (HB5.out.grown hg6 HB5.out.size fun j hj => by cases hj; exact HPW.out)
  obtain ⟨ao6, cap6, rfl⟩ := hen.val
  have hend := end_any hrd6
  have hec : endC (t.length - pl6) c6 = endC fin.length c6 := by
    by_cases hc : c6 = 0
    · rw [← hfin hc, List.length_drop]
    · unfold endC
      rw [if_pos hc, if_pos hc]
  rw [hec] at hend
  obtain ⟨c7, hc7⟩ : ∃ c, c = endC fin.length c6 := ⟨_, rfl⟩
  rw [← hc7] at hend
  have HC7 := Lib.hid hc7
  have HEND := Lib.hid hend
  have HEN := Lib.hid hen
  obtain ⟨nl, hnl⟩ : ∃ n, n = l.length := ⟨_, rfl⟩
  rw [← hnl] at HEN
  rw [← hnl]
  have HNL := Lib.hid hnl
  clear hn3 htes hen hrd6 hfin hg6 hend hec hc7 hnl
  go_wp2_with fail
  refine HEND.out.mono ?_
  rintro r w7 ⟨rfl, nd7, rfl⟩
  have hD7 : Below w6.heap.size w6 (w6.drewN nd7) := ⟨rfl, rfl, rfl, Nat.le_refl _, fun _ _ => rfl⟩
  obtain ⟨W7, hW7⟩ : ∃ W, W = w6.drewN nd7 := ⟨_, rfl⟩
  rw [← hW7] at hD7 ⊢
  have HB7 : Hid (Below w.heap.size w W7) := Lib.hid (HB6.out.trans (hD7.mono HB6.out.size))
  have HEN7 := Lib.hid (HEN.out.grown hD7)
  clear hD7 hW7
  by_cases hz2 : c7 = 0
  rotate_left
  · rw [errV_pos hz2]
    have HZ := Lib.hid hz2
    clear hz2
    go_wp2
    go_ret2
    exact ⟨HB7.out, unew, c7, ⟨t, 0, HFZ.out, by rw [if_neg (by decide)]; exact ⟨e, lw, l, fin, c6, HTU.out, by rw [← HC7.out, if_pos HZ.out]⟩⟩, .inl ⟨HZ.out, by rw [errV_pos HZ.out]; rfl⟩⟩
  have HZ2 : Hid (endC fin.length c6 = 0) := Lib.hid (by rw [← HC7.out, hz2])
  have hc6 := (endC_none HZ2.out).2
  subst hc6
  obtain ⟨hl6, h86, _, _⟩ := HTU.out.ok HT9.out
  have hof := uof_any (by have := HEN7.out.at'; rw [HNL.out] at this; exact this) h86 (by omega) (e : Int) (lw : Int)
  rw [← HNL.out] at hof
  have HOF := Lib.hid hof
  rw [hz2, errV_zero]
  clear hz2 hl6 h86 hof
  go_wp2_with fail
  refine HOF.out.mono ?_
  rintro r w8 ⟨hb8, h8⟩
  have HB8 : Hid (Below w.heap.size w w8) := Lib.hid (HB7.out.trans (hb8.mono HB7.out.size))
  have HSZ : Hid (w.heap.size ≤ W7.heap.size) := Lib.hid HB7.out.size
  clear hb8
  rcases h8 with ⟨h9, rfl⟩ | ⟨h9, u, m, B, rfl, hun, hu, hm, hB⟩
  · have HZ := Lib.hid h9
    obtain ⟨c8, hc8⟩ : ∃ c, c = ofC (e : Int) (lw : Int) l := ⟨_, rfl⟩
    rw [← hc8] at HZ ⊢
    have HC8 := Lib.hid hc8
    clear h9 hc8
    go_wp2
    go_ret2
    exact ⟨HB8.out, ⟨e, lw, l⟩, c8, ⟨t, 0, HFZ.out, by rw [if_neg (by decide)]; exact ⟨e, lw, l, fin, 0, HTU.out, by rw [HZ2.out, if_neg (by decide)]; exact ⟨HC8.out, fun _ => rfl⟩⟩⟩, .inl ⟨HZ.out, rfl⟩⟩
  · have HZ := Lib.hid h9
    have HUN := Lib.hid hun
    have HU := Lib.hid (show w.heap.size ≤ u from Nat.le_trans HSZ.out hu)
    have HM := Lib.hid (show w.heap.size ≤ m from Nat.le_trans HSZ.out hm)
    have HBJ : Hid (∀ j, B j → w.heap.size ≤ j) := Lib.hid fun j hj => Nat.le_trans HSZ.out (hB j hj)
    clear h9 hun hu hm hB
    go_wp2
    go_ret2
    exact ⟨HB8.out, ⟨e, lw, l⟩, 0, ⟨t, 0, HFZ.out, by rw [if_neg (by decide)]; exact ⟨e, lw, l, fin, 0, HTU.out, by rw [HZ2.out, if_neg (by decide)]; exact ⟨HZ.out.symm, fun _ => rfl⟩⟩⟩, .inr ⟨rfl, u, m, B, rfl, HUN.out, HU.out, HM.out, HBJ.out⟩⟩
end Go.Proofs.YtlckadlkgjfjcaaGreatDoor

namespace Go.Proofs.YtlckadlkgjfjcaaGreatDoor
open Go.RowKit

/-- What is answered, the unit then, an error's number. -/
def rapply (U : US) (k e a : Int) (d : List Nat) : Int × US × Nat :=
  if rchk k e a d.length ≠ 0 then (0, U, rchk k e a d.length) else if k = 1 then useal U e else if k = 2 then (0, (uwrite U e a d).1, (uwrite U e a d).2)
  else if k = 3 then (0, (ufill U e a).1, (ufill U e a).2) else if k = 4 then (0, (utrim U e a).1, (utrim U e a).2) else ucut U e a
section
variable {w W w' : World} {B : Nat → Prop} {u m : Nat} {U U' : US}
theorem UPost.from' (hb : Below w.heap.size w W) (hul : u < w.heap.size) (hml : m < w.heap.size) (h : UPost W B u m U' w') (hu : ¬ B u) (hm : ¬ B m) : UPost w B u m U' w' := by
  have hs := hb.size
  exact ⟨h.1.more (fun j _ hB => hB.elim .inl fun h => .inr (by omega)) (fun hc => hc.elim hu fun h => by omega) (fun hc => hc.elim hm fun h => by omega), (fr_below hb (fun _ => False)).trans h.2 (fun _ _ h => h.elim) (fun _ _ h => h)⟩
set_option maxHeartbeats 4000000 in
set_option maxRecDepth 100000 in
theorem rapply_any (h : Un w B u m U) (k e : Int) {a : Int} (ha : I64 a) {v : Value} {d : List Nat} (hr : Reads w .u8 v d) (h8 : ∀ y ∈ d, y < 256) :
    Calls Tryz.prog 141 #[.pointer (some ⟨u, 0, none⟩), .agg #[.int .i64 k, .int .i64 e, .int .i64 a, v]] w fun r w' => r = .returned (.tuple #[.int .i64 (rapply U k e a d).1, errV (rapply U k e a d).2.2]) ∧ UPost w B u m (rapply U k e a d).2.1 w' := by
  obtain ⟨ao, cap, rfl, _, _, _⟩ := hr.val
  obtain ⟨W1, hW1⟩ : ∃ W1, W1 = w.alloc (.cells #[.int .i64 k, .int .i64 e, .int .i64 a, .slice ao d.length cap] 67) := ⟨_, rfl⟩
  have hb1 : Below w.heap.size w W1 := by rw [hW1]; exact (Below.refl _ _).alloc (Nat.le_refl _) _
  have hx1 : W1.heap[w.heap.size]? = some (.cells #[.int .i64 k, .int .i64 e, .int .i64 a, .slice ao d.length cap] 67 (0, 0)) := by rw [hW1]; exact heap_alloc_new _ _
  have HX : Hid (∀ W, Below W1.heap.size W1 W → W.cell? ⟨w.heap.size, 0, none⟩ = some (.int .i64 k) ∧ W.cell? ⟨w.heap.size, 1, none⟩ = some (.int .i64 e) ∧ W.cell? ⟨w.heap.size, 2, none⟩ = some (.int .i64 a) ∧ W.cell? ⟨w.heap.size, 3, none⟩ = some (.slice ao d.length cap)) := Lib.hid fun W hb => by
    have h := (hb.block _ (Array.getElem?_eq_some_iff.1 hx1).1).trans hx1
    exact ⟨by rw [cell_of_row _ _ 0 _ _ _ h]; rfl, by rw [cell_of_row _ _ 1 _ _ _ h]; rfl, by rw [cell_of_row _ _ 2 _ _ _ h]; rfl, by rw [cell_of_row _ _ 3 _ _ _ h]; rfl⟩
  have HB1 := Lib.hid hb1
  have HD : Hid (∀ W, Below W1.heap.size W1 W → Reads W .u8 (.slice ao d.length cap) d) := Lib.hid fun W hb => (hr.new hb1).new hb
  have HU : Hid (∀ W, Below W1.heap.size W1 W → Un W B u m U) := Lib.hid fun W hb => (h.old hb1).old hb
  have HF : Hid (∀ W U' w', Below W1.heap.size W1 W → UPost W B u m U' w' → UPost w B u m U' w') := Lib.hid fun W U' w' hb hp => UPost.from' (hb1.trans (hb.mono hb1.size)) h.ult h.mlt hp h.nu h.nm
  have HCK := Lib.hid (rcheck9_any k e a ao d.length cap W1)
  obtain ⟨X, hX⟩ : ∃ X, X = rapply U k e a d := ⟨_, rfl⟩
  have HXE : Hid (X = if rchk k e a d.length ≠ 0 then (0, U, rchk k e a d.length) else if k = 1 then useal U e else if k = 2 then (0, (uwrite U e a d).1, (uwrite U e a d).2)
    else if k = 3 then (0, (ufill U e a).1, (ufill U e a).2) else if k = 4 then (0, (utrim U e a).1, (utrim U e a).2) else ucut U e a) := Lib.hid hX
  rw [← hX]
  obtain ⟨c, hc⟩ : ∃ c, c = rchk k e a d.length := ⟨_, rfl⟩
  rw [← hc] at HCK HXE
  have HA := Lib.hid ha
  have H8 := Lib.hid h8
  obtain ⟨x0, x1, x2, x3⟩ := HX.out W1 (Below.refl _ _)
  rw [hW1] at x0 x1 x2 x3
  have HW1 := Lib.hid hW1
  obtain ⟨nd, hnd⟩ : ∃ n, n = d.length := ⟨_, rfl⟩
  rw [← hnd] at HX HD HCK HW1 x3
  rw [← hnd]
  clear h hr h8 ha hb1 hx1 hX hc hW1 hnd
  go_enter Tryz.func141, Tryz.ntmps141
  go_wp2_with fail
  rw [← HW1.out]
  refine HCK.out.mono ?_
  rintro r w2 ⟨rfl, hb2⟩
  by_cases hz : c = 0
  rotate_left
  · have HE : Hid (X = (0, U, c)) := Lib.hid (by rw [HXE.out, if_pos hz])
    rw [errV_pos hz]
    have HZ := Lib.hid hz
    have HP : Hid (UPost w B u m U w2) := Lib.hid (HF.out w2 U w2 hb2 (UPost.same (HU.out w2 hb2) (Below.refl _ _)))
    clear hz hb2 x0 x1 x2 x3
    go_wp2
    go_ret2
    rw [HE.out]
    exact ⟨by rw [errV_pos HZ.out]; rfl, HP.out⟩
  have HX2 : Hid (X = if k = 1 then useal U e else if k = 2 then (0, (uwrite U e a d).1, (uwrite U e a d).2)
    else if k = 3 then (0, (ufill U e a).1, (ufill U e a).2) else if k = 4 then (0, (utrim U e a).1, (utrim U e a).2) else ucut U e a) := Lib.hid (by rw [HXE.out, if_neg (by omega)])
  have HB2 := Lib.hid hb2
  obtain ⟨x0, x1, x2, x3⟩ := HX.out w2 hb2
  have HU2 := Lib.hid (HU.out w2 hb2)
  rw [hz, errV_zero]
  clear hz hb2
  cases q1 : (k == 1)
  rotate_left
  · have HE : Hid (X = useal U e) := Lib.hid (by rw [HX2.out, if_pos (show k = 1 by simpa using q1)])
    have hcall := useal_any HU2.out e
    obtain ⟨er, her⟩ : ∃ er, er = errV (useal U e).2.2 := ⟨_, rfl⟩
    rw [← her] at hcall
    have HER := Lib.hid her
    have HCALL := Lib.hid hcall
    clear hcall her 
    go_wp2_with fail
    refine HCALL.out.mono ?_
    rintro r w3 ⟨rfl, hp3⟩
    have HP3 := Lib.hid (HF.out _ _ _ HB2.out hp3)
    clear hp3 x0 x1 x2 x3
    go_wp2
    go_ret2
    rw [HE.out]
    exact ⟨by rw [← HER.out]; rfl, HP3.out⟩
  cases q2 : (k == 2)
  rotate_left
  · have HE : Hid (X = (0, (uwrite U e a d).1, (uwrite U e a d).2)) := Lib.hid (by rw [HX2.out, if_neg (show ¬ k = 1 by simpa using q1), if_pos (show k = 2 by simpa using q2)])
    have hcall := uwrite_any HU2.out e HA.out (HD.out w2 HB2.out) H8.out
    obtain ⟨er, her⟩ : ∃ er, er = errV (uwrite U e a d).2 := ⟨_, rfl⟩
    rw [← her] at hcall
    have HER := Lib.hid her
    have HCALL := Lib.hid hcall
    clear hcall her 
    go_wp2_with fail
    refine HCALL.out.mono ?_
    rintro r w3 ⟨rfl, hp3⟩
    have HP3 := Lib.hid (HF.out _ _ _ HB2.out hp3)
    clear hp3 x0 x1 x2 x3
    go_wp2
    go_ret2
    rw [HE.out]
    exact ⟨by rw [← HER.out]; rfl, HP3.out⟩
  cases q3 : (k == 3)
  rotate_left
  · have HE : Hid (X = (0, (ufill U e a).1, (ufill U e a).2)) := Lib.hid (by rw [HX2.out, if_neg (show ¬ k = 1 by simpa using q1), if_neg (show ¬ k = 2 by simpa using q2), if_pos (show k = 3 by simpa using q3)])
    have hcall := ufill_any HU2.out e HA.out
    obtain ⟨er, her⟩ : ∃ er, er = errV (ufill U e a).2 := ⟨_, rfl⟩
    rw [← her] at hcall
    have HER := Lib.hid her
    have HCALL := Lib.hid hcall
    clear hcall her 
    go_wp2_with fail
    refine HCALL.out.mono ?_
    rintro r w3 ⟨rfl, hp3⟩
    have HP3 := Lib.hid (HF.out _ _ _ HB2.out hp3)
    clear hp3 x0 x1 x2 x3
    go_wp2
    go_ret2
    rw [HE.out]
    exact ⟨by rw [← HER.out]; rfl, HP3.out⟩
  cases q4 : (k == 4)
  rotate_left
  · have HE : Hid (X = (0, (utrim U e a).1, (utrim U e a).2)) := Lib.hid (by rw [HX2.out, if_neg (show ¬ k = 1 by simpa using q1), if_neg (show ¬ k = 2 by simpa using q2), if_neg (show ¬ k = 3 by simpa using q3), if_pos (show k = 4 by simpa using q4)])
    have hcall := utrim_any HU2.out e a
    obtain ⟨er, her⟩ : ∃ er, er = errV (utrim U e a).2 := ⟨_, rfl⟩
    rw [← her] at hcall
    have HER := Lib.hid her
    have HCALL := Lib.hid hcall
    clear hcall her 
    go_wp2_with fail
    refine HCALL.out.mono ?_
    rintro r w3 ⟨rfl, hp3⟩
    have HP3 := Lib.hid (HF.out _ _ _ HB2.out hp3)
    clear hp3 x0 x1 x2 x3
    go_wp2
    go_ret2
    rw [HE.out]
    exact ⟨by rw [← HER.out]; rfl, HP3.out⟩
  have HE : Hid (X = ucut U e a) := Lib.hid (by rw [HX2.out, if_neg (show ¬ k = 1 by simpa using q1), if_neg (show ¬ k = 2 by simpa using q2), if_neg (show ¬ k = 3 by simpa using q3), if_neg (show ¬ k = 4 by simpa using q4)])
  have hcall := ucut_any HU2.out e a
  obtain ⟨er, her⟩ : ∃ er, er = errV (ucut U e a).2.2 := ⟨_, rfl⟩
  rw [← her] at hcall
  have HER := Lib.hid her
  have HCALL := Lib.hid hcall
  clear hcall her 
  go_wp2_with fail
  refine HCALL.out.mono ?_
  rintro r w3 ⟨rfl, hp3⟩
  have HP3 := Lib.hid (HF.out _ _ _ HB2.out hp3)
  clear hp3 x0 x1 x2 x3
  go_wp2
  go_ret2
  rw [HE.out]
  exact ⟨by rw [← HER.out]; rfl, HP3.out⟩
end
end Go.Proofs.YtlckadlkgjfjcaaGreatDoor

namespace Go.Proofs.YtlckadlkgjfjcaaGreatDoor
open Go.RowKit

end Go.Proofs.YtlckadlkgjfjcaaGreatDoor
