/- A taker of runs in memory; the contracts of its upTo and endsWith. · The contract of a taker's endsWith. · A taker at work: its reader, its run, the last data; what changes which of them. · The contract of a taker's takeRow. · slices.Concat, whatever the texts, none of a byte too. · The contract of a taker's takeData. · An item of a run, as the program takes it, is an item as the document says it. · The contract of a taker's takeItem. · The contract of package cell's TakeRun. · The contract of package cell's Take. -/
import Derived.Test.YtiaijpknnomlnaaGreatCtP
import Derived.Test.YtiaijpknnomlnaaGreatRdP
import Derived.Test.YtiaijpknnomlnaaGreatCjP
import Derived.Test.YtiaijpknnomlnaaGreatGrowA
import Derived.Deep.RegionHeld3
import Derived.Test.YtiaijpknnomlnaaGreatCdP
namespace Go.Proofs.YtiaijpknnomlnaaGreat
open Go.RowKit

/-- A number up to a bound, and the error then. -/
def upR (n most : Nat) : Nat := if most < n then 0 else n
def upC (n c most code : Nat) : Nat := if most < n then (if c = 0 then code else c) else c
theorem up_bad {n c most code : Nat} (h : most < n) : upR n most = 0 ∧ upC n c most code = (if c = 0 then code else c) := ⟨if_pos h, if_pos h⟩
theorem up_good {n c most code : Nat} (h : ¬ most < n) : upR n most = n ∧ upC n c most code = c := ⟨if_neg h, if_neg h⟩
def UpPost (p : Nat) (rv : Value) (row : List Nat) (place c most code : Nat) (w : World) (e : Ending) (w' : World) : Prop :=
  ∃ n place' c1 : Nat, e = .returned (.int .i64 (upR n most : Nat)) ∧ NumRel (row.drop place) c n (row.drop place') c1 ∧ Rd w' p rv row place' (upC n c1 most code) ∧ w.grownBy w' (some p)

end Go.Proofs.YtiaijpknnomlnaaGreat

namespace Go.Proofs.YtiaijpknnomlnaaGreat
open Go.RowKit

/-- Does a run end with a cell of this kind? -/
def endB (acc : List (Int × Value)) (k : Int) : Bool := match acc.getLast? with | none => false | some x => x.1 == k

theorem OwnsI.at {w : World} {base : Nat} {ao : Option Addr} {n cap : Nat} {l : List (Int × Value)} (h : OwnsI w base (.slice ao n cap) l) {i : Nat} (hi : i < l.length) :
    ∃ g, ao = some ⟨g, 0, none⟩ ∧ g < w.heap.size ∧ w.cell? ⟨g, i * 2, none⟩ = some (.int .i64 l[i].1) ∧ w.cell? ⟨g, i * 2 + 1, none⟩ = some l[i].2 := by
  have h0 := h
  unfold OwnsI at h0
  rcases h.2 with ⟨_, hn⟩ | ⟨g, cap', cur, hv, hb, hg, _⟩
  · omega
  · cases hv
    obtain ⟨g1, g2⟩ := ivals_get l i hi
    exact ⟨g, rfl, (Array.getElem?_eq_some_iff.1 hg).1, by rw [h0.cellAt (i * 2) (by omega), g1], by rw [h0.cellAt (i * 2 + 1) (by omega), g2]⟩

end Go.Proofs.YtiaijpknnomlnaaGreat

namespace Go.Proofs.YtiaijpknnomlnaaGreat
open Go.RowKit

/-- What was made before base stays, but the reader. -/
structure Gr (base p : Nat) (w w' : World) : Prop where
  os : w'.os = w.os
  tape : w'.tape = w.tape
  output : w'.output = w.output
  size : w.heap.size ≤ w'.heap.size
  block : ∀ j, j < base → j ≠ p → w'.heap[j]? = w.heap[j]?
theorem Gr.refl (base p : Nat) (w : World) : Gr base p w w := ⟨rfl, rfl, rfl, Nat.le_refl _, fun _ _ _ => rfl⟩
theorem Gr.trans {base p : Nat} {a b c : World} (h : Gr base p a b) (k : Gr base p b c) : Gr base p a c :=
  ⟨k.os.trans h.os, k.tape.trans h.tape, k.output.trans h.output, Nat.le_trans h.size k.size, fun j hj hp => (k.block j hj hp).trans (h.block j hj hp)⟩
theorem gr_grown {base p : Nat} {w w' : World} {r : Option Nat} (h : w.grownBy w' r) (hb : base ≤ w.heap.size) (hr : ∀ j, r = some j → j = p ∨ base ≤ j) : Gr base p w w' :=
  ⟨h.os, h.tape, h.output, h.size, fun j hj hp => h.block j (by omega) (fun e => by rcases hr j e.symm with h | h <;> omega)⟩
theorem gr_below {base p : Nat} {w w' : World} (h : Below w.heap.size w w') (hb : base ≤ w.heap.size) : Gr base p w w' :=
  ⟨h.os, h.tape, h.output, h.size, fun j hj _ => h.block j (by omega)⟩

theorem Owns.ty {w : World} {base : Nat} {e : TypeId} {k : IntKind} {v : Value} {l : List Nat} (h : Owns w base e k v l) {j : Nat} (hj : v.ownBlock = some j) : ∃ cs, w.heap[j]? = some (.cells cs e (0, 0)) := by
  rcases h.2 with ⟨rfl, _⟩ | ⟨g, cap, cur, rfl, _, hg, _⟩
  · cases hj
  · cases hj; exact ⟨_, hg⟩
theorem OwnsI.ty {w : World} {base : Nat} {v : Value} {l : List (Int × Value)} (h : OwnsI w base v l) {j : Nat} (hj : v.ownBlock = some j) : ∃ cs, w.heap[j]? = some (.cells cs 99 (0, 0)) := by
  rcases h.2 with ⟨rfl, _⟩ | ⟨g, cap, cur, rfl, _, hg, _⟩
  · cases hj
  · cases hj; exact ⟨_, hg⟩
theorem OwnsI.ne_rd {w : World} {base p : Nat} {v rv : Value} {l : List (Int × Value)} {row : List Nat} {place c : Nat} (h : OwnsI w base v l) (hr : Rd w p rv row place c) : v.ownBlock ≠ some p := by
  intro hj
  obtain ⟨cs, hg⟩ := h.ty hj
  have := hg.symm.trans hr.blk
  cases this
theorem OwnsI.ne_row {w : World} {base p : Nat} {v rv : Value} {l : List (Int × Value)} {row : List Nat} {place c : Nat} (h : OwnsI w base v l) (hr : Rd w p rv row place c) : rv.ownBlock = none ∨ rv.ownBlock ≠ v.ownBlock := by
  cases hv : rv.ownBlock with
  | none => exact .inl rfl
  | some j =>
    right
    intro he
    obtain ⟨cs, hg⟩ := h.ty he.symm
    obtain ⟨cs2, hg2⟩ := hr.own.ty hv
    have := hg.symm.trans hg2
    cases this

section
variable {w w' : World} {base t p : Nat} {rv rnv lsv : Value} {row : List Nat} {place c : Nat} {acc : List (Int × Value)} {cs : List CC} {last : List Nat}

/-- Blocks of bytes stay where only a block that is none was written. -/
theorem kept_u8 {r : Option Nat} (hg : w.grownBy w' r) (hr : ∀ j, r = some j → ¬ ∃ cs, w.heap[j]? = some (.cells cs 5 (0, 0))) : Kept (Own w base 5) w w' :=
  ⟨hg.size, fun j hj hB => hg.block j hj (fun e => hr j e.symm hB.2)⟩

end

section
variable {w w' : World} {base t p : Nat} {rv rnv lsv : Value} {row : List Nat} {place c : Nat} {acc : List (Int × Value)} {cs : List CC} {last : List Nat}

/-- The kind of a run's last cell. -/
def lastK (cs : List CC) : Option Nat := cs.getLast?.map (·.1)
end

end Go.Proofs.YtiaijpknnomlnaaGreat

namespace Go.Proofs.YtiaijpknnomlnaaGreat
open Go.RowKit

theorem rep_snocC {α : Type} (j : Nat) (x : α) : List.replicate j x ++ [x] = List.replicate (j + 1) x := (List.replicate_succ' (n := j) (a := x)).symm

/-- The error behind a row's kind. -/
def rowC (k c1 : Nat) (lk : Option Nat) : Nat := if upC k c1 3 1 ≠ 0 then upC k c1 3 1 else if k = 1 ∨ lk = some k then 2 else 0
theorem up_zero {k c1 : Nat} (h : upC k c1 3 1 = 0) : c1 = 0 ∧ k ≤ 3 ∧ upR k 3 = k := by
  unfold upC upR at *
  split at h
  · split at h <;> omega
  · next h1 => exact ⟨h, by omega, if_neg h1⟩

end Go.Proofs.YtiaijpknnomlnaaGreat

namespace Go.Proofs.YtiaijpknnomlnaaGreat
open Go.RowKit

set_option maxHeartbeats 400000 in
set_option maxRecDepth 100000 in
theorem grow_zero (w : World) : Calls Tryz.prog 117 #[.slice none 0 0, .int .i64 0] w fun e w' => e = .returned (.slice none 0 0) ∧ w = w' := by
  go_enter Tryz.func117, Tryz.ntmps117
  go_wp2
  go_ret
  exact ⟨rfl, rfl⟩

theorem grow_all (n : Nat) (w : World) (hn : n ≤ 80000000000000) : Calls Tryz.prog 117 #[.slice none 0 0, .int .i64 (n : Int)] w fun e w' => ∃ v', e = .returned v' ∧ Owns w' w.heap.size 5 .u8 v' [] ∧ Below w.heap.size w w' := by
  by_cases h0 : n = 0
  · subst h0
    refine (grow_zero w).mono ?_
    rintro e w' ⟨rfl, rfl⟩
    exact ⟨_, rfl, owns_nil _ _ _ _, Below.refl _ _⟩
  · exact grow_any n w (by omega) (by omega)

set_option maxHeartbeats 1000000 in
set_option maxRecDepth 100000 in
theorem concat_all (v : Value) (ls : List (List Nat)) (out : List Nat) (w : World) (B : Nat → Prop) (hr : Txs w B v ls) (hout : out = ls.flatten) (hn : out.length ≤ 80000000000000) (hl : ls.length ≤ 80000000000000) :
    Calls Tryz.prog 92 #[v] w fun e w' => ∃ v', e = .returned v' ∧ Owns w' w.heap.size 5 .u8 v' out ∧ Below w.heap.size w w' := by
  obtain ⟨ao, cap, rfl, h1, h2, h3⟩ := hr.val
  have HR := Lib.hid hr; clear hr
  have HOUT := Lib.hid hout; clear hout
  go_enter Tryz.func92, Tryz.ntmps92
  go_wp2
  go_loopw [3, 5, 11] (fun sz _ i wr => ∃ k n : Nat, k ≤ ls.length ∧ i = .int .i64 (k : Int) ∧ sz = .int .i64 (n : Int) ∧ n = (ls.take k).flatten.length ∧ w = wr)
    (fun _ _ i _ => ls.length - (intOf i).toNat)
  case atStart => exact ⟨0, 0, Nat.zero_le _, rfl, rfl, by simp, rfl⟩
  case round =>
    obtain ⟨k, n, hk, rfl, rfl, hnn, rfl⟩ := hrel
    by_cases hlt : k < ls.length
    · obtain ⟨b, off, u, rfl, _, _, hcell, hat⟩ := HR.out.at hlt
      have hts := congrArg List.length (texts_take k hlt)
      rw [List.length_append, ← hnn] at hts
      have hle := texts_take_le ls (k + 1)
      have HOL := congrArg List.length HOUT.out
      generalize ls.getD k [] = t at hat hts
      obtain ⟨aot, capt, rfl, _, _, _⟩ := hat.reads.val
      have hsm : (n : Int) + (t.length : Int) ≤ 80000000000000 := by omega
      have HTS := Lib.hid hts
      clear hat hts hle hnn HOL
      have hlti : (k : Int) < ls.length := by omega
      have hnot : ¬ ((n : Int) + (t.length : Int) < 0) := by omega
      go_wp2
      go_roundw
      case rel => exact ⟨k + 1, n + t.length, by omega, by go_num, by go_num, HTS.out.symm, trivial⟩
      case measure => simp [intOf]; omega
    · obtain rfl : k = ls.length := by omega
      rw [List.take_length, ← HOUT.out] at hnn
      subst hnn
      go_wp2_with fail
      refine (grow_all out.length w (by omega)).mono ?_
      rintro e w1 ⟨v1, rfl, ho1, hb1⟩
      have HO1 := Lib.hid ho1
      have HB1 := Lib.hid hb1
      clear ho1 hb1
      go_wp2
      go_loopw [6, 8, 27] (fun sv _ i wr => ∃ k : Nat, k ≤ ls.length ∧ i = .int .i64 (k : Int) ∧ Owns wr w.heap.size 5 .u8 sv (ls.take k).flatten ∧ Below w.heap.size w wr)
        (fun _ _ i _ => ls.length - (intOf i).toNat)
      case atStart => exact ⟨0, Nat.zero_le _, rfl, HO1.out, HB1.out⟩
      case round =>
        obtain ⟨k, hk, rfl, hown, hbel⟩ := hrel
        have HOWN := Lib.hid hown
        have HBEL := Lib.hid hbel
        clear hown hbel
        by_cases hlt : k < ls.length
        · obtain ⟨b, off, u, rfl, _, _, hcell, hat⟩ := (HR.out.old HBEL.out).at hlt
          have hts := texts_take k hlt
          have hle := texts_take_le ls (k + 1)
          rw [hts, List.length_append] at hle
          have HOL := Lib.hid (congrArg List.length HOUT.out)
          generalize ls.getD k [] = t at hat hts hle
          obtain ⟨aot, capt, rfl, _, _, _⟩ := hat.reads.val
          have HT := Lib.hid hat.reads
          have HTS := Lib.hid hts
          clear hat hts
          have hlti : (k : Int) < ls.length := by omega
          go_wp2_with (at_builtin; go_must (refine wpList_app _ rfl _ _ 22 rfl w.heap.size 5 (.int .u8 0) 1 Tryz.underlying22 Tryz.info5 rfl .u8 _ (ls.take k).flatten rfl HOWN.out _ t rfl HT.out (by decide) ?c1 ?c3 ?_))
          case c1 => have := HOL.out; omega
          case c3 => exact HBEL.out.size
          intro v4 w4 ho4 hg4
          have HB4 : Hid (Below w.heap.size w w4) := Lib.hid (HBEL.out.grown hg4 HBEL.out.size (fun j hj => (HOWN.out.lt j hj).1))
          have HO4 : Hid (Owns w4 w.heap.size 5 .u8 v4 (ls.take (k + 1)).flatten) := Lib.hid (by rw [HTS.out]; exact ho4)
          clear ho4 hg4
          go_wp2
          go_roundw
          case rel => exact ⟨k + 1, by omega, by go_num, HO4.out, HB4.out⟩
          case measure => simp [intOf]; omega
        · obtain rfl : k = ls.length := by omega
          have hlast := HOWN.out
          rw [List.take_length, ← HOUT.out] at hlast
          have HL := Lib.hid hlast
          clear hlast
          go_wp2
          go_ret
          exact ⟨_, rfl, HL.out, HBEL.out⟩

end Go.Proofs.YtiaijpknnomlnaaGreat

namespace Go.Proofs.YtiaijpknnomlnaaGreat
open Go.RowKit

/-- A data cell, taken behind its nought: the text, the error, what is left. -/
def DataRel (last rest : List Nat) (c : Nat) (text rest' : List Nat) (c' : Nat) : Prop :=
  ∃ size r1 c1 s r2 c2 out c3, NumRel rest c size r1 c1 ∧ NumRel r1 (upC size c1 64 3) s r2 c2 ∧
    FixRel r2 (upC s c2 (min (upR size 64) last.length) 2) ((upR size 64 : Int) - (upR s (min (upR size 64) last.length) : Int)) out rest' c3 ∧
    text = last.take (upR s (min (upR size 64) last.length)) ++ out ∧ c' = (if upR s (min (upR size 64) last.length) < com last text then (if c3 = 0 then 2 else c3) else c3)

theorem fix_len {rest : List Nat} {c : Nat} {many : Int} {out rest' : List Nat} {c' : Nat} (h : FixRel rest c many out rest' c') (hm : many ≤ 64) : out.length ≤ 64 := by
  rcases h with ⟨_, rfl, _⟩ | ⟨_, _, rfl, _⟩ | ⟨_, h0, _, rfl, _⟩
  · simp
  · simp
  · rw [List.length_take]; omega
theorem upR_le (n most : Nat) : upR n most ≤ most := by unfold upR; split <;> omega

end Go.Proofs.YtiaijpknnomlnaaGreat

namespace Go.Proofs.YtiaijpknnomlnaaGreat
open Go.RowKit

theorem com_ge : ∀ (a b : List Nat) (n : Nat), n ≤ a.length → n ≤ b.length → a.take n = b.take n → n ≤ com a b
  | _, _, 0, _, _, _ => Nat.zero_le _
  | [], _, n + 1, h, _, _ => by simp at h
  | _ :: _, [], n + 1, _, h, _ => by simp at h
  | x :: a, y :: b, n + 1, h1, h2, h3 => by
    simp only [List.take_succ_cons, List.cons.injEq] at h3
    unfold com
    rw [if_pos h3.1]
    have := com_ge a b n (by simpa using h1) (by simpa using h2) h3.2
    omega

/-- The kind of the row just ahead, of a run's last kind. -/
def rowO : Option Nat → Option Nat
  | none => none
  | some k => if k = 1 then none else some k
theorem rowO_iff {lk : Option Nat} {k : Nat} (hk : k ≠ 1) : rowO lk = some k ↔ lk = some k := by
  cases lk with
  | none => simp [rowO]
  | some j =>
    simp only [rowO]
    split
    · next h => subst h; simp; exact fun e => hk e.symm
    · simp
theorem within_up (k c : Nat) : withinC k c 3 = upC k c 3 1 := by
  unfold withinC upC
  by_cases h : 3 < k
  · rw [if_pos (.inl h), if_pos h]
  · rw [if_neg (by omega), if_neg h]

theorem numr_err {rest r1 : List Nat} {c n c1 : Nat} (h : NumRel rest c n r1 c1) (hc : c1 ≠ 0) : n = 0 := by
  rcases h with ⟨_, h, _⟩ | ⟨_, _, _, h⟩ | ⟨_, h, _⟩
  · exact h
  · exact absurd h hc
  · exact h
theorem numr_had {rest r1 : List Nat} {c n c1 : Nat} (h : NumRel rest c n r1 c1) (hc : c ≠ 0) : n = 0 ∧ c1 = c := by
  rcases h with ⟨_, h, _, h2⟩ | ⟨h, _⟩ | ⟨h, _⟩
  · exact ⟨h, h2⟩
  · exact absurd h hc
  · exact absurd h hc
theorem upC_had {n c1 most code c : Nat} (hn : n = 0) (h1 : c1 = c) : upC n c1 most code = c := by
  subst hn h1
  unfold upC
  rw [if_neg (by omega)]
theorem upR_nought (most : Nat) : upR 0 most = 0 := by unfold upR; split <;> rfl

/-- With an error ahead nothing is taken, and it stays. -/
theorem data_had {last rest : List Nat} {c c' : Nat} {text rest' : List Nat} (h : DataRel last rest c text rest' c') (hc : c ≠ 0) : c' = c := by
  obtain ⟨size, r1, c1, s, r2, c2, out, c3, h1, h2, h3, ht, hcc⟩ := h
  obtain ⟨hs0, hc1⟩ := numr_had h1 hc
  have hu1 : upC size c1 64 3 = c := upC_had hs0 hc1
  rw [hu1] at h2
  obtain ⟨hs2, hc2⟩ := numr_had h2 hc
  rw [upC_had hs2 hc2] at h3
  rcases h3 with ⟨_, ho, _, h3⟩ | ⟨h, _⟩ | ⟨h, _⟩
  · rw [hs2, upR_nought, List.take_zero, ho] at ht
    rw [hcc, hs2, upR_nought, ht, if_neg (by rw [com_none']; omega)]
    exact h3
  · exact absurd h hc
  · exact absurd h hc
where com_none' {d : List Nat} : com d ([] ++ []) = 0 := by cases d <;> rfl

theorem data_item {left : Nat} {last rest r1 : List Nat} {row : Option Nat} {text rest' : List Nat} {c' : Nat} (hn : NumRel rest 0 0 r1 0) (hll : last.length ≤ 64) (h : DataRel last r1 0 text rest' c') :
    ∃ cells last' row' rest'', Item left last row rest cells last' row' rest'' c' ∧ (c' = 0 → cells = [(1, text)] ∧ last' = text ∧ row' = none ∧ rest'' = rest' ∧ text.length ≤ 64) := by
  obtain ⟨size, r2, c2, s, r3, c3, out, c4, h1, h2, h3, ht, hcc⟩ := h
  by_cases hc2 : c2 = 0
  · subst hc2
    by_cases h64 : 64 < size
    · have hu : upC size 0 64 3 = 3 := by unfold upC; rw [if_pos h64, if_pos rfl]
      have hr : upR size 64 = 0 := (up_bad (c := 0) (code := 0) h64).1
      rw [hu] at h2
      obtain ⟨hs2, hc3⟩ := numr_had h2 (by decide)
      rw [upC_had hs2 hc3] at h3
      have : c' = 3 := by
        rcases h3 with ⟨_, ho, _, h3⟩ | ⟨h, _⟩ | ⟨h, _⟩
        · rw [hcc, ht, hs2, upR_nought, List.take_zero, ho, h3]
          rw [if_neg]
          cases last <;> simp [com]
        · cases h
        · cases h
      subst this
      exact ⟨[], [], none, [], ⟨0, r1, 0, hn, .inr (.inr (.inr ⟨rfl, rfl, size, r2, 0, h1, .inr (.inl ⟨rfl, h64, rfl, rfl, rfl, rfl, rfl⟩)⟩))⟩, fun h => by cases h⟩
    · have hu : upC size 0 64 3 = 0 := (up_good (c := 0) (code := 3) h64).2
      have hr : upR size 64 = size := (up_good (c := 0) (code := 3) h64).1
      rw [hu] at h2
      rw [hr] at h3 ht hcc
      by_cases hc3 : c3 = 0
      · subst hc3
        by_cases hs : min size last.length < s
        · have hu2 : upC s 0 (min size last.length) 2 = 2 := by unfold upC; rw [if_pos hs, if_pos rfl]
          have hr2 : upR s (min size last.length) = 0 := (up_bad (c := 0) (code := 0) hs).1
          rw [hu2] at h3
          have : c' = 2 := by
            rcases h3 with ⟨_, ho, _, h3⟩ | ⟨h, _⟩ | ⟨h, _⟩
            · rw [hcc, ht, hr2, List.take_zero, ho, h3]
              rw [if_neg]
              cases last <;> simp [com]
            · cases h
            · cases h
          subst this
          exact ⟨[], [], none, [], ⟨0, r1, 0, hn, .inr (.inr (.inr ⟨rfl, rfl, size, r2, 0, h1, .inr (.inr ⟨rfl, by omega, s, r3, 0, h2, .inr (.inl ⟨rfl, by omega, rfl, rfl, rfl, rfl, rfl⟩)⟩)⟩))⟩, fun h => by cases h⟩
        · have hu2 : upC s 0 (min size last.length) 2 = 0 := (up_good (c := 0) (code := 2) hs).2
          have hr2 : upR s (min size last.length) = s := (up_good (c := 0) (code := 2) hs).1
          rw [hu2, hr2] at h3
          rw [hr2] at ht hcc
          have hs1 : s ≤ size := by omega
          have hs2 : s ≤ last.length := by omega
          rcases h3 with ⟨h, _⟩ | ⟨_, hm, ho, _, h4⟩ | ⟨_, _, hm, ho, hrr, h4⟩
          · exact absurd rfl h
          · have hcom : com last text = s := by
              rw [ht, ho, List.append_nil]
              refine com_eq last (last.take s) s hs2 (by rw [List.length_take]; omega) (by rw [List.take_take]; simp) (.inr (.inl (by rw [List.length_take]; omega)))
            have : c' = 2 := by rw [hcc, hcom, if_neg (by omega), h4]
            subst this
            exact ⟨[], [], none, [], ⟨0, r1, 0, hn, .inr (.inr (.inr ⟨rfl, rfl, size, r2, 0, h1, .inr (.inr ⟨rfl, by omega, s, r3, 0, h2, .inr (.inr ⟨rfl, hs1, hs2, .inl ⟨by omega, rfl, rfl, rfl, rfl, rfl⟩⟩)⟩)⟩))⟩, fun h => by cases h⟩
          · have hmany : ((size : Int) - (s : Int)).toNat = size - s := by omega
            rw [hmany] at ho hrr
            rw [ho] at ht
            have htl : text.length = size := by rw [ht, List.length_append, List.length_take, List.length_take]; omega
            have htt : text.take s = last.take s := by rw [ht, List.take_left' (by rw [List.length_take]; omega)]
            have hge : s ≤ com text last := com_ge text last s (by omega) hs2 htt
            rw [com_comm] at hcc
            by_cases hc : com text last = s
            · have : c' = 0 := by rw [hcc, hc, if_neg (by omega), h4]
              subst this
              refine ⟨[(1, text)], text, none, rest', ⟨0, r1, 0, hn, .inr (.inr (.inr ⟨rfl, rfl, size, r2, 0, h1, .inr (.inr ⟨rfl, by omega, s, r3, 0, h2, .inr (.inr ⟨rfl, hs1, hs2, .inr (.inr ⟨by omega, ?_, ?_, ?_, rfl, hrr, rfl⟩)⟩)⟩)⟩))⟩, fun _ => ⟨rfl, rfl, rfl, rfl, by omega⟩⟩
              · rw [← ht]; exact hc
              · rw [← ht]
              · exact ht
            · have : c' = 2 := by rw [hcc, if_pos (by omega), h4, if_pos rfl]
              subst this
              exact ⟨[], [], none, [], ⟨0, r1, 0, hn, .inr (.inr (.inr ⟨rfl, rfl, size, r2, 0, h1, .inr (.inr ⟨rfl, by omega, s, r3, 0, h2, .inr (.inr ⟨rfl, hs1, hs2, .inr (.inl ⟨by omega, by rw [← ht]; exact hc, rfl, rfl, rfl, rfl, rfl⟩)⟩)⟩)⟩))⟩, fun h => by cases h⟩
      · have hs0 := numr_err h2 hc3
        have hu2 : upC s c3 (min size last.length) 2 = c3 := upC_had hs0 rfl
        rw [hu2] at h3
        have : c' = c3 := by
          rcases h3 with ⟨_, ho, _, h3⟩ | ⟨h, _⟩ | ⟨h, _⟩
          · rw [hcc, ht, hs0, upR_nought, List.take_zero, ho, h3]
            rw [if_neg]
            cases last <;> simp [com]
          · exact absurd h hc3
          · exact absurd h hc3
        subst this
        exact ⟨[], [], none, [], ⟨0, r1, 0, hn, .inr (.inr (.inr ⟨rfl, rfl, size, r2, 0, h1, .inr (.inr ⟨rfl, by omega, s, r3, c', h2, .inl ⟨hc3, rfl, rfl, rfl, rfl, rfl⟩⟩)⟩))⟩, fun h => absurd h hc3⟩
  · have hs0 := numr_err h1 hc2
    have hu : upC size c2 64 3 = c2 := upC_had hs0 rfl
    rw [hu] at h2
    obtain ⟨hs2, hc3⟩ := numr_had h2 hc2
    rw [upC_had hs2 hc3] at h3
    have : c' = c2 := by
      rcases h3 with ⟨_, ho, _, h3⟩ | ⟨h, _⟩ | ⟨h, _⟩
      · rw [hcc, ht, hs2, upR_nought, List.take_zero, ho, h3]
        rw [if_neg]
        cases last <;> simp [com]
      · exact absurd h hc2
      · exact absurd h hc2
    subst this
    exact ⟨[], [], none, [], ⟨0, r1, 0, hn, .inr (.inr (.inr ⟨rfl, rfl, size, r2, c', h1, .inl ⟨hc2, rfl, rfl, rfl, rfl, rfl⟩⟩))⟩, fun h => absurd h hc2⟩

theorem row_item {left n : Nat} {last rest r1 r2 : List Nat} {lk : Option Nat} {k c1 : Nat} (hn : NumRel rest 0 n r1 0) (h0 : 0 < n) (hl : n ≤ left) (hk : NumRel r1 0 k r2 c1) :
    ∃ cells last' row' rest', Item left last (rowO lk) rest cells last' row' rest' (rowC k c1 lk) ∧ (rowC k c1 lk = 0 → cells = List.replicate n (k, []) ∧ last' = last ∧ row' = some k ∧ rest' = r2 ∧ k ≠ 1) := by
  by_cases hu : upC k c1 3 1 = 0
  · obtain ⟨rfl, hk3, _⟩ := up_zero hu
    by_cases hb : k = 1 ∨ lk = some k
    · have hc : rowC k 0 lk = 2 := by unfold rowC; rw [if_neg (by simpa using hu), if_pos hb]
      rw [hc]
      refine ⟨[], [], none, [], ⟨n, r1, 0, hn, .inr (.inr (.inl ⟨rfl, h0, hl, k, r2, 0, hk, .inr (.inl ⟨by rw [within_up]; exact hu, ?_, rfl, rfl, rfl, rfl, rfl⟩)⟩))⟩, fun h => by cases h⟩
      rcases hb with hb | hb
      · exact .inl hb
      · by_cases h1 : k = 1
        · exact .inl h1
        · exact .inr ((rowO_iff h1).2 hb)
    · have hc : rowC k 0 lk = 0 := by unfold rowC; rw [if_neg (by simpa using hu), if_neg hb]
      have h1 : k ≠ 1 := fun h => hb (.inl h)
      rw [hc]
      exact ⟨List.replicate n (k, []), last, some k, r2, ⟨n, r1, 0, hn, .inr (.inr (.inl ⟨rfl, h0, hl, k, r2, 0, hk, .inr (.inr ⟨by rw [within_up]; exact hu, h1, fun h => hb (.inr ((rowO_iff h1).1 h)), rfl, rfl, rfl, rfl, rfl⟩)⟩))⟩, fun _ => ⟨rfl, rfl, rfl, rfl, h1⟩⟩
  · have hc : rowC k c1 lk = upC k c1 3 1 := by unfold rowC; rw [if_pos hu]
    rw [hc]
    exact ⟨[], [], none, [], ⟨n, r1, 0, hn, .inr (.inr (.inl ⟨rfl, h0, hl, k, r2, c1, hk, .inl ⟨by rw [within_up]; exact hu, rfl, rfl, rfl, rfl, by rw [within_up]⟩⟩))⟩, fun h => absurd h hu⟩

end Go.Proofs.YtiaijpknnomlnaaGreat

namespace Go.Proofs.YtiaijpknnomlnaaGreat
open Go.RowKit

theorem lastK_data (cs : List CC) (d : List Nat) : rowO (lastK (cs ++ [(1, d)])) = none := by simp [lastK, rowO]
theorem lastK_row (cs : List CC) {n k : Nat} (hn : 0 < n) (hk : k ≠ 1) : rowO (lastK (cs ++ List.replicate n (k, []))) = some k := by
  obtain ⟨m, rfl⟩ : ∃ m, n = m + 1 := ⟨n - 1, by omega⟩
  unfold lastK
  rw [List.replicate_succ', ← List.append_assoc, List.getLast?_append]
  simp [rowO, hk]

end Go.Proofs.YtiaijpknnomlnaaGreat

namespace Go.Proofs.YtiaijpknnomlnaaGreat
open Go.RowKit

/-- What TakeRun answers. -/
def TRunPost (p : Nat) (rv : Value) (row : List Nat) (place c : Nat) (w : World) (e : Ending) (w' : World) : Prop :=
  ∃ (v' : Value) (run : List CC) (place' c' : Nat) (fin : List Nat), e = .returned v' ∧ TRun (row.drop place) c run c' fin ∧ Rd w' p rv row place' c' ∧ (c' = 0 → row.drop place' = fin) ∧ w.grownBy w' (some p) ∧
    CellsAt w' (fun j => w.heap.size ≤ j ∧ ∃ cs fr, w'.heap[j]? = some (.cells cs fr (0, 0))) v' (run.map toIC) ∧
    ∃ acc : List (Int × Value), OwnsI w' w.heap.size v' acc ∧ acc.length = run.length ∧ ∀ i, (hi : i < acc.length) → At w' (Own w' w.heap.size 5) .u8 acc[i].2 (run.getD i (0, [])).2

theorem Gr.grownBy {p : Nat} {w w' : World} (h : Gr w.heap.size p w w') : w.grownBy w' (some p) :=
  ⟨h.os, h.tape, h.output, h.size, fun j hj hp => h.block j hj (fun e => hp (by rw [e]))⟩
theorem stop_item {left : Nat} {last : List Nat} {row : Option Nat} {rest : List Nat} {a : List CC} {b : List Nat} {r : Option Nat} {d : List Nat} {c : Nat} (h0 : 0 < left) (h : Item left last row rest a b r d c) (hc : c ≠ 0) : TI left last row rest [] c [] := .stop h0 h hc

/-- A flag: no error. -/
def noErr : Value → Nat
  | .nilIface => 1
  | _ => 0

end Go.Proofs.YtiaijpknnomlnaaGreat

namespace Go.Proofs.YtiaijpknnomlnaaGreat
open Go.RowKit

/-- What Take answers. -/
def CTakePost (p : Nat) (rv : Value) (row : List Nat) (place c : Nat) (w : World) (e : Ending) (w' : World) : Prop :=
  ∃ (v' : Value) (k : Nat) (d : List Nat) (place' c' : Nat) (fin : List Nat), e = .returned (.agg #[.int .i64 (k : Int), v']) ∧ TCell (row.drop place) c k d c' fin ∧ Rd w' p rv row place' c' ∧ (c' = 0 → row.drop place' = fin) ∧
    Owns w' w.heap.size 5 .u8 v' d ∧ w.grownBy w' (some p)

theorem Rd.putC {w : World} {p q : Nat} {rv : Value} {row : List Nat} {place c : Nat} {cs : Array Value} (h : Rd w p rv row place c) (hq : w.heap[q]? = some (.cells cs 99 (0, 0))) (i : Nat) (x : Value) : Rd (w.setCell ⟨q, i, none⟩ x) p rv row place c := by
  refine h.grown (grown_set w q i x) ?_ ?_
  · intro e
    cases e
    have := hq.symm.trans h.blk
    cases this
  · cases hv : rv.ownBlock with
    | none => exact .inl rfl
    | some j =>
      right
      intro he
      cases he
      obtain ⟨c2, h2⟩ := h.own.ty hv
      have := h2.symm.trans hq
      cases this
theorem Owns.putC {w : World} {base q : Nat} {v : Value} {l : List Nat} {cs : Array Value} (h : Owns w base 5 .u8 v l) (hq : w.heap[q]? = some (.cells cs 99 (0, 0))) (i : Nat) (x : Value) : Owns (w.setCell ⟨q, i, none⟩ x) base 5 .u8 v l := by
  refine h.grown (grown_set w q i x) ?_
  cases hv : v.ownBlock with
  | none => exact .inl rfl
  | some j =>
    right
    intro he
    cases he
    obtain ⟨c2, h2⟩ := h.ty hv
    have := h2.symm.trans hq
    cases this
theorem grown_put {w w' : World} {p q : Nat} (h : w.grownBy w' (some p)) (hq : w.heap.size ≤ q) (i : Nat) (x : Value) : w.grownBy (w'.setCell ⟨q, i, none⟩ x) (some p) :=
  grownBy_trans h (grown_set w' q i x) (fun j hj h2 => by cases hj; omega)

set_option maxHeartbeats 4000000 in
set_option maxRecDepth 100000 in
theorem cellTake_any {w : World} {p : Nat} {rv : Value} {row : List Nat} {place c : Nat} (hr : Rd w p rv row place c) :
    Calls Tryz.prog 85 #[.pointer (some ⟨p, 0, none⟩)] w (CTakePost p rv row place c w) := by
  obtain ⟨W0, hW0⟩ : ∃ W0, W0 = w.alloc (.cells #[.int .i64 0, .slice none 0 0] 99) := ⟨_, rfl⟩
  have hb0 : Below w.heap.size w W0 := by rw [hW0]; exact (Below.refl _ _).alloc (Nat.le_refl _) _
  have hR0 : W0.heap[w.heap.size]? = some (.cells #[.int .i64 0, .slice none 0 0] 99 (0, 0)) := by rw [hW0]; exact heap_alloc_new _ _
  have HR0 := Lib.hid hR0
  have HRD0 := Lib.hid (hr.below hb0 (Nat.le_refl _))
  have HB0 := Lib.hid hb0
  have HPL : Hid (p < w.heap.size) := Lib.hid hr.lt
  clear hb0 hR0 hr
  go_enter Tryz.func85, Tryz.ntmps85
  go_wp2_with fail
  rw [← hW0]
  refine (within_any HRD0.out 3).mono ?_
  rintro e w1 ⟨n, pl1, c1, rfl, hn, hrd, hg⟩
  obtain ⟨z, hz⟩ : ∃ z, z = withinR n 3 := ⟨_, rfl⟩
  obtain ⟨d, hd⟩ : ∃ d, d = withinC n c1 3 := ⟨_, rfl⟩
  rw [← hd] at hrd
  rw [← hz]
  have HN := Lib.hid hn
  have HZ := Lib.hid hz
  have HD := Lib.hid hd
  have HSW : Hid (w.heap.size < w1.heap.size) := Lib.hid (Nat.lt_of_lt_of_le (Array.getElem?_eq_some_iff.1 HR0.out).1 hg.size)
  have HR1 : Hid (w1.heap[w.heap.size]? = some (.cells #[.int .i64 0, .slice none 0 0] 99 (0, 0))) := Lib.hid ((hg.block _ (Array.getElem?_eq_some_iff.1 HR0.out).1 (fun e => by have := HPL.out; cases e; omega)).trans HR0.out)
  have hg1 : w.grownBy w1 (some p) := grownBy_trans (row := some p) ⟨HB0.out.os, HB0.out.tape, HB0.out.output, HB0.out.size, fun j hj _ => HB0.out.block j hj⟩ hg (fun j hj _ => hj)
  obtain ⟨W2, hW2⟩ : ∃ W2, W2 = w1.alloc (.cells #[.int .i64 (z : Int), .slice none 0 0] 99) := ⟨_, rfl⟩
  have hb2 : Below w1.heap.size w1 W2 := by rw [hW2]; exact (Below.refl _ _).alloc (Nat.le_refl _) _
  have HQ2 : Hid (W2.heap[w1.heap.size]? = some (.cells #[.int .i64 (z : Int), .slice none 0 0] 99 (0, 0))) := Lib.hid (by rw [hW2]; exact heap_alloc_new _ _)
  have HR2 : Hid (W2.heap[w.heap.size]? = some (.cells #[.int .i64 0, .slice none 0 0] 99 (0, 0))) := Lib.hid ((hb2.block _ HSW.out).trans HR1.out)
  have HX2 := Lib.hid (hrd.below hb2 (Nat.le_refl _))
  have HG2 : Hid (w.grownBy W2 (some p)) := Lib.hid (grownBy_trans hg1 (row1 := none) ⟨hb2.os, hb2.tape, hb2.output, hb2.size, fun j hj _ => hb2.block j hj⟩ (fun j hj _ => by cases hj))
  have HS2 : Hid (w.heap.size ≤ W2.heap.size) := Lib.hid (by have := HSW.out; have := hb2.size; omega)
  obtain ⟨a0, a1, a2, a3⟩ := blk2 HQ2.out
  have HW2 := Lib.hid hW2
  clear hz hd hn hg hrd hb2 hW2 hg1 HB0 HRD0 HR0 HR1
  by_cases hz1 : z = 1
  · have hz1i : ((z : Int) == 1) = true := by rw [hz1]; rfl
    have HN1 : Hid (n = 1 ∧ d = c1 ∧ z = 1) := Lib.hid (by
      have h1 := HZ.out
      have h2 := HD.out
      unfold withinR at h1
      unfold withinC at h2
      split at h1
      · omega
      · have : n = 1 := by omega
        subst this
        rw [if_neg (by omega)] at h2
        exact ⟨rfl, h2, hz1⟩)
    clear hz1
    go_wp2_with fail
    rw [← HW2.out]
    refine (text_any HX2.out 64 (by decide) (by decide)).mono ?_
    rintro e w3 ⟨v3, out, m, pl2, c2, pl3, cc, rfl, hm, hf, ho, hrd3, hg3⟩
    obtain ⟨ao3, cap3, rfl, _, _, _⟩ := ho.reads.val
    have hbp : w1.heap.size ≠ p := by have := HPL.out; have := HSW.out; omega
    have HQ3 : Hid (w3.heap[w1.heap.size]? = some (.cells #[.int .i64 (z : Int), .slice none 0 0] 99 (0, 0))) := Lib.hid ((hg3.block _ (Array.getElem?_eq_some_iff.1 HQ2.out).1 (fun e => hbp (by cases e; rfl))).trans HQ2.out)
    have HR3 : Hid (w3.heap[w.heap.size]? = some (.cells #[.int .i64 0, .slice none 0 0] 99 (0, 0))) := Lib.hid ((hg3.block _ (Array.getElem?_eq_some_iff.1 HR2.out).1 (fun e => by have := HPL.out; cases e; omega)).trans HR2.out)
    obtain ⟨W4, hW4⟩ : ∃ W4, W4 = w3.setCell ⟨w1.heap.size, 1, none⟩ (.slice ao3 out.length cap3) := ⟨_, rfl⟩
    have HX4 : Hid (Rd W4 p rv row pl3 cc) := Lib.hid (by rw [hW4]; exact hrd3.putC HQ3.out 1 _)
    have HO4 : Hid (Owns W4 w.heap.size 5 .u8 (.slice ao3 out.length cap3) out) := Lib.hid (by rw [hW4]; exact (ho.mono HS2.out).putC HQ3.out 1 _)
    have HQ4 : Hid (W4.heap[w1.heap.size]? = some (.cells #[.int .i64 (z : Int), .slice ao3 out.length cap3] 99 (0, 0))) := Lib.hid (by rw [hW4, heap_setCell_same _ _ 1 _ _ _ HQ3.out]; rfl)
    have HR4 : Hid (W4.heap[w.heap.size]? = some (.cells #[.int .i64 0, .slice none 0 0] 99 (0, 0))) := Lib.hid (by rw [hW4, heap_setCell_other _ _ _ _ (by have := HSW.out; simp; omega)]; exact HR3.out)
    have HG4 : Hid (w.grownBy W4 (some p)) := Lib.hid (by rw [hW4]; exact grown_put (grownBy_trans HG2.out hg3 (fun j hj _ => hj)) (Nat.le_of_lt HSW.out) 1 _)
    obtain ⟨g0, g1, g2, g3⟩ := blk2 HQ3.out
    have HW4 := Lib.hid hW4
    have HM := Lib.hid hm
    have HF := Lib.hid hf
    clear hW4 hm hf ho hrd3 hg3 hbp a0 a1 a2 a3 HX2 HQ2 HR2 HG2
    go_wp2_with fail
    rw [← HW4.out]
    obtain ⟨r0, r1, r2, r3⟩ := blk2 HR4.out
    obtain ⟨q0, q1, q2, q3⟩ := blk2 HQ4.out
    have hz9 := set2 (x := .int .i64 (z : Int)) (y := .slice ao3 out.length cap3) HR4.out
    obtain ⟨s0, s1, _, _⟩ := blk2 hz9
    have hz8 := set2 (x := .int .i64 0) (y := .slice none 0 0) HR4.out
    obtain ⟨y0, y1, _, _⟩ := blk2 hz8
    clear hz9 hz8
    refine (err_any HX4.out).mono ?_
    rintro e w9 ⟨rfl, rfl⟩
    by_cases h0 : cc = 0
    · have HT : Hid (TCell (row.drop place) c z out cc (row.drop pl3)) := Lib.hid (⟨n, _, c1, HN.out, .inr ⟨HN1.out.1, m, _, c2, out, _, cc, by have := HM.out; rw [HN1.out.2.1] at this; exact this, HF.out, .inr ⟨h0, HN1.out.2.2, rfl, h0, rfl⟩⟩⟩)
      rw [h0, errV_zero]
      rw [h0] at HT
      have HXX := HX4
      rw [h0] at HXX
      clear h0
      go_wp2
      refine bodyPost_ret (v := .agg #[.int .i64 (z : Int), .slice ao3 out.length cap3]) (by simp [results, Tryz.results85, go_sem, s0, s1]) rfl ⟨.slice ao3 out.length cap3, z, out, pl3, 0, _, rfl, HT.out, ?_, fun _ => rfl, ?_, ?_⟩
      · exact (HXX.out.putC HR4.out 0 _).putC (heap_setCell_same _ _ 0 _ _ _ HR4.out) 1 _
      · exact (HO4.out.putC HR4.out 0 _).putC (heap_setCell_same _ _ 0 _ _ _ HR4.out) 1 _
      · exact grown_put (grown_put HG4.out (Nat.le_refl _) 0 _) (Nat.le_refl _) 1 _
    · have HT : Hid (TCell (row.drop place) c 0 [] cc []) := Lib.hid (⟨n, _, c1, HN.out, .inr ⟨HN1.out.1, m, _, c2, out, _, cc, by have := HM.out; rw [HN1.out.2.1] at this; exact this, HF.out, .inl ⟨h0, rfl, rfl, rfl, rfl⟩⟩⟩)
      have H0 := Lib.hid h0
      rw [errV_pos h0]
      clear h0
      go_wp2
      refine bodyPost_ret (v := .agg #[.int .i64 0, .slice none 0 0]) (by simp [results, Tryz.results85, go_sem, y0, y1]) rfl ⟨.slice none 0 0, 0, [], pl3, cc, [], rfl, HT.out, ?_, fun h => absurd h H0.out, owns_nil _ _ _ _, ?_⟩
      · exact (HX4.out.putC HR4.out 0 _).putC (heap_setCell_same _ _ 0 _ _ _ HR4.out) 1 _
      · exact grown_put (grown_put HG4.out (Nat.le_refl _) 0 _) (Nat.le_refl _) 1 _
  · have hz1i : ((z : Int) == 1) = false := by rw [beq_eq_false_iff_ne]; omega
    have HN1 : Hid (n ≠ 1 ∧ (d = 0 → z = n)) := Lib.hid (by
      have h1 := HZ.out
      have h2 := HD.out
      unfold withinR at h1
      unfold withinC at h2
      refine ⟨fun h => ?_, fun h => ?_⟩
      · subst h
        rw [if_neg (by omega)] at h1
        exact hz1 h1
      · split at h1
        · next h3 => rw [h] at h2; (repeat' split at h2) <;> omega
        · exact h1)
    clear hz1
    go_wp2_with fail
    rw [← HW2.out]
    obtain ⟨r0, r1, r2, r3⟩ := blk2 HR2.out
    obtain ⟨q0, q1, q2, q3⟩ := blk2 HQ2.out
    have hz9 := set2 (x := .int .i64 (z : Int)) (y := .slice none 0 0) HR2.out
    obtain ⟨s0, s1, _, _⟩ := blk2 hz9
    have hz8 := set2 (x := .int .i64 0) (y := .slice none 0 0) HR2.out
    obtain ⟨y0, y1, _, _⟩ := blk2 hz8
    clear hz9 hz8
    refine (err_any HX2.out).mono ?_
    rintro e w9 ⟨rfl, rfl⟩
    by_cases h0 : d = 0
    · have HT : Hid (TCell (row.drop place) c z [] d (row.drop pl1)) := Lib.hid (⟨n, _, c1, HN.out, .inl ⟨HN1.out.1, .inr ⟨by rw [← HD.out]; exact h0, HN1.out.2 h0, rfl, h0, rfl⟩⟩⟩)
      rw [h0, errV_zero]
      rw [h0] at HT
      have HXX := HX2
      rw [h0] at HXX
      clear h0
      go_wp2
      refine bodyPost_ret (v := .agg #[.int .i64 (z : Int), .slice none 0 0]) (by simp [results, Tryz.results85, go_sem, s0, s1]) rfl ⟨.slice none 0 0, z, [], pl1, 0, _, rfl, HT.out, ?_, fun _ => rfl, ?_, ?_⟩
      · exact (HXX.out.putC HR2.out 0 _).putC (heap_setCell_same _ _ 0 _ _ _ HR2.out) 1 _
      · exact ((owns_nil _ _ _ _ : Owns _ w.heap.size 5 .u8 (.slice none 0 0) []).putC HR2.out 0 _).putC (heap_setCell_same _ _ 0 _ _ _ HR2.out) 1 _
      · exact grown_put (grown_put HG2.out (Nat.le_refl _) 0 _) (Nat.le_refl _) 1 _
    · have HT : Hid (TCell (row.drop place) c 0 [] d []) := Lib.hid (⟨n, _, c1, HN.out, .inl ⟨HN1.out.1, .inl ⟨by rw [← HD.out]; exact h0, rfl, rfl, HD.out, rfl⟩⟩⟩)
      have H0 := Lib.hid h0
      rw [errV_pos h0]
      clear h0
      go_wp2
      refine bodyPost_ret (v := .agg #[.int .i64 0, .slice none 0 0]) (by simp [results, Tryz.results85, go_sem, y0, y1]) rfl ⟨.slice none 0 0, 0, [], pl1, d, [], rfl, HT.out, ?_, fun h => absurd h H0.out, owns_nil _ _ _ _, ?_⟩
      · exact (HX2.out.putC HR2.out 0 _).putC (heap_setCell_same _ _ 0 _ _ _ HR2.out) 1 _
      · exact grown_put (grown_put HG2.out (Nat.le_refl _) 0 _) (Nat.le_refl _) 1 _

end Go.Proofs.YtiaijpknnomlnaaGreat
