/- Which rows of entries are a unit's: the mathematics; the program's checkEntries. · Law 08's Long; a unit of entries. · The contract of package cell's Put; the fixed fact at the head of the cell statements. · The fixed fact at the head of the cell statements: the chapter's examples. · The contracts of package cell's checkRun, alikeBytes, alikeCells, dataItem. · The contracts of package cell's alikeCells, dataItem. · The contract of the document's own TakeRun. · The contract of the document's own Take of a cell. · The contracts of package cell's dataItem, PutRun. · The contract of package cell's PutRun. · The contract of package cell's PutRun, whatever the run; an append of one cell. · A taker of runs in memory; the contracts of its upTo and endsWith. · The contract of a taker's endsWith. · A taker at work: its reader, its run, the last data; what changes which of them. · The contract of a taker's takeRow. · slices.Concat, whatever the texts, none of a byte too. · The contract of a taker's takeData. · An item of a run, as the program takes it, is an item as the document says it. · The contract of a taker's takeItem. · The contract of package cell's TakeRun. · The contract of package cell's Take. -/
import Derived.Test.YtpebmmhokigglaaGreatDoorQj
import Derived.Deep.RegionHeld3
import Derived.Test.YtpebmmhokigglaaGreatDoorRqP
import Derived.Test.YtpebmmhokigglaaGreatDoorQa
import Derived.Test.YtpebmmhokigglaaGreatDoorFbP
import Derived.Lib.SlBytesConst
import Derived.Test.YtpebmmhokigglaaGreatDoorQb
import Derived.Test.YtpebmmhokigglaaGreatDoorRdP
namespace Go.Proofs.YtpebmmhokigglaaGreatDoor
open Go.RowKit

open Classical in
section
variable {w : World} {B : Nat → Prop} {v : Value} {l : Im IC}
end
end Go.Proofs.YtpebmmhokigglaaGreatDoor

namespace Go.Proofs.YtpebmmhokigglaaGreatDoor
open Go.RowKit

open Classical in
section
variable {w : World} {A : Nat → Prop} {v : Value} {l : Im IC}
end
end Go.Proofs.YtpebmmhokigglaaGreatDoor

namespace Go.Proofs.YtpebmmhokigglaaGreatDoor
open Go.RowKit

theorem reads_none (w : World) (k : IntKind) : Reads w k (.slice none 0 0) [] := ⟨none, 0, rfl, by simp, by simp [maxLen], by simp, .inl rfl⟩

end Go.Proofs.YtpebmmhokigglaaGreatDoor

namespace Go.Proofs.YtpebmmhokigglaaGreatDoor
open Go.RowKit

/-- A row of a text that is written out. -/
theorem reads_marked (w : World) (e : TypeId) (k : IntKind) (l : List Nat) (cs : Array Value) (fr : Nat × Nat) (hc : cs.toList = vals k l) (hm : l.length ≤ maxLen) :
    Reads (w.alloc (.cells cs e fr)) k (.slice (some ⟨w.heap.size, 0, none⟩) l.length l.length) l :=
  ⟨_, _, rfl, Nat.le_refl _, hm, by simp, .inr ⟨w.heap.size, 0, rfl, by simp, fun i hi => by
    rw [Nat.zero_add, World.cell?_alloc_mark, ← Array.getElem?_toList, hc, vals_get k l i hi]⟩⟩

end Go.Proofs.YtpebmmhokigglaaGreatDoor

namespace Go.Proofs.YtpebmmhokigglaaGreatDoor
open Go.RowKit

theorem com_comm : ∀ a b, com a b = com b a
  | [], [] => rfl
  | [], _ :: _ => rfl
  | _ :: _, [] => rfl
  | x :: a, y :: b => by
    unfold com
    by_cases h : x = y
    · rw [if_pos h, if_pos h.symm, com_comm a b]
    · rw [if_neg h, if_neg (fun e => h e.symm)]

set_option maxHeartbeats 1000000 in
set_option maxRecDepth 100000 in
theorem alikeBytes_any (v1 v2 : Value) (a b : List Nat) (w : World) (h1 : Reads w .u8 v1 a) (h2 : Reads w .u8 v2 b) (hl1 : a.length ≤ 100000000000000) :
    Calls Tryz.prog 109 #[v1, v2] w fun e w' => e = .returned (.int .i64 (com a b : Nat)) ∧ Below w.heap.size w w' := by
  obtain ⟨ao1, cap1, rfl, c1, c2, _⟩ := h1.val
  obtain ⟨ao2, cap2, rfl, c3, c4, _⟩ := h2.val
  have H1 := Lib.hid h1; clear h1
  have H2 := Lib.hid h2; clear h2
  obtain ⟨m, hm⟩ : ∃ m, m = min a.length b.length := ⟨_, rfl⟩
  have hma : m ≤ a.length := by omega
  have hmb : m ≤ b.length := by omega
  have hmi : min (a.length : Int) (b.length : Int) = (m : Int) := by omega
  have HM := Lib.hid hm
  clear hm
  go_enter Tryz.func109, Tryz.ntmps109
  go_wp2
  go_loopw [5, 11] (fun _ i wr => ∃ k d : Nat, k ≤ m ∧ i = .int .i64 (k : Int) ∧ a.take k = b.take k ∧ wr = w.drewN d)
    (fun _ i _ => m - (intOf i).toNat)
  case atStart => exact ⟨0, 0, Nat.zero_le _, rfl, by simp, rfl⟩
  case round =>
    obtain ⟨k, d, hk, rfl, hp, rfl⟩ := hrel
    have HP := Lib.hid hp; clear hp
    by_cases hlt : (k : Int) < (m : Int)
    · obtain ⟨b1, o1, rfl, _, hc1⟩ := H1.out.at (show k < a.length by omega)
      obtain ⟨b2, o2, rfl, _, hc2⟩ := H2.out.at (show k < b.length by omega)
      have hx := hc1 k (by omega)
      have hy := hc2 k (by omega)
      have HEQ : Hid (a.getD k 0 = b.getD k 0 → a.take (k + 1) = b.take (k + 1)) := Lib.hid fun h => com_step (by omega) HP.out ⟨by omega, h⟩
      have HNE : Hid (a.getD k 0 ≠ b.getD k 0 → com a b = k) := Lib.hid fun h => com_eq a b k (by omega) (by omega) HP.out (.inr (.inr h))
      clear hc1 hc2
      generalize a.getD k 0 = x at hx HEQ HNE
      generalize b.getD k 0 = y at hy HEQ HNE
      have hka : (k : Int) < (a.length : Int) := by omega
      have hkb : (k : Int) < (b.length : Int) := by omega
      by_cases hxy : x = y
      · have HS := Lib.hid (HEQ.out hxy)
        have hne : ((x : Int) != (y : Int)) = false := by rw [bne_eq_false_iff_eq, hxy]
        clear hxy HEQ HNE
        go_wp2_with fail
        go_quiet (fail)
        go_wp2
        go_roundw
        case rel => exact ⟨k + 1, _, by omega, by go_num, HS.out, rfl⟩
        case measure => simp [intOf]; omega
      · have HE := Lib.hid (HNE.out hxy)
        have hne : ((x : Int) != (y : Int)) = true := by rw [bne_iff_ne]; omega
        clear hxy HEQ HNE
        go_wp2_with fail
        go_quiet (fail)
        go_wp2
        go_ret
        exact ⟨by rw [HE.out]; rfl, rfl, rfl, rfl, Nat.le_refl _, fun _ _ => rfl⟩
    · obtain rfl : k = m := by omega
      have HE : Hid (com a b = k) := Lib.hid (com_eq a b k hma hmb HP.out (by have := HM.out; omega))
      go_wp2
      go_ret
      exact ⟨by rw [HE.out]; rfl, rfl, rfl, rfl, Nat.le_refl _, fun _ _ => rfl⟩

/-- A run's first error. -/
def chkRun (cs : List IC) : Nat := if 64 < cs.length then 3 else (cs.map fun c => chk c.1 c.2.length).foldr (fun e r => if e = 0 then r else e) 0

theorem fold_zero {l : List Nat} (h : ∀ e ∈ l, e = 0) (r : List Nat) : (l ++ r).foldr (fun e r => if e = 0 then r else e) 0 = r.foldr (fun e r => if e = 0 then r else e) 0 := by
  induction l with
  | nil => rfl
  | cons x l ih =>
    rw [List.cons_append, List.foldr_cons, if_pos (h x (by simp))]
    exact ih fun e he => h e (by simp [he])
theorem chkRun_stop {cs : List IC} {k : Nat} (hl : cs.length ≤ 64) (hk : k < cs.length) (h : ∀ c ∈ cs.take k, chk c.1 c.2.length = 0) (hc : chk (cs.getD k (0, [])).1 (cs.getD k (0, [])).2.length ≠ 0) : chkRun cs = chk (cs.getD k (0, [])).1 (cs.getD k (0, [])).2.length := by
  unfold chkRun
  rw [if_neg (by omega)]
  have e : cs = cs.take k ++ (cs.getD k (0, []) :: cs.drop (k + 1)) := by
    conv => lhs; rw [← List.take_append_drop k cs]
    congr 1
    rw [List.drop_eq_getElem_cons hk]
    simp [List.getD, hk]
  conv => lhs; rw [e]
  rw [List.map_append, fold_zero (by intro x hx; obtain ⟨c, hc, rfl⟩ := List.mem_map.1 hx; exact h c hc), List.map_cons, List.foldr_cons, if_neg hc]
theorem chkRun_zero {cs : List IC} (h : chkRun cs = 0) : cs.length ≤ 64 ∧ ∀ c ∈ cs, chk c.1 c.2.length = 0 := by
  unfold chkRun at h
  split at h
  · cases h
  · refine ⟨by omega, ?_⟩
    induction cs with
    | nil => simp
    | cons x l ih =>
      rw [List.map_cons, List.foldr_cons] at h
      split at h
      · next h0 =>
        intro c hc
        rcases List.mem_cons.1 hc with rfl | hc
        · exact h0
        · exact ih (by simp at *; omega) h c hc
      · next h0 => exact absurd h h0
theorem chkRun_good {cs : List IC} (hl : cs.length ≤ 64) (h : ∀ c ∈ cs, chk c.1 c.2.length = 0) : chkRun cs = 0 := by
  unfold chkRun
  rw [if_neg (by omega)]
  have := fold_zero (l := cs.map fun c => chk c.1 c.2.length) (by intro x hx; obtain ⟨c, hc, rfl⟩ := List.mem_map.1 hx; exact h c hc) []
  rw [List.append_nil] at this
  exact this

set_option maxHeartbeats 1000000 in
set_option maxRecDepth 100000 in
theorem checkRun_any (v : Value) (cs : List IC) (w : World) (B : Nat → Prop) (hr : CellsAt w B v cs) :
    Calls Tryz.prog 84 #[v] w fun e w' => e = .returned (errV (chkRun cs)) ∧ Below w.heap.size w w' := by
  obtain ⟨ao, cap, rfl, h1, h2, h3⟩ := hr.val
  have HR := Lib.hid hr; clear hr
  by_cases hlong : (64 : Int) < (cs.length : Int)
  · have he : Value.iface 68 (.int .i64 3) = errV (chkRun cs) := by
      unfold chkRun; rw [if_pos (by omega)]; exact (errV_pos (by decide)).symm
    rw [← he]
    clear he
    go_enter Tryz.func84, Tryz.ntmps84
    go_wp2
    go_ret
    exact ⟨rfl, Below.refl _ _⟩
  go_enter Tryz.func84, Tryz.ntmps84
  go_wp2
  go_loopw [4, 5, 12] (fun _ _ i wr => ∃ k : Nat, k ≤ cs.length ∧ i = .int .i64 (k : Int) ∧ (∀ c ∈ cs.take k, chk c.1 c.2.length = 0) ∧ Below w.heap.size w wr)
    (fun _ _ i _ => cs.length - (intOf i).toNat)
  case atStart => exact ⟨0, Nat.zero_le _, rfl, by simp, Below.refl _ _⟩
  case round =>
    obtain ⟨k, hk, rfl, hno, hb⟩ := hrel
    have HB := Lib.hid hb
    have HNO := Lib.hid hno
    clear hb hno
    by_cases hlt : k < cs.length
    · obtain ⟨b, off, x, rfl, _, _, c0, c1, hat⟩ := (HR.out.old HB.out).at hlt
      have HST := Lib.hid (chkRun_stop (cs := cs) (k := k) (by omega) hlt HNO.out)
      have HTK : Hid (cs.take (k + 1) = cs.take k ++ [cs.getD k (0, [])]) := Lib.hid (by
        have e : cs.getD k (0, []) = cs[k] := by simp [List.getD, List.getElem?_eq_getElem hlt]
        rw [List.take_add_one, List.getElem?_eq_getElem hlt, e, Option.toList_some])
      generalize hg : cs.getD k (0, []) = g at c0 c1 hat
      rw [hg] at HST HTK
      obtain ⟨kk, d⟩ := g
      simp only at c0 hat
      obtain ⟨aot, capt, rfl, _, _, _⟩ := hat.reads.val
      have HD := Lib.hid hat.reads
      clear hg hat
      have hlti : (k : Int) < cs.length := by omega
      have hal : Below wr.heap.size wr (wr.alloc (.cells #[.int .i64 kk, .slice aot d.length capt] 72)) := (Below.refl _ _).alloc (Nat.le_refl _) _
      have HD2 := Lib.hid (HD.out.new hal)
      have HAL := Lib.hid (HB.out.trans (hal.mono HB.out.size))
      clear hal HD
      go_wp2_with fail
      refine (check_any kk _ d _ HD2.out).mono ?_
      rintro e w1 ⟨rfl, hb1⟩
      have HB1 := Lib.hid (HAL.out.trans (hb1.mono HAL.out.size))
      clear hb1 HD2 HAL c0 c1
      by_cases hc : chk kk d.length = 0
      · have HN : Hid (∀ c ∈ cs.take (k + 1), chk c.1 c.2.length = 0) := Lib.hid (by
          intro c hcm
          rw [HTK.out] at hcm
          rcases List.mem_append.1 hcm with hcm | hcm
          · exact HNO.out c hcm
          · obtain rfl := List.mem_singleton.1 hcm
            exact hc)
        rw [hc, errV_zero]
        clear hc HST
        go_wp2
        go_roundw
        case rel => exact ⟨k + 1, by omega, by go_num, HN.out, HB1.out⟩
        case measure => simp [intOf]; omega
      · have HE : Hid (chkRun cs = chk kk d.length) := Lib.hid (HST.out hc)
        have he := errV_pos hc
        rw [he]
        clear HST hc
        go_wp2
        go_ret
        exact ⟨by rw [HE.out, he]; rfl, HB1.out⟩
    · obtain rfl : k = cs.length := by omega
      have HE : Hid (Value.nilIface = errV (chkRun cs)) := Lib.hid (by
        have := HNO.out
        rw [List.take_length] at this
        rw [chkRun_good (by omega) this, errV_zero])
      go_wp2
      go_ret
      exact ⟨by rw [← HE.out]; rfl, HB.out⟩

end Go.Proofs.YtpebmmhokigglaaGreatDoor

namespace Go.Proofs.YtpebmmhokigglaaGreatDoor
open Go.RowKit

/-- A cell without an error, as the program has it; and back. -/
def toIC (c : CC) : IC := ((c.1 : Int), c.2)
def toCC (c : IC) : CC := (c.1.toNat, c.2)
theorem toIC_toCC {c : IC} (h : 0 ≤ c.1) : toIC (toCC c) = c := by
  obtain ⟨k, d⟩ := c
  have h' : 0 ≤ k := h
  show ((k.toNat : Int), d) = (k, d)
  rw [Int.toNat_of_nonneg h']
theorem okC_toCC {c : IC} (h : chk c.1 c.2.length = 0) (h8 : ∀ y ∈ c.2, y < 256) : okC (toCC c) := by
  obtain ⟨a, b, l, n⟩ := chk_zero h
  refine ⟨by show c.1.toNat ≤ 3; omega, l, fun hk => List.length_eq_zero_iff.1 (n (fun e => hk ?_)), h8⟩
  show c.1.toNat = 1
  omega
theorem run_toCC {cs : List IC} (h : ∀ c ∈ cs, chk c.1 c.2.length = 0) : cs = (cs.map toCC).map toIC := by
  rw [List.map_map]
  conv => lhs; rw [← List.map_id cs]
  exact List.map_congr_left fun c hc => (toIC_toCC (chk_zero (h c hc)).1).symm

theorem lead_step {k : Nat} {r : List CC} {n : Nat} (hn : n < r.length) (h : ∀ c ∈ r.take n, c.1 = k) (hc : (r.getD n (0, [])).1 ≠ k) : lead k r = n := by
  induction r generalizing n with
  | nil => simp at hn
  | cons c r ih =>
    unfold lead
    match n with
    | 0 => rw [if_neg (by simpa using hc)]
    | n + 1 =>
      have h0 : c.1 = k := h c (by simp)
      rw [if_pos h0, ih (n := n) (by simpa using hn) (fun c hc => h c (by simp [hc])) (by simpa using hc)]
theorem lead_all {k : Nat} {r : List CC} (h : ∀ c ∈ r, c.1 = k) : lead k r = r.length := by
  induction r with
  | nil => rfl
  | cons c r ih =>
    unfold lead
    rw [if_pos (h c (by simp)), ih fun c hc => h c (by simp [hc])]
    rfl

theorem getD_toIC (r : List CC) (i : Nat) (h : i < r.length) : (r.map toIC).getD i (0, []) = toIC (r.getD i (0, [])) := by
  simp [List.getD, h]
theorem take_snocC (l : List CC) (k : Nat) (h : k < l.length) : l.take (k + 1) = l.take k ++ [l.getD k (0, [])] := by
  rw [List.take_add_one, List.getElem?_eq_getElem h]; simp [List.getD, List.getElem?_eq_getElem h]

theorem below_dN {B : Nat} {a w : World} {n : Nat} (h : Below B a w) : Below B a (w.drewN n) := ⟨h.os, h.tape, h.output, h.size, h.block⟩

set_option maxHeartbeats 1000000 in
set_option maxRecDepth 100000 in
theorem alikeCells_any (v : Value) (r : List CC) (w : World) (B : Nat → Prop) (hr : CellsAt w B v (r.map toIC)) (h0 : 0 < r.length) (hl : r.length ≤ 64) :
    Calls Tryz.prog 86 #[v] w fun e w' => e = .returned (.int .i64 (lead (r.getD 0 (0, [])).1 r : Nat)) ∧ Below w.heap.size w w' := by
  obtain ⟨ao, cap, rfl, h1, h2, h3⟩ := hr.val
  rw [List.length_map] at h1
  have hlen : (r.map toIC).length = r.length := List.length_map _
  rw [hlen] at hr ⊢
  have HR := Lib.hid hr; clear hr hlen
  obtain ⟨kz, hkz⟩ : ∃ kz, (r.getD 0 (0, [])).1 = kz := ⟨_, rfl⟩
  rw [hkz]
  have HKZ := Lib.hid hkz
  clear hkz
  go_enter Tryz.func86, Tryz.ntmps86
  go_wp2
  go_loopw [3, 4, 7] (fun _ _ i wr => ∃ k : Nat, k ≤ r.length ∧ i = .int .i64 (k : Int) ∧ (∀ c ∈ r.take k, c.1 = kz) ∧ Below w.heap.size w wr)
    (fun _ _ i _ => r.length - (intOf i).toNat)
  case atStart => exact ⟨0, Nat.zero_le _, rfl, by simp, Below.refl _ _⟩
  case round =>
    obtain ⟨k, hk, rfl, hno, hb⟩ := hrel
    have HB := Lib.hid hb
    have HNO := Lib.hid hno
    clear hb hno
    by_cases hlt : k < r.length
    · obtain ⟨bz, oz, xz, rfl, hbz, _, z0, _, _⟩ := (HR.out.old HB.out).at (i := 0) (by simpa using h0)
      obtain ⟨b, off, x, hbo, _, _, c0, c1, hat⟩ := (HR.out.old HB.out).at (i := k) (by simpa using hlt)
      obtain ⟨rfl, rfl⟩ : bz = b ∧ oz = off := by cases hbo; exact ⟨rfl, rfl⟩
      clear hbo
      rw [getD_toIC _ _ h0] at z0
      rw [getD_toIC _ _ hlt] at c0 hat
      have HST := Lib.hid (lead_step (k := kz) hlt HNO.out)
      have HTK := Lib.hid (take_snocC r k hlt)
      have hkz2 := HKZ.out
      generalize hg : r.getD k (0, []) = g at c0 hat
      generalize hg0 : r.getD 0 (0, []) = g0 at z0 hkz2
      rw [hg] at HST HTK
      obtain ⟨kk, d⟩ := g
      obtain ⟨kk0, d0⟩ := g0
      simp only [toIC] at c0 hat z0 hkz2
      subst hkz2
      obtain ⟨aot, capt, rfl, _, _, _⟩ := hat.reads.val
      clear hg hg0 hat
      have hlti : (k : Int) < r.length := by omega
      have h0i : (0 : Int) < (r.length : Int) := by omega
      rw [Nat.zero_mul, Nat.add_zero] at z0
      have hz1 : (wr.alloc (.cells #[.int .i64 (kk : Int), .slice aot d.length capt] 72)).cell? ⟨bz, oz, none⟩ = some (.int .i64 (kk0 : Int)) := by
        rw [World.cell?_of_block (Below.heap_alloc wr _ _ hbz)]; exact z0
      by_cases hkk : kk = kk0
      · have hne : ((kk : Int) != (kk0 : Int)) = false := by rw [bne_eq_false_iff_eq, hkk]
        have HN : Hid (∀ c ∈ r.take (k + 1), c.1 = kk0) := Lib.hid (by
          intro c hcm
          rw [HTK.out] at hcm
          rcases List.mem_append.1 hcm with hcm | hcm
          · exact HNO.out c hcm
          · obtain rfl := List.mem_singleton.1 hcm
            exact hkk)
        clear HST hkk
        go_wp2_with fail
        go_quiet (fail)
        go_wp2
        go_roundw
        case rel => exact ⟨k + 1, by omega, by go_num, HN.out, below_dN (HB.out.alloc HB.out.size _)⟩
        case measure => simp [intOf]; omega
      · have hne : ((kk : Int) != (kk0 : Int)) = true := by rw [bne_iff_ne]; omega
        have HE := Lib.hid (HST.out hkk)
        clear HST hkk
        go_wp2_with fail
        go_quiet (fail)
        go_wp2
        go_ret
        exact ⟨by rw [HE.out]; rfl, below_dN (HB.out.alloc HB.out.size _)⟩
    · obtain rfl : k = r.length := by omega
      have HE : Hid (lead kz r = r.length) := Lib.hid (lead_all (by have := HNO.out; rwa [List.take_length] at this))
      go_wp2
      go_ret
      exact ⟨by rw [HE.out]; rfl, HB.out⟩

end Go.Proofs.YtpebmmhokigglaaGreatDoor

namespace Go.Proofs.YtpebmmhokigglaaGreatDoor
open Go.RowKit

/-- The kind of the row just ahead, as a number. -/
def rowI : Option Nat → Int
  | none => -1
  | some k => (k : Int)

/-- What the document's TakeRun answers. -/
def RTRun (B : Nat) (rest : List Nat) (c : Nat) (w : World) (e : Ending) (w' : World) : Prop :=
  ∃ (ov : Value) (run : List CC) (ao : Option Addr) (n cap : Nat) (c' : Nat) (fin : List Nat), e = .returned (.tuple #[ov, .agg #[.slice ao n cap, .int .i64 (c' : Int)]]) ∧ TRun rest c run c' fin ∧
    OwnsC w' w.heap.size ov run ∧ (c' = 0 → n = fin.length ∧ RdU w' B (.slice ao n cap) fin) ∧ Below w.heap.size w w'

/-- A box of a reader. -/
def Bx (w : World) (p : Nat) (x y : Value) : Prop := w.heap[p]? = some (.cells #[x, y] 111 (0, 0))
theorem Bx.lt {w : World} {p : Nat} {x y : Value} (h : Bx w p x y) : p < w.heap.size := (Array.getElem?_eq_some_iff.1 h).1
theorem Bx.below {w w' : World} {K p : Nat} {x y : Value} (h : Bx w p x y) (hb : Below K w w') (hK : p < K) : Bx w' p x y := (hb.block p hK).trans h
theorem Bx.old {w w' : World} {p : Nat} {x y : Value} (h : Bx w p x y) (hb : Below w.heap.size w w') : Bx w' p x y := h.below hb h.lt
theorem Bx.put {w : World} {p : Nat} {x y : Value} (h : Bx w p x y) (x' y' : Value) : Bx ((w.setCell ⟨p, 0, none⟩ x').setCell ⟨p, 1, none⟩ y') p x' y' := set2 h
theorem Bx.other {w : World} {p q : Nat} {x y : Value} (h : Bx w p x y) (hq : p ≠ q) (i j : Nat) (u v : Value) : Bx ((w.setCell ⟨q, i, none⟩ u).setCell ⟨q, j, none⟩ v) p x y := by
  unfold Bx
  rw [heap_setCell_other _ _ _ _ (by simpa using hq), heap_setCell_other _ _ _ _ (by simpa using hq)]
  exact h
theorem Bx.grown {w w' : World} {p : Nat} {x y : Value} {r : Option Nat} (h : Bx w p x y) (hg : w.grownBy w' r) (hr : some p ≠ r) : Bx w' p x y := (hg.block p h.lt hr).trans h
theorem below_put {K : Nat} {a w : World} (h : Below K a w) {q : Nat} (hq : K ≤ q) (u v : Value) : Below K a ((w.setCell ⟨q, 0, none⟩ u).setCell ⟨q, 1, none⟩ v) := (h.setCell hq u).setCell hq v

theorem ownBlock_len (ao : Option Addr) (n c n' c' : Nat) : (Value.slice ao n c).ownBlock = (Value.slice ao n' c').ownBlock := by cases ao <;> rfl
/-- A slice's length. -/
def lenOf : Value → Nat
  | .slice _ n _ => n
  | _ => 0
theorem OwnsC.len {w : World} {base : Nat} {v : Value} {l : List CC} (h : OwnsC w base v l) : lenOf v = l.length := by
  rcases h.2 with ⟨rfl, h2⟩ | ⟨g, cap, cur, rfl, _⟩
  · exact h2.symm
  · rfl
theorem OwnsC.form {w : World} {base : Nat} {v : Value} {l : List CC} (h : OwnsC w base v l) : ∃ ao cap, v = .slice ao l.length cap := by
  rcases h.2 with ⟨rfl, h2⟩ | ⟨g, cap, cur, rfl, _⟩
  · exact ⟨none, 0, by rw [h2]⟩
  · exact ⟨_, cap, rfl⟩
theorem OwnsC.below {w w' : World} {base : Nat} {v : Value} {l : List CC} (h : OwnsC w base v l) (hb : Below w.heap.size w w') : OwnsC w' base v l :=
  h.kept (row := none) ⟨hb.os, hb.tape, hb.output, hb.size, fun j hj _ => hb.block j hj⟩ (by cases v.ownBlock <;> simp)
theorem OwnsC.mono {w : World} {base base' : Nat} {v : Value} {l : List CC} (h : OwnsC w base v l) (hb : base' ≤ base) : OwnsC w base' v l := by
  refine ⟨h.1, ?_⟩
  rcases h.2 with h2 | ⟨g, cap, cur, h1, h2, r⟩
  · exact .inl h2
  · exact .inr ⟨g, cap, cur, h1, Nat.le_trans hb h2, r⟩
/-- Boxes below what is owned are written. -/
theorem OwnsC.put {w : World} {base : Nat} {v : Value} {l : List CC} (h : OwnsC w base v l) {q : Nat} (hq : q < base) (x y : Value) : OwnsC ((w.setCell ⟨q, 0, none⟩ x).setCell ⟨q, 1, none⟩ y) base v l := by
  refine h.kept (row := some q) ⟨rfl, rfl, rfl, by simp, fun k _ hk => ?_⟩ ?_
  · rw [heap_setCell_other _ _ _ _ (fun e => hk (by rw [e])), heap_setCell_other _ _ _ _ (fun e => hk (by rw [e]))]
  · cases hv : v.ownBlock with
    | none => exact .inl rfl
    | some j => exact .inr fun he => by have := (h.lt j hv).1; have := Option.some.inj he; omega

theorem rt_bad {B : Nat} {rest : List Nat} {c c' n cap : Nat} {ao : Option Addr} {w w' : World} (h : TRun rest c [] c' []) (hc : c' ≠ 0) (hb : Below w.heap.size w w') :
    RTRun B rest c w (.returned (.tuple #[.slice none 0 0, .agg #[.slice ao n cap, .int .i64 (c' : Int)]])) w' :=
  ⟨_, [], ao, n, cap, c', [], rfl, h, World.ownsRow_nil _ _ _ _, fun h0 => absurd h0 hc, hb⟩
theorem trun_stop {rest rest1 fin : List Nat} {n c2 : Nat} {run : List CC} (hn : NumRel rest 0 n rest1 0) (h64 : n ≤ 64) (h : TI n [] none rest1 run c2 fin) (hc : c2 ≠ 0) : TRun rest 0 [] c2 [] :=
  ⟨n, rest1, 0, hn, .inr (.inr ⟨rfl, h64, run, c2, fin, h, rfl, by rw [if_neg hc], by rw [if_neg hc]⟩)⟩
theorem TI.halt {left n : Nat} {last rst rest rest1 : List Nat} {row : Option Nat} {acc : List CC} {a : List CC} {b : List Nat} {r : Option Nat} {d : List Nat} {c2 : Nat} (hn : NumRel rest 0 n rest1 0) (h64 : n ≤ 64)
    (hnext : ∀ run c fin, TI left last row rst run c fin → TI n [] none rest1 (acc ++ run) c fin) (hl : 0 < left) (hi : Item left last row rst a b r d c2) (hc : c2 ≠ 0) : TRun rest 0 [] c2 [] :=
  trun_stop hn h64 (hnext [] c2 [] (.stop hl hi hc)) hc

theorem OwnsC.puts {w : World} {base : Nat} {v : Value} {l : List CC} (h : OwnsC w base v l) {q : Nat} (hq : ∀ j, v.ownBlock = some j → j ≠ q) (x y : Value) : OwnsC ((w.setCell ⟨q, 0, none⟩ x).setCell ⟨q, 1, none⟩ y) base v l := by
  refine h.kept (row := some q) ⟨rfl, rfl, rfl, by simp, fun k _ hk => ?_⟩ ?_
  · rw [heap_setCell_other _ _ _ _ (fun e => hk (by rw [e])), heap_setCell_other _ _ _ _ (fun e => hk (by rw [e]))]
  · cases hv : v.ownBlock with
    | none => exact .inl rfl
    | some j => exact .inr fun he => hq j hv (Option.some.inj he)

/-- What stands between two steps of a data item: the box at p, the box of what is read at q. -/
structure Mid (w : World) (B p q base : Nat) (U : World) (out : Value) (acc : List CC) (r1 r2 : Value) (c1 c2 : Value) : Prop where
  owns : OwnsC U base out acc
  bx1 : Bx U p r1 c1
  bxq : Bx U q r2 c2
  bx3 : Bx U (p + 1) (.slice none 0 0) (.int .i64 0)
  bel : Below w.heap.size w U
  siz : base ≤ U.heap.size
  far : ∀ j, out.ownBlock = some j → j ≠ q

/-- Behind a call that made only new blocks, and a put into the box of what is read. -/
theorem Mid.next {w : World} {B p q base : Nat} {U U1 : World} {out : Value} {acc : List CC} {r1 r2 c1 c2 : Value} (h : Mid w B p q base U out acc r1 r2 c1 c2) (hb : Below U.heap.size U U1) (hp : p ≠ q) (hp3 : p + 1 ≠ q) (hw : w.heap.size ≤ q) (x y : Value) :
    Mid w B p q base ((U1.setCell ⟨q, 0, none⟩ x).setCell ⟨q, 1, none⟩ y) out acc r1 x c1 y :=
  ⟨(h.owns.below hb).puts h.far _ _, (h.bx1.old hb).other hp _ _ _ _, (h.bxq.old hb).put _ _, (h.bx3.old hb).other hp3 _ _ _ _, below_put (h.bel.trans (hb.mono h.bel.size)) hw _ _, by have := h.siz; have := hb.size; simp; omega, h.far⟩

/-- What the loop keeps. -/
structure Keep (w : World) (B p n base : Nat) (rest1 : List Nat) (wr : World) (out lastv rowv : Value) (acc : List CC) (last : List Nat) (row : Option Nat) (rst : List Nat) (ao : Option Addr) (cap : Nat) : Prop where
  owns : OwnsC wr base out acc
  lastv : lastv = .string (S8 last)
  rowv : rowv = .int .i64 (rowI row)
  len : acc.length ≤ n
  last64 : last.length ≤ 64
  last8 : ∀ y ∈ last, y < 256
  rst8 : ∀ y ∈ rst, y < 256
  rd : RdU wr B (.slice ao rst.length cap) rst
  bx1 : Bx wr p (.slice ao rst.length cap) (.int .i64 0)
  bx3 : Bx wr (p + 1) (.slice none 0 0) (.int .i64 0)
  bel : Below w.heap.size w wr
  siz : base ≤ wr.heap.size
  next : ∀ run c fin, TI (n - acc.length) last row rst run c fin → TI n [] none rest1 (acc ++ run) c fin

set_option maxHeartbeats 4000000 in
set_option maxRecDepth 100000 in
theorem rtrun_any (B : Nat) (ao : Option Addr) (cap : Nat) (rest : List Nat) (c : Nat) (w : World) (hBs : B ≤ w.heap.size) (hru : RdU w B (.slice ao rest.length cap) rest) (hb : ∀ y ∈ rest, y < 256) :
    Calls Tryz.prog 55 #[.agg #[.slice ao rest.length cap, .int .i64 (c : Int)]] w (RTRun B rest c w) := by
  have hn0 : Below w.heap.size w ((w.alloc (.cells #[.slice ao rest.length cap, .int .i64 (c : Int)] 111)).alloc (.cells #[.slice none 0 0, .int .i64 0] 111)) := ((Below.refl _ _).alloc (Nat.le_refl _) _).alloc (by simp) _
  have hru0 := hru.below (hn0.mono hBs)
  have HRU := Lib.hid hru
  have HN0 := Lib.hid hn0
  clear hn0 hru
  go_enter Tryz.func55, Tryz.ntmps55
  go_wp2_with fail
  refine (rnumber_any B ao cap rest c _ (by have := HN0.out.size; simp; omega) hru0 hb).mono ?_
  rintro e w1 ⟨n, ao1, cap1, rest1, c1, rfl, hn, hr1, hb1⟩
  obtain ⟨y1, y2⟩ := new2 hb1
  have HB1 : Hid (Below w.heap.size w w1) := Lib.hid (HN0.out.trans (hb1.mono HN0.out.size))
  obtain ⟨a0, a1, a2, a3⟩ := blk2 y1
  obtain ⟨W, hW⟩ : ∃ W, W = (w1.setCell ⟨w.heap.size, 0, none⟩ (.slice ao1 rest1.length cap1)).setCell ⟨w.heap.size, 1, none⟩ (.int .i64 (c1 : Int)) := ⟨_, rfl⟩
  have HWW := Lib.hid hW
  have hx1 : Bx W w.heap.size (.slice ao1 rest1.length cap1) (.int .i64 (c1 : Int)) := by rw [hW]; exact Bx.put y1 _ _
  have hx3 : Bx W (w.heap.size + 1) (.slice none 0 0) (.int .i64 0) := by rw [hW]; exact Bx.other y2 (by omega) _ _ _ _
  have hbw : Below w.heap.size w W := by rw [hW]; exact below_put HB1.out (Nat.le_refl _) _ _
  have hrw : RdU W B (.slice ao1 rest1.length cap1) rest1 := by rw [hW]; exact hr1.below (below_put (Below.refl B w1) hBs _ _)
  have HX1 := Lib.hid hx1
  have HX3 := Lib.hid hx3
  have HBW := Lib.hid hbw
  have HRW := Lib.hid hrw
  have HN := Lib.hid hn
  clear hn hr1 hb1 hru0 y1 y2 hx1 hx3 hbw hrw hW HB1
  by_cases hc1 : c1 = 0
  · subst hc1
    have hc0 : c = 0 := by
      rcases HN.out with ⟨h1, _, _, h2⟩ | ⟨h1, _⟩ | ⟨h1, _⟩
      · exact absurd h2.symm h1
      · exact h1
      · exact h1
    have HC0 := Lib.hid hc0
    have HN0 : Hid (NumRel rest 0 n rest1 0) := Lib.hid (by have := HN.out; rw [HC0.out] at this; exact this)
    clear hc0
    have HW0 : Hid (W = (w1.setCell ⟨w.heap.size, 0, none⟩ (.slice ao1 rest1.length cap1)).setCell ⟨w.heap.size, 1, none⟩ (.int .i64 0)) := HWW
    have HX1' : Hid (Bx W w.heap.size (.slice ao1 rest1.length cap1) (.int .i64 0)) := HX1
    by_cases h64 : (64 : Int) < (n : Int)
    · go_wp2_with fail
      rw [← HW0.out]
      refine (rfail5_any ao1 rest1.length cap1 0 3 W).mono ?_
      rw [if_pos rfl]
      rintro e w2 ⟨rfl, hb2⟩
      have h3 := HX3.out.old hb2
      obtain ⟨b0, b1, b2, b3⟩ := blk2 h3
      have HE : Hid (TRun rest c [] 3 []) := Lib.hid ⟨n, rest1, 0, HN.out, .inr (.inl ⟨rfl, by omega, rfl, rfl, rfl⟩)⟩
      have HB2 := Lib.hid (HBW.out.trans (hb2.mono HBW.out.size))
      clear hb2
      go_wp2
      exact bodyPost_ret (v := .tuple #[.slice none 0 0, .agg #[.slice ao1 rest1.length cap1, .int .i64 ((3 : Nat) : Int)]]) (by simp [results, Tryz.results55, go_sem, b0, b1]) rfl ⟨_, [], ao1, rest1.length, cap1, 3, [], rfl, HE.out, World.ownsRow_nil _ _ _ _, fun h => absurd h (by decide), below_put HB2.out (by omega) _ _⟩
    · have hn64 : n ≤ 64 := by omega
      have hr8 : ∀ y ∈ rest1, y < 256 := by
        have := HN.out
        intro y hy
        rcases this with ⟨_, _, rfl, _⟩ | ⟨_, _, h, _⟩ | ⟨_, _, rfl, _⟩
        · exact hb y hy
        · exact hb y (by rw [h]; simp [hy])
        · exact hb y hy
      have hsz : W.heap.size = w1.heap.size := by rw [HW0.out]; simp
      have HLIT : Hid (OwnsC (W.alloc (.cells #[] 77)) w1.heap.size (.slice (some ⟨w1.heap.size, 0, none⟩) 0 0) []) := Lib.hid (by
        have := World.ownsRow_lit (e := 77) (size := 2) (base := W.heap.size) W #[] 0 (Nat.le_refl _) (by simp [maxLen]) rfl
        rw [hsz] at this
        exact this)
      have HSZ := Lib.hid hsz
      clear hsz
      have hp1 := HX1.out.lt
      have hp3 := HX3.out.lt
      go_wp2
      go_loopw [5, 6, 7, 8, 9, 10, 11, 12, 13, 14, 15, 16] (fun out lastv rowv _ _ _ _ _ _ _ _ _ wr => ∃ acc last row rst ao cap, Keep w B w.heap.size n w1.heap.size rest1 wr out lastv rowv acc last row rst ao cap)
        (fun out _ _ _ _ _ _ _ _ _ _ _ _ => n - lenOf out)
      case atStart =>
        rw [← HW0.out]
        have hnw : Below W.heap.size W (W.alloc (.cells #[] 77)) := (Below.refl _ _).alloc (Nat.le_refl _) _
        exact ⟨[], [], none, rest1, ao1, cap1, ⟨HLIT.out, rfl, rfl, Nat.zero_le _, by simp, by simp, hr8, HRW.out.below (hnw.mono (Nat.le_trans hBs HBW.out.size)), HX1'.out.old hnw, HX3.out.old hnw, HBW.out.trans (hnw.mono HBW.out.size), by rw [← HSZ.out]; simp, fun run c fin h => by simpa using h⟩⟩
      case round =>
        obtain ⟨acc, last, row, rst, aoK, capK, hk⟩ := hrel
        obtain ⟨aoO, capO, rfl⟩ := hk.owns.form
        obtain rfl := hk.lastv
        obtain rfl := hk.rowv
        have HK := Lib.hid hk
        have hlen := hk.len
        obtain ⟨a0, a1, a2, a3⟩ := blk2 hk.bx1
        obtain ⟨d0, d1, d2, d3⟩ := blk2 hk.bx3
        clear hk
        have hni : (n : Int) ≤ 64 := by omega
        by_cases hlt : (acc.length : Int) < (n : Int)
        · have hB2 : B ≤ wr.heap.size := Nat.le_trans hBs HK.out.bel.size
          go_wp2_with fail
          refine (rnumber_any B aoK capK rst 0 wr hB2 HK.out.rd HK.out.rst8).mono ?_
          rintro e w2 ⟨many, ao2, cap2, rest2, c2, rfl, hnm, hr2, hb2⟩
          have hna : Below w2.heap.size w2 (w2.alloc (.cells #[.slice ao2 rest2.length cap2, .int .i64 (c2 : Int)] 111)) := (Below.refl _ _).alloc (Nat.le_refl _) _
          have hx1 := (HK.out.bx1.old hb2).old hna
          have hx3 := (HK.out.bx3.old hb2).old hna
          obtain ⟨e0, e1, e2, e3⟩ := blk2 hx1
          obtain ⟨V, hV⟩ : ∃ V, V = ((w2.alloc (.cells #[.slice ao2 rest2.length cap2, .int .i64 (c2 : Int)] 111)).setCell ⟨w.heap.size, 0, none⟩ (.slice ao2 rest2.length cap2)).setCell ⟨w.heap.size, 1, none⟩ (.int .i64 (c2 : Int)) := ⟨_, rfl⟩
          have HV := Lib.hid hV
          have hv1 : Bx V w.heap.size (.slice ao2 rest2.length cap2) (.int .i64 (c2 : Int)) := by rw [hV]; exact hx1.put _ _
          have hv3 : Bx V (w.heap.size + 1) (.slice none 0 0) (.int .i64 0) := by rw [hV]; exact hx3.other (by omega) _ _ _ _
          have hvn : Bx V w2.heap.size (.slice ao2 rest2.length cap2) (.int .i64 (c2 : Int)) := by rw [hV]; exact Bx.other (heap_alloc_new _ _) (by have := hx1; have := (HK.out.bx1.old hb2).lt; omega) _ _ _ _
          have hvo : OwnsC V w1.heap.size (.slice aoO acc.length capO) acc := by rw [hV]; exact ((HK.out.owns.below hb2).below hna).put (by rw [← HSZ.out]; exact hp1) _ _
          have hvb : Below w.heap.size w V := by rw [hV]; exact below_put ((HK.out.bel.trans (hb2.mono HK.out.bel.size)).trans (hna.mono (Nat.le_trans HK.out.bel.size hb2.size))) (Nat.le_refl _) _ _
          have hvr : RdU V B (.slice ao2 rest2.length cap2) rest2 := by rw [hV]; exact hr2.below (below_put ((Below.refl B w2).alloc (Nat.le_trans hB2 hb2.size) _) (Nat.le_trans hBs (by omega)) _ _)
          have HV1 := Lib.hid hv1
          have HV3 := Lib.hid hv3
          have HVN := Lib.hid hvn
          have HVO := Lib.hid hvo
          have HVB := Lib.hid hvb
          have HVR := Lib.hid hvr
          have HNM := Lib.hid hnm
          have hvs : w1.heap.size ≤ V.heap.size := by rw [hV]; have := HK.out.siz; have := hb2.size; simp; omega
          have HVS := Lib.hid hvs
          clear hV hv1 hv3 hvn hvo hvb hvr hnm hvs hna hx3
          by_cases hc2 : c2 = 0
          · subst hc2
            have HV0 : Hid (V = ((w2.alloc (.cells #[.slice ao2 rest2.length cap2, .int .i64 0] 111)).setCell ⟨w.heap.size, 0, none⟩ (.slice ao2 rest2.length cap2)).setCell ⟨w.heap.size, 1, none⟩ (.int .i64 0)) := HV
            have HV10 : Hid (Bx V w.heap.size (.slice ao2 rest2.length cap2) (.int .i64 0)) := HV1
            have hx1z : Bx (w2.alloc (.cells #[.slice ao2 rest2.length cap2, .int .i64 0] 111)) w.heap.size (.slice aoK rst.length capK) (.int .i64 0) := hx1
            obtain ⟨f0, f1, f2, f3⟩ := blk2 hx1z
            clear e0 e1 e2 e3 hx1 hx1z
            have HVN0 : Hid (Bx V w2.heap.size (.slice ao2 rest2.length cap2) (.int .i64 0)) := HVN
            have HNM0 : Hid (NumRel rst 0 many rest2 0) := HNM
            have h28 : ∀ y ∈ rest2, y < 256 := fun y hy => HK.out.rst8 y (by obtain ⟨h, _⟩ := num_back HNM.out; rw [h]; simp [hy])
            have HB2V : Hid (B ≤ V.heap.size) := Lib.hid (Nat.le_trans hBs HVB.out.size)
            by_cases hm0 : (0 : Int) < (many : Int)
            · have hleft : (n : Int) - (acc.length : Int) = ((n - acc.length : Nat) : Int) := by omega
              by_cases hml : ((n - acc.length : Nat) : Int) < (many : Int)
              · have HE : Hid (TRun rest c [] 2 []) := Lib.hid (by
                  rw [HC0.out]
                  exact TI.halt HN0.out hn64 HK.out.next (by omega) ⟨many, rest2, 0, HNM0.out, .inr (.inl ⟨rfl, by omega, rfl, rfl, rfl, rfl, rfl⟩)⟩ (by decide))
                generalize n - acc.length = L at hleft hml
                go_wp2_with fail
                rw [← HV0.out]
                refine (rfail5_any ao2 rest2.length cap2 0 2 V).mono ?_
                rw [if_pos rfl]
                rintro e w9 ⟨rfl, hb9⟩
                obtain ⟨t0, t1, t2, t3⟩ := blk2 (HV3.out.old hb9)
                have HB9 := Lib.hid (HVB.out.trans (hb9.mono HVB.out.size))
                clear hb9
                go_wp2
                exact bodyPost_ret (v := .tuple #[.slice none 0 0, .agg #[.slice ao2 rest2.length cap2, .int .i64 ((2 : Nat) : Int)]]) (by simp [results, Tryz.results55, go_sem, t0, t1]) rfl (rt_bad HE.out (by decide) (below_put HB9.out (Nat.le_succ _) _ _))
              · have hmle : many ≤ n - acc.length := by omega
                go_wp2_with fail
                rw [← HV0.out]
                refine (rwithin_any B ao2 cap2 rest2 0 3 V HB2V.out HVR.out h28).mono ?_
                rintro e w3 ⟨k, aoW, capW, rest3, c3, rfl, hnk, hr3, hb3⟩
                obtain ⟨x, hx⟩ : ∃ x, withinR k 3 = x := ⟨_, rfl⟩
                obtain ⟨y, hy⟩ : ∃ y, withinC k c3 3 = y := ⟨_, rfl⟩
                rw [hx, hy]
                have hna : Below w3.heap.size w3 (w3.alloc (.cells #[.slice aoW rest3.length capW, .int .i64 (y : Int)] 111)) := (Below.refl _ _).alloc (Nat.le_refl _) _
                have hz1 := (HV10.out.old hb3).old hna
                have hz3 := (HV3.out.old hb3).old hna
                obtain ⟨U, hU⟩ : ∃ U, U = ((w3.alloc (.cells #[.slice aoW rest3.length capW, .int .i64 (y : Int)] 111)).setCell ⟨w.heap.size, 0, none⟩ (.slice aoW rest3.length capW)).setCell ⟨w.heap.size, 1, none⟩ (.int .i64 (y : Int)) := ⟨_, rfl⟩
                have HU := Lib.hid hU
                have HU1 : Hid (Bx U w.heap.size (.slice aoW rest3.length capW) (.int .i64 (y : Int))) := Lib.hid (by rw [hU]; exact hz1.put _ _)
                have HU3 : Hid (Bx U (w.heap.size + 1) (.slice none 0 0) (.int .i64 0)) := Lib.hid (by rw [hU]; exact hz3.other (by omega) _ _ _ _)
                have HUO : Hid (OwnsC U w1.heap.size (.slice aoO acc.length capO) acc) := Lib.hid (by rw [hU]; exact ((HVO.out.below hb3).below hna).put (by rw [← HSZ.out]; exact hp1) _ _)
                have HUB : Hid (Below w.heap.size w U) := Lib.hid (by rw [hU]; exact below_put ((HVB.out.trans (hb3.mono HVB.out.size)).trans (hna.mono (Nat.le_trans HVB.out.size hb3.size))) (Nat.le_refl _) _ _)
                have HUR : Hid (RdU U B (.slice aoW rest3.length capW) rest3) := Lib.hid (by rw [hU]; exact hr3.below (below_put ((Below.refl B w3).alloc (Nat.le_trans HB2V.out hb3.size) _) hBs _ _))
                have HUS : Hid (w1.heap.size ≤ U.heap.size) := Lib.hid (by rw [hU]; have := HVS.out; have := hb3.size; simp; omega)
                obtain ⟨f0, f1, f2, f3⟩ := blk2 hz1
                have HNK := Lib.hid hnk
                have HXX := Lib.hid hx
                have HYY := Lib.hid hy
                clear hU hz1 hz3 hna hnk hx hy
                by_cases hy0 : y = 0
                · subst hy0
                  obtain ⟨rfl, hk3⟩ := within_three HYY.out
                  obtain rfl : x = k := by rw [← HXX.out]; unfold withinR; rw [if_neg (by omega)]
                  have HU0 : Hid (U = ((w3.alloc (.cells #[.slice aoW rest3.length capW, .int .i64 0] 111)).setCell ⟨w.heap.size, 0, none⟩ (.slice aoW rest3.length capW)).setCell ⟨w.heap.size, 1, none⟩ (.int .i64 0)) := HU
                  have HU10 : Hid (Bx U w.heap.size (.slice aoW rest3.length capW) (.int .i64 0)) := HU1
                  have f1' : (w3.alloc (.cells #[.slice aoW rest3.length capW, .int .i64 0] 111)).cell? ⟨w.heap.size, 1, none⟩ = some (.int .i64 0) := f1
                  have f0' : (w3.alloc (.cells #[.slice aoW rest3.length capW, .int .i64 0] 111)).cell? ⟨w.heap.size, 0, none⟩ = some (.slice ao2 rest2.length cap2) := f0
                  have f2' : (w3.alloc (.cells #[.slice aoW rest3.length capW, .int .i64 0] 111)).frozen? ⟨w.heap.size, 0, none⟩ = false := f2
                  have f3' : (w3.alloc (.cells #[.slice aoW rest3.length capW, .int .i64 0] 111)).frozen? ⟨w.heap.size, 1, none⟩ = false := f3
                  clear f0 f1 f2 f3
                  by_cases hsame : x = 1 ∨ row = some x
                  · have HE : Hid (TRun rest c [] 2 []) := Lib.hid (by
                      rw [HC0.out]
                      exact TI.halt HN0.out hn64 HK.out.next (by omega) ⟨many, rest2, 0, HNM0.out, .inr (.inr (.inl ⟨rfl, by omega, hmle, x, rest3, 0, HNK.out, .inr (.inl ⟨HYY.out, hsame, rfl, rfl, rfl, rfl, rfl⟩)⟩))⟩ (by decide))
                    by_cases hx1 : (x : Int) = 1
                    · go_wp2_with fail
                      rw [← HU0.out]
                      refine (rfail5_any aoW rest3.length capW 0 2 U).mono ?_
                      rw [if_pos rfl]
                      rintro e w9 ⟨rfl, hb9⟩
                      obtain ⟨t0, t1, t2, t3⟩ := blk2 (HU3.out.old hb9)
                      have HB9 := Lib.hid (HUB.out.trans (hb9.mono HUB.out.size))
                      clear hb9
                      go_wp2
                      exact bodyPost_ret (v := .tuple #[.slice none 0 0, .agg #[.slice aoW rest3.length capW, .int .i64 ((2 : Nat) : Int)]]) (by simp [results, Tryz.results55, go_sem, t0, t1]) rfl (rt_bad HE.out (by decide) (below_put HB9.out (Nat.le_succ _) _ _))
                    · have hrow : rowI row = (x : Int) := by
                        rcases hsame with h | h
                        · omega
                        · rw [h]; rfl
                      go_wp2_with fail
                      rw [← HU0.out]
                      refine (rfail5_any aoW rest3.length capW 0 2 U).mono ?_
                      rw [if_pos rfl]
                      rintro e w9 ⟨rfl, hb9⟩
                      obtain ⟨t0, t1, t2, t3⟩ := blk2 (HU3.out.old hb9)
                      have HB9 := Lib.hid (HUB.out.trans (hb9.mono HUB.out.size))
                      clear hb9
                      go_wp2
                      exact bodyPost_ret (v := .tuple #[.slice none 0 0, .agg #[.slice aoW rest3.length capW, .int .i64 ((2 : Nat) : Int)]]) (by simp [results, Tryz.results55, go_sem, t0, t1]) rfl (rt_bad HE.out (by decide) (below_put HB9.out (Nat.le_succ _) _ _))
                  · have hx1 : ¬ (x : Int) = 1 := by omega
                    have hrow : ¬ (x : Int) = rowI row := by
                      intro h
                      apply hsame
                      right
                      cases row with
                      | none => simp [rowI] at h
                      | some r => simp [rowI] at h; rw [show r = x by omega]
                    have hx1b : ((x : Int) == 1) = false := by rw [beq_eq_false_iff_ne]; exact hx1
                    have hrowb : ((x : Int) == rowI row) = false := by rw [beq_eq_false_iff_ne]; exact hrow
                    have hmany : (many : Int) ≤ 64 := by omega
                    have hs1 : x ≠ 1 := by omega
                    have hs2 : row ≠ some x := fun h => hsame (.inr h)
                    have HIT : Hid (Item (n - acc.length) last row rst (List.replicate many (x, [])) last (some x) rest3 0) := Lib.hid ⟨many, rest2, 0, HNM0.out, .inr (.inr (.inl ⟨rfl, by omega, hmle, x, rest3, 0, HNK.out, .inr (.inr ⟨HYY.out, hs1, hs2, rfl, rfl, rfl, rfl, rfl⟩)⟩))⟩
                    clear hsame hs1 hs2 hx1 hrow
                    go_wp2
                    rw [← HU0.out]
                    go_loopw [5, 12] (fun out i wr => ∃ m : Nat, m ≤ many ∧ i = .int .u64 (m : Int) ∧ OwnsC wr w1.heap.size out (acc ++ List.replicate m (x, [])) ∧ Bx wr w.heap.size (.slice aoW rest3.length capW) (.int .i64 0) ∧ Bx wr (w.heap.size + 1) (.slice none 0 0) (.int .i64 0) ∧ RdU wr B (.slice aoW rest3.length capW) rest3 ∧ Below w.heap.size w wr ∧ w1.heap.size ≤ wr.heap.size)
                      (fun _ i _ => many - (intOf i).toNat)
                    case atStart => exact ⟨0, Nat.zero_le _, rfl, by simpa using HUO.out, HU10.out, HU3.out, HUR.out, HUB.out, HUS.out⟩
                    case round =>
                      obtain ⟨m, hmm, rfl, hoo, hq1, hq3, hqr, hqb, hqs⟩ := hrel
                      obtain ⟨aoI, capI, rfl⟩ := hoo.form
                      have HOO := Lib.hid hoo
                      have HQ1 := Lib.hid hq1
                      have HQ3 := Lib.hid hq3
                      have HQR := Lib.hid hqr
                      have HQB := Lib.hid hqb
                      have HQS := Lib.hid hqs
                      clear hoo hq1 hq3 hqr hqb hqs
                      by_cases hlm : (m : Int) < (many : Int)
                      · have hal : Below wr.heap.size wr (wr.alloc (.cells #[.int .i64 (x : Int), .string { data := #[] }] 77)) := (Below.refl _ _).alloc (Nat.le_refl _) _
                        have HAL := Lib.hid hal
                        clear hal
                        go_wp2_with (at_builtin; go_must (refine wpList_appC _ rfl _ _ rfl w1.heap.size _ (acc ++ List.replicate m (x, [])) rfl (HOO.out.below HAL.out) (x, []) wr rfl rfl ?q1 ?q3 ?_))
                        case q1 => simp; omega
                        try (case q3 => have := HQS.out; simp; omega)
                        intro v8 w8 ho8 hg8
                        have hb8 : Below w1.heap.size wr w8 := (HAL.out.mono HQS.out).grown hg8 (Nat.le_trans HQS.out HAL.out.size) (fun j hj => (HOO.out.lt j ((ownBlock_len _ _ _ _ _).trans hj)).1)
                        have HO8 : Hid (OwnsC w8 w1.heap.size v8 (acc ++ List.replicate (m + 1) (x, []))) := Lib.hid (by
                          rw [List.replicate_succ']
                          exact ho8)
                        have HB8 := Lib.hid hb8
                        have hlow : w.heap.size + 1 < w1.heap.size := by rw [← HSZ.out]; exact hp3
                        clear ho8 hg8 hb8
                        go_wp2
                        go_roundw
                        case rel => exact ⟨m + 1, by omega, by go_num, HO8.out, HQ1.out.below HB8.out (by omega), HQ3.out.below HB8.out hlow, HQR.out.below (HB8.out.mono (by omega)), HQB.out.trans (HB8.out.mono (by omega)), Nat.le_trans HQS.out HB8.out.size⟩
                        case measure => simp [intOf]; omega
                      · obtain rfl : m = many := by omega
                        have hnx : Hid (Keep w B w.heap.size n w1.heap.size rest1 wr (.slice aoI (acc ++ List.replicate m (x, [])).length capI) (.string (S8 last)) (.int .i64 (x : Int)) (acc ++ List.replicate m (x, [])) last (some x) rest3 aoW capW) := Lib.hid
                          ⟨HOO.out, rfl, rfl, by simp; omega, HK.out.last64, HK.out.last8, fun y hy => h28 y (by obtain ⟨h, _⟩ := num_back HNK.out; rw [h]; simp [hy]), HQR.out, HQ1.out, HQ3.out, HQB.out, HQS.out, fun run c fin h => by
                            have := HK.out.next (List.replicate m (x, []) ++ run) c fin (TI.more (by omega) HIT.out (by rw [List.length_replicate]; rw [List.length_append, List.length_replicate, Nat.sub_add_eq] at h; exact h))
                            rw [List.append_assoc]
                            exact this⟩
                        go_wp2
                        go_roundw
                        case rel => exact ⟨_, _, _, _, _, _, hnx.out⟩
                        case measure => simp [lenOf]; omega
                · have hyi : ((y : Int) != 0) = true := by rw [bne_iff_ne]; omega
                  have HE : Hid (TRun rest c [] y []) := Lib.hid (by
                    rw [HC0.out]
                    exact TI.halt HN0.out hn64 HK.out.next (by omega) ⟨many, rest2, 0, HNM0.out, .inr (.inr (.inl ⟨rfl, by omega, hmle, k, rest3, c3, HNK.out, .inl ⟨by rw [HYY.out]; exact hy0, rfl, rfl, rfl, rfl, HYY.out.symm⟩⟩))⟩ hy0)
                  have HY0 := Lib.hid hy0
                  go_wp2_with fail
                  rw [← HU.out]
                  refine (rfail5_any aoW rest3.length capW y 2 U).mono ?_
                  rw [if_neg hy0]
                  rintro e w9 ⟨rfl, hb9⟩
                  obtain ⟨t0, t1, t2, t3⟩ := blk2 (HU3.out.old hb9)
                  have HB9 := Lib.hid (HUB.out.trans (hb9.mono HUB.out.size))
                  clear hb9 hy0
                  go_wp2
                  exact bodyPost_ret (v := .tuple #[.slice none 0 0, .agg #[.slice aoW rest3.length capW, .int .i64 (y : Int)]]) (by simp [results, Tryz.results55, go_sem, t0, t1]) rfl (rt_bad HE.out HY0.out (below_put HB9.out (Nat.le_succ _) _ _))
            · obtain rfl : many = 0 := by omega
              have hp1q : w.heap.size ≠ w2.heap.size := by have := (HK.out.bx1.old hb2).lt; omega
              have hp3q : w.heap.size + 1 ≠ w2.heap.size := by have := (HK.out.bx3.old hb2).lt; omega
              have hwq : w.heap.size ≤ w2.heap.size := Nat.le_trans HK.out.bel.size hb2.size
              have hM : Mid w B w.heap.size w2.heap.size w1.heap.size V (.slice aoO acc.length capO) acc (.slice ao2 rest2.length cap2) (.slice ao2 rest2.length cap2) (.int .i64 0) (.int .i64 0) :=
                ⟨HVO.out, HV10.out, HVN0.out, HV3.out, HVB.out, HVS.out, fun j hj => by have := ((HK.out.owns.below hb2).lt j hj).2; omega⟩
              have HM := Lib.hid hM
              have HP1 := Lib.hid hp1q
              have HP3 := Lib.hid hp3q
              have HWQ := Lib.hid hwq
              clear hM hp1q hp3q hwq hb2 hr2
              go_wp2_with fail
              rw [← HV0.out]
              refine (rnumber_any B ao2 cap2 rest2 0 V HB2V.out HVR.out h28).mono ?_
              rintro e w3 ⟨size, ao3, cap3, rest3, c3, rfl, hn3, hr3, hb3⟩
              have hbx := (HM.out.bxq.old hb3)
              obtain ⟨f0', f1', f2', f3'⟩ := blk2 hbx
              obtain ⟨U, hU⟩ : ∃ U, U = (w3.setCell ⟨w2.heap.size, 0, none⟩ (.slice ao3 rest3.length cap3)).setCell ⟨w2.heap.size, 1, none⟩ (.int .i64 (c3 : Int)) := ⟨_, rfl⟩
              have hm3 := HM.out.next hb3 HP1.out HP3.out HWQ.out (.slice ao3 rest3.length cap3) (.int .i64 (c3 : Int))
              rw [← hU] at hm3
              have HUR : Hid (RdU U B (.slice ao3 rest3.length cap3) rest3) := Lib.hid (by rw [hU]; exact hr3.below (below_put (Below.refl B w3) (Nat.le_trans hBs HWQ.out) _ _))
              have HM3 := Lib.hid hm3
              have HU := Lib.hid hU
              have HN3 := Lib.hid hn3
              clear hm3 hU hn3 hbx hr3 hb3 f0 f1 f2 f3
              by_cases hc3 : c3 = 0
              · subst hc3
                have HU0 : Hid (U = (w3.setCell ⟨w2.heap.size, 0, none⟩ (.slice ao3 rest3.length cap3)).setCell ⟨w2.heap.size, 1, none⟩ (.int .i64 0)) := HU
                have HM30 : Hid (Mid w B w.heap.size w2.heap.size w1.heap.size U (.slice aoO acc.length capO) acc (.slice ao2 rest2.length cap2) (.slice ao3 rest3.length cap3) (.int .i64 0) (.int .i64 0)) := HM3
                have HN30 : Hid (NumRel rest2 0 size rest3 0) := HN3
                have h38 : ∀ y ∈ rest3, y < 256 := fun y hy => h28 y (by obtain ⟨h, _⟩ := num_back HN30.out; rw [h]; simp [hy])
                by_cases hs64 : (64 : Int) < (size : Int)
                · have HE : Hid (TRun rest c [] 3 []) := Lib.hid (by
                    rw [HC0.out]
                    exact TI.halt HN0.out hn64 HK.out.next (by omega) ⟨0, rest2, 0, HNM0.out, .inr (.inr (.inr ⟨rfl, rfl, size, rest3, 0, HN30.out, .inr (.inl ⟨rfl, by omega, rfl, rfl, rfl, rfl, rfl⟩)⟩))⟩ (by decide))
                  go_wp2_with fail
                  rw [← HU0.out]
                  refine (rfail5_any ao3 rest3.length cap3 0 3 U).mono ?_
                  rw [if_pos rfl]
                  rintro e w9 ⟨rfl, hb9⟩
                  obtain ⟨t0, t1, t2, t3⟩ := blk2 (HM30.out.bx3.old hb9)
                  have HB9 := Lib.hid (HM30.out.bel.trans (hb9.mono HM30.out.bel.size))
                  clear hb9
                  go_wp2
                  exact bodyPost_ret (v := .tuple #[.slice none 0 0, .agg #[.slice ao3 rest3.length cap3, .int .i64 ((3 : Nat) : Int)]]) (by simp [results, Tryz.results55, go_sem, t0, t1]) rfl (rt_bad HE.out (by decide) (below_put HB9.out (Nat.le_succ _) _ _))
                · have hs64n : size ≤ 64 := by omega
                  have HB3U : Hid (B ≤ U.heap.size) := Lib.hid (Nat.le_trans hBs HM30.out.bel.size)
                  go_wp2_with fail
                  rw [← HU0.out]
                  refine (rnumber_any B ao3 cap3 rest3 0 U HB3U.out HUR.out h38).mono ?_
                  rintro e w4 ⟨s, ao4, cap4, rest4, c4, rfl, hn4, hr4, hb4⟩
                  obtain ⟨k0, k1, k2, k3⟩ := blk2 (HM30.out.bxq.old hb4)
                  obtain ⟨T, hT⟩ : ∃ T, T = (w4.setCell ⟨w2.heap.size, 0, none⟩ (.slice ao4 rest4.length cap4)).setCell ⟨w2.heap.size, 1, none⟩ (.int .i64 (c4 : Int)) := ⟨_, rfl⟩
                  have hm4 := HM30.out.next hb4 HP1.out HP3.out HWQ.out (.slice ao4 rest4.length cap4) (.int .i64 (c4 : Int))
                  rw [← hT] at hm4
                  have HTR : Hid (RdU T B (.slice ao4 rest4.length cap4) rest4) := Lib.hid (by rw [hT]; exact hr4.below (below_put (Below.refl B w4) (Nat.le_trans hBs HWQ.out) _ _))
                  have HM4 := Lib.hid hm4
                  have HT := Lib.hid hT
                  have HN4 := Lib.hid hn4
                  clear hm4 hT hn4 hr4 hb4 f0' f1' f2' f3'
                  by_cases hc4 : c4 = 0
                  · subst hc4
                    have HT0 : Hid (T = (w4.setCell ⟨w2.heap.size, 0, none⟩ (.slice ao4 rest4.length cap4)).setCell ⟨w2.heap.size, 1, none⟩ (.int .i64 0)) := HT
                    have HM40 : Hid (Mid w B w.heap.size w2.heap.size w1.heap.size T (.slice aoO acc.length capO) acc (.slice ao2 rest2.length cap2) (.slice ao4 rest4.length cap4) (.int .i64 0) (.int .i64 0)) := HM4
                    have HN40 : Hid (NumRel rest3 0 s rest4 0) := HN4
                    have h48 : ∀ y ∈ rest4, y < 256 := fun y hy => h38 y (by obtain ⟨h, _⟩ := num_back HN40.out; rw [h]; simp [hy])
                    have hls : (S8 last).size = last.length := S8_size last
                    have hl64 := HK.out.last64
                    have HMUCH : Hid ((size < s ∨ last.length < s) → TRun rest c [] 2 []) := Lib.hid fun h => by
                      rw [HC0.out]
                      exact TI.halt HN0.out hn64 HK.out.next (by omega) ⟨0, rest2, 0, HNM0.out, .inr (.inr (.inr ⟨rfl, rfl, size, rest3, 0, HN30.out, .inr (.inr ⟨rfl, hs64n, s, rest4, 0, HN40.out, .inr (.inl ⟨rfl, h, rfl, rfl, rfl, rfl, rfl⟩)⟩)⟩))⟩ (by decide)
                    by_cases hss : (size : Int) < (s : Int)
                    · have HE := Lib.hid (HMUCH.out (.inl (by omega)))
                      go_wp2_with fail
                      rw [← HT0.out]
                      refine (rfail5_any ao4 rest4.length cap4 0 2 T).mono ?_
                      rw [if_pos rfl]
                      rintro e w9 ⟨rfl, hb9⟩
                      obtain ⟨t0, t1, t2, t3⟩ := blk2 (HM40.out.bx3.old hb9)
                      have HB9 := Lib.hid (HM40.out.bel.trans (hb9.mono HM40.out.bel.size))
                      clear hb9
                      go_wp2
                      exact bodyPost_ret (v := .tuple #[.slice none 0 0, .agg #[.slice ao4 rest4.length cap4, .int .i64 ((2 : Nat) : Int)]]) (by simp [results, Tryz.results55, go_sem, t0, t1]) rfl (rt_bad HE.out (by decide) (below_put HB9.out (Nat.le_succ _) _ _))
                    by_cases hsl : (last.length : Int) < (s : Int)
                    · have HE := Lib.hid (HMUCH.out (.inr (by omega)))
                      go_wp2_with fail
                      rw [← HT0.out]
                      refine (rfail5_any ao4 rest4.length cap4 0 2 T).mono ?_
                      rw [if_pos rfl]
                      rintro e w9 ⟨rfl, hb9⟩
                      obtain ⟨t0, t1, t2, t3⟩ := blk2 (HM40.out.bx3.old hb9)
                      have HB9 := Lib.hid (HM40.out.bel.trans (hb9.mono HM40.out.bel.size))
                      clear hb9
                      go_wp2
                      exact bodyPost_ret (v := .tuple #[.slice none 0 0, .agg #[.slice ao4 rest4.length cap4, .int .i64 ((2 : Nat) : Int)]]) (by simp [results, Tryz.results55, go_sem, t0, t1]) rfl (rt_bad HE.out (by decide) (below_put HB9.out (Nat.le_succ _) _ _))
                    have hsub : (size : Int) - (s : Int) = ((size - s : Nat) : Int) := by omega
                    obtain ⟨D, hD⟩ : ∃ D, size - s = D := ⟨_, rfl⟩
                    rw [hD] at hsub
                    have HDD := Lib.hid hD
                    have hDb : (D : Int) ≤ 64 := by omega
                    have HB4T : Hid (B ≤ T.heap.size) := Lib.hid (Nat.le_trans hBs HM40.out.bel.size)
                    clear hD HMUCH
                    go_wp2_with fail
                    rw [← HT0.out]
                    refine (rfixed_any B ao4 cap4 rest4 0 (D : Int) T HB4T.out HTR.out).mono ?_
                    rintro e w5 ⟨ov, got, ao5, cap5, rest5, c5, rfl, hfx, hov, hr5, hb5⟩
                    obtain ⟨aoV, capV, rfl, _, _, _⟩ := hov.reads.val
                    obtain ⟨k0', k1', k2', k3'⟩ := blk2 (HM40.out.bxq.old hb5)
                    obtain ⟨S, hS⟩ : ∃ S, S = (w5.setCell ⟨w2.heap.size, 0, none⟩ (.slice ao5 rest5.length cap5)).setCell ⟨w2.heap.size, 1, none⟩ (.int .i64 (c5 : Int)) := ⟨_, rfl⟩
                    have hm5 := HM40.out.next hb5 HP1.out HP3.out HWQ.out (.slice ao5 rest5.length cap5) (.int .i64 (c5 : Int))
                    rw [← hS] at hm5
                    have HSR : Hid (RdU S B (.slice ao5 rest5.length cap5) rest5) := Lib.hid (by rw [hS]; exact hr5.below (below_put (Below.refl B w5) (Nat.le_trans hBs HWQ.out) _ _))
                    have HSV : Hid (RdU S B (.slice aoV got.length capV) got) := Lib.hid (by rw [hS]; exact hov.below (below_put (Below.refl B w5) (Nat.le_trans hBs HWQ.out) _ _))
                    have HM5 := Lib.hid hm5
                    have HS5 := Lib.hid hS
                    clear hm5 hS hr5 hov hb5 k0 k1 k2 k3
                    rcases hfx with ⟨h, _⟩ | ⟨_, hfew, rfl, rfl, rfl⟩ | ⟨_, _, hmany5, hgot, hrest5, rfl⟩
                    · exact absurd rfl h
                    · have HE : Hid (TRun rest c [] 2 []) := Lib.hid (by
                        rw [HC0.out]
                        exact TI.halt HN0.out hn64 HK.out.next (by omega) ⟨0, rest2, 0, HNM0.out, .inr (.inr (.inr ⟨rfl, rfl, size, rest3, 0, HN30.out, .inr (.inr ⟨rfl, hs64n, s, rest5, 0, HN40.out, .inr (.inr ⟨rfl, by omega, by omega, .inl ⟨by have := HDD.out; omega, rfl, rfl, rfl, rfl, rfl⟩⟩)⟩)⟩))⟩ (by decide))
                      have HS52 : Hid (S = (w5.setCell ⟨w2.heap.size, 0, none⟩ (.slice ao5 rest5.length cap5)).setCell ⟨w2.heap.size, 1, none⟩ (.int .i64 2)) := HS5
                      have hq5 : Bx S w2.heap.size (.slice ao5 rest5.length cap5) (.int .i64 2) := HM5.out.bxq
                      obtain ⟨s0, s1, s2, s3⟩ := blk2 hq5
                      obtain ⟨t0, t1, t2, t3⟩ := blk2 HM5.out.bx3
                      clear hq5
                      go_wp2_with fail
                      rw [← HS52.out]
                      go_region
                      all_goals go_wp2
                      all_goals exact bodyPost_ret (v := .tuple #[.slice none 0 0, .agg #[.slice ao5 rest5.length cap5, .int .i64 ((2 : Nat) : Int)]]) (by simp [results, Tryz.results55, go_sem, t0, t1]) rfl (rt_bad HE.out (by decide) (by first | exact below_put HM5.out.bel.drew (Nat.le_succ _) _ _ | exact below_put HM5.out.bel (Nat.le_succ _) _ _ | exact (below_put HM5.out.bel (Nat.le_succ _) _ _).drew))
                    · have hgot2 : got = rest4.take (size - s) := by rw [hgot, Int.toNat_natCast, HDD.out]
                      have hrest52 : rest5 = rest4.drop (size - s) := by rw [hrest5, Int.toNat_natCast, HDD.out]
                      have hgl : got.length = D := by rw [hgot, Int.toNat_natCast, List.length_take]; omega
                      have hS1z : Bx S w.heap.size (.slice ao2 rest2.length cap2) (.int .i64 0) := HM5.out.bx1
                      obtain ⟨k0, k1, k2, k3⟩ := blk2 hS1z
                      have hSqz : Bx S w2.heap.size (.slice ao5 rest5.length cap5) (.int .i64 0) := HM5.out.bxq
                      obtain ⟨l0, l1, l2, l3⟩ := blk2 hSqz
                      have HS50 : Hid (S = (w5.setCell ⟨w2.heap.size, 0, none⟩ (.slice ao5 rest5.length cap5)).setCell ⟨w2.heap.size, 1, none⟩ (.int .i64 0)) := HS5
                      obtain ⟨X, hX⟩ : ∃ X, X = (S.setCell ⟨w.heap.size, 0, none⟩ (.slice ao5 rest5.length cap5)).setCell ⟨w.heap.size, 1, none⟩ (.int .i64 0) := ⟨_, rfl⟩
                      have HX := Lib.hid hX
                      have HXO : Hid (OwnsC X w1.heap.size (.slice aoO acc.length capO) acc) := Lib.hid (by rw [hX]; exact HM5.out.owns.put (by rw [← HSZ.out]; exact hp1) _ _)
                      have HXB : Hid (Below w.heap.size w X) := Lib.hid (by rw [hX]; exact below_put HM5.out.bel (Nat.le_refl _) _ _)
                      have HX1b : Hid (Bx X w.heap.size (.slice ao5 rest5.length cap5) (.int .i64 0)) := Lib.hid (by rw [hX]; exact hS1z.put _ _)
                      have HX3b : Hid (Bx X (w.heap.size + 1) (.slice none 0 0) (.int .i64 0)) := Lib.hid (by rw [hX]; exact HM5.out.bx3.other (by omega) _ _ _ _)
                      have HXR : Hid (RdU X B (.slice ao5 rest5.length cap5) rest5) := Lib.hid (by rw [hX]; exact HSR.out.below (below_put (Below.refl B S) hBs _ _))
                      have hxv : RdU X B (.slice aoV got.length capV) got := by rw [hX]; exact HSV.out.below (below_put (Below.refl B S) hBs _ _)
                      have HXS : Hid (w1.heap.size ≤ X.heap.size) := Lib.hid (by rw [hX]; simpa using HM5.out.siz)
                      have hcv := fun d => conv_reads _ got (X.drewN d) (hxv.reads.drewN d)
                      have hcv' : ∀ d, (convert 29 9 (.slice aoV got.length capV)).run Tryz.prog (X.drewN d) = .ok (.string (S8 got)) (X.drewN d) := hcv
                      have hsl' := fun W => slice_S8 last s (by omega) W
                      have hg8 : ∀ y ∈ got, y < 256 := fun y hy => h48 y (by rw [hgot2] at hy; exact List.mem_of_mem_take hy)
                      have ht8 : ∀ y ∈ last.take s ++ got, y < 256 := fun y hy => (List.mem_append.1 hy).elim (fun h => HK.out.last8 y (List.mem_of_mem_take h)) (hg8 y)
                      have htl : (last.take s ++ got).length = size := by rw [List.length_append, List.length_take, hgl, ← HDD.out]; omega
                      have hcat := S8_app (last.take s) got
                      have hnc : ¬ 9223372036854775807 < (S8 (last.take s)).size + (S8 got).size := by rw [S8_size, S8_size, List.length_take]; omega
                      have HCOM : Hid (∀ W, Calls Tryz.prog 90 #[.string (S8 (last.take s ++ got)), .string (S8 last)] W fun e w' => e = .returned (.int .i64 (com (last.take s ++ got) last : Nat)) ∧ Below W.heap.size W w') := Lib.hid fun W => refCommon_any _ last W ht8 HK.out.last8 (by omega) (by omega)
                      have hITm : com (last.take s ++ got) last ≠ s → TRun rest c [] 2 [] := fun h => by
                        rw [HC0.out]
                        exact TI.halt HN0.out hn64 HK.out.next (by omega) ⟨0, rest2, 0, HNM0.out, .inr (.inr (.inr ⟨rfl, rfl, size, rest3, 0, HN30.out, .inr (.inr ⟨rfl, hs64n, s, rest4, 0, HN40.out, .inr (.inr ⟨rfl, by omega, by omega, .inr (.inl ⟨by have := HDD.out; omega, by rw [← hgot2]; exact h, rfl, rfl, rfl, rfl, rfl⟩)⟩)⟩)⟩))⟩ (by decide)
                      have hITk : com (last.take s ++ got) last = s → Item (n - acc.length) last row rst [(1, last.take s ++ got)] (last.take s ++ got) none rest5 0 := fun h =>
                        ⟨0, rest2, 0, HNM0.out, .inr (.inr (.inr ⟨rfl, rfl, size, rest3, 0, HN30.out, .inr (.inr ⟨rfl, hs64n, s, rest4, 0, HN40.out, .inr (.inr ⟨rfl, by omega, by omega, .inr (.inr ⟨by have := HDD.out; omega, by rw [← hgot2]; exact h, by rw [hgot2], by rw [hgot2], rfl, hrest52, rfl⟩)⟩)⟩)⟩))⟩
                      have h58 : ∀ y ∈ rest5, y < 256 := fun y hy => h48 y (by rw [hrest52] at hy; exact List.mem_of_mem_drop hy)
                      have HITM := Lib.hid hITm
                      have HITK := Lib.hid hITk
                      have HT8 := Lib.hid ht8
                      have HTL := Lib.hid htl
                      have H58 := Lib.hid h58
                      clear hITm hITk ht8 htl h58 hX hS1z hSqz hxv hcv hg8 hgot hrest5 hgot2 hrest52 hmany5 hgl
                      rw [HS50.out] at k0 k1 k2 k3 l0 l1
                      generalize last.take s ++ got = text at hcat HCOM HITM HITK HT8 HTL
                      generalize S8 (last.take s) = z1 at hsl' hcat hnc
                      generalize S8 got = z2 at hcv' hcat hnc
                      go_wp2_with fail
                      rw [← HS50.out, ← HX.out]
                      go_quiet (fail)
                      go_wp2_with fail
                      refine (HCOM.out _).mono ?_
                      rintro e w6 ⟨rfl, hb6⟩
                      have hbx : Below X.heap.size X w6 := ⟨hb6.os, hb6.tape, hb6.output, hb6.size, hb6.block⟩
                      have HBX := Lib.hid hbx
                      clear hb6 hbx
                      have hsi : (s : Int) ≤ 64 := by omega
                      by_cases hcom : com text last = s
                      · have hce : ((com text last : Nat) : Int) = (s : Int) := by omega
                        have HIT := Lib.hid (HITK.out hcom)
                        generalize com text last = cc at hce
                        have HOX := Lib.hid (HXO.out.below HBX.out)
                        have hal : Below w6.heap.size w6 (w6.alloc (.cells #[.int .i64 1, .string (S8 text)] 77)) := (Below.refl _ _).alloc (Nat.le_refl _) _
                        have HAL := Lib.hid hal
                        clear hal hcom
                        go_wp2_with (at_builtin; go_must (refine wpList_appC _ rfl _ _ rfl w1.heap.size _ acc rfl (HOX.out.below HAL.out) (1, text) w6 rfl rfl ?r1 ?r3 ?_))
                        case r1 => omega
                        try (case r3 => have := HXS.out; have := HBX.out.size; simp; omega)
                        intro v8 w8 ho8 hg8
                        have hs6 : w1.heap.size ≤ w6.heap.size := Nat.le_trans HXS.out HBX.out.size
                        have hb8 : Below w1.heap.size w6 w8 := (HAL.out.mono hs6).grown hg8 (Nat.le_trans hs6 HAL.out.size) (fun j hj => (HXO.out.lt j ((ownBlock_len _ _ _ _ _).trans hj)).1)
                        have hbX : Below w1.heap.size X w8 := (HBX.out.mono HXS.out).trans hb8
                        have hlow : w.heap.size + 1 < w1.heap.size := by rw [← HSZ.out]; exact hp3
                        have hnx : Hid (Keep w B w.heap.size n w1.heap.size rest1 w8 v8 (.string (S8 text)) (.int .i64 (-1)) (acc ++ [(1, text)]) text none rest5 ao5 cap5) := Lib.hid
                          ⟨ho8, rfl, rfl, by simp; omega, by have := HTL.out; omega, HT8.out, H58.out, HXR.out.below (hbX.mono (by omega)), HX1b.out.below hbX (by omega), HX3b.out.below hbX hlow, HXB.out.trans (hbX.mono (by omega)), Nat.le_trans HXS.out hbX.size, fun run c fin h => by
                            have := HK.out.next ([(1, text)] ++ run) c fin (TI.more (by omega) HIT.out (by rw [List.length_append, Nat.sub_add_eq] at h; exact h))
                            rw [List.append_assoc]
                            exact this⟩
                        have hl8 : Hid (lenOf v8 = acc.length + 1) := Lib.hid (by rw [hnx.out.owns.len]; simp)
                        clear ho8 hg8 hb8 hbX
                        go_wp2
                        go_roundw
                        case rel => exact ⟨_, _, _, _, _, _, hnx.out⟩
                        case measure => rw [hl8.out]; simp [lenOf]; omega
                      · have hce : (((com text last : Nat) : Int) != (s : Int)) = true := by rw [bne_iff_ne]; omega
                        have HE := Lib.hid (HITM.out hcom)
                        generalize com text last = cc at hce
                        have g1x := HX1b.out.old HBX.out
                        obtain ⟨s0, s1, s2, s3⟩ := blk2 g1x
                        clear hcom g1x
                        go_wp2_with fail
                        refine (rfail5_any ao5 rest5.length cap5 0 2 w6).mono ?_
                        rw [if_pos rfl]
                        rintro e w9 ⟨rfl, hb9⟩
                        obtain ⟨t0, t1, t2, t3⟩ := blk2 ((HX3b.out.old HBX.out).old hb9)
                        have HB9 := Lib.hid ((HXB.out.trans (HBX.out.mono HXB.out.size)).trans (hb9.mono (Nat.le_trans HXB.out.size HBX.out.size)))
                        clear hb9
                        go_wp2
                        exact bodyPost_ret (v := .tuple #[.slice none 0 0, .agg #[.slice ao5 rest5.length cap5, .int .i64 ((2 : Nat) : Int)]]) (by simp [results, Tryz.results55, go_sem, t0, t1]) rfl (rt_bad HE.out (by decide) (below_put HB9.out (Nat.le_succ _) _ _))
                  · have hci4 : ((c4 : Int) != 0) = true := by rw [bne_iff_ne]; omega
                    have HE : Hid (TRun rest c [] c4 []) := Lib.hid (by
                      rw [HC0.out]
                      exact TI.halt HN0.out hn64 HK.out.next (by omega) ⟨0, rest2, 0, HNM0.out, .inr (.inr (.inr ⟨rfl, rfl, size, rest3, 0, HN30.out, .inr (.inr ⟨rfl, hs64n, s, rest4, c4, HN4.out, .inl ⟨hc4, rfl, rfl, rfl, rfl, rfl⟩⟩)⟩))⟩ hc4)
                    have HC4 := Lib.hid hc4
                    go_wp2_with fail
                    rw [← HT.out]
                    refine (rfail5_any ao4 rest4.length cap4 c4 2 T).mono ?_
                    rw [if_neg hc4]
                    rintro e w9 ⟨rfl, hb9⟩
                    obtain ⟨t0, t1, t2, t3⟩ := blk2 (HM4.out.bx3.old hb9)
                    have HB9 := Lib.hid (HM4.out.bel.trans (hb9.mono HM4.out.bel.size))
                    clear hb9 hc4
                    go_wp2
                    exact bodyPost_ret (v := .tuple #[.slice none 0 0, .agg #[.slice ao4 rest4.length cap4, .int .i64 (c4 : Int)]]) (by simp [results, Tryz.results55, go_sem, t0, t1]) rfl (rt_bad HE.out HC4.out (below_put HB9.out (Nat.le_succ _) _ _))
              · have hci3 : ((c3 : Int) != 0) = true := by rw [bne_iff_ne]; omega
                have HE : Hid (TRun rest c [] c3 []) := Lib.hid (by
                  rw [HC0.out]
                  exact TI.halt HN0.out hn64 HK.out.next (by omega) ⟨0, rest2, 0, HNM0.out, .inr (.inr (.inr ⟨rfl, rfl, size, rest3, c3, HN3.out, .inl ⟨hc3, rfl, rfl, rfl, rfl, rfl⟩⟩))⟩ hc3)
                have HC3 := Lib.hid hc3
                go_wp2_with fail
                rw [← HU.out]
                refine (rfail5_any ao3 rest3.length cap3 c3 3 U).mono ?_
                rw [if_neg hc3]
                rintro e w9 ⟨rfl, hb9⟩
                obtain ⟨t0, t1, t2, t3⟩ := blk2 (HM3.out.bx3.old hb9)
                have HB9 := Lib.hid (HM3.out.bel.trans (hb9.mono HM3.out.bel.size))
                clear hb9 hc3
                go_wp2
                exact bodyPost_ret (v := .tuple #[.slice none 0 0, .agg #[.slice ao3 rest3.length cap3, .int .i64 (c3 : Int)]]) (by simp [results, Tryz.results55, go_sem, t0, t1]) rfl (rt_bad HE.out HC3.out (below_put HB9.out (Nat.le_succ _) _ _))
          · have hci2 : ((c2 : Int) != 0) = true := by rw [bne_iff_ne]; omega
            have HE : Hid (TRun rest c [] c2 []) := Lib.hid (by
              rw [HC0.out]
              exact TI.halt HN0.out hn64 HK.out.next (by omega) ⟨many, rest2, c2, HNM.out, .inl ⟨hc2, rfl, rfl, rfl, rfl, rfl⟩⟩ hc2)
            have HC2 := Lib.hid hc2
            go_wp2_with fail
            rw [← HV.out]
            obtain ⟨s0, s1, s2, s3⟩ := blk2 HV1.out
            obtain ⟨t0, t1, t2, t3⟩ := blk2 HV3.out
            go_region
            all_goals go_wp2
            all_goals exact bodyPost_ret (v := .tuple #[.slice none 0 0, .agg #[.slice ao2 rest2.length cap2, .int .i64 (c2 : Int)]]) (by simp [results, Tryz.results55, go_sem, t0, t1]) rfl (rt_bad HE.out HC2.out (by first | exact below_put HVB.out.drew (by omega) _ _ | exact below_put HVB.out (by omega) _ _ | exact (below_put HVB.out (by omega) _ _).drew))
        · obtain hle : acc.length = n := by omega
          have HE : Hid (TRun rest c acc 0 rst) := Lib.hid ⟨n, rest1, 0, HN.out, .inr (.inr ⟨rfl, hn64, acc, 0, rst, by
            have := HK.out.next [] 0 rst (by rw [hle, Nat.sub_self]; exact .over)
            simpa using this, rfl, rfl, rfl⟩)⟩
          clear hle
          go_wp2_with fail
          go_region
          all_goals go_wp2
          all_goals exact bodyPost_ret (v := .tuple #[.slice aoO acc.length capO, .agg #[.slice aoK rst.length capK, .int .i64 0]]) (by simp [results, Tryz.results55, go_sem, d0, d1]) rfl ⟨_, acc, aoK, rst.length, capK, 0, rst, rfl, HE.out, (HK.out.owns.put (q := w.heap.size + 1) (by rw [← HSZ.out]; exact hp3) _ _).mono (by rw [← HSZ.out]; exact HBW.out.size), fun _ => ⟨rfl, HK.out.rd.below (below_put (by first | exact (Below.refl B wr).drew | exact Below.refl B wr) (Nat.le_succ_of_le hBs) _ _)⟩, below_put (by first | exact HK.out.bel.drew | exact HK.out.bel) (Nat.le_succ _) _ _⟩
  · have hci : ((c1 : Int) != 0) = true := by rw [bne_iff_ne]; omega
    have HC := Lib.hid hc1
    go_wp2_with fail
    rw [← HWW.out]
    refine (rfail5_any ao1 rest1.length cap1 c1 3 W).mono ?_
    rw [if_neg hc1]
    rintro e w2 ⟨rfl, hb2⟩
    have h3 := HX3.out.old hb2
    obtain ⟨b0, b1, b2, b3⟩ := blk2 h3
    have HE : Hid (TRun rest c [] c1 []) := Lib.hid ⟨n, rest1, c1, HN.out, .inl ⟨hc1, rfl, rfl, rfl⟩⟩
    have HB2 := Lib.hid (HBW.out.trans (hb2.mono HBW.out.size))
    clear hc1 hb2
    go_wp2
    exact bodyPost_ret (v := .tuple #[.slice none 0 0, .agg #[.slice ao1 rest1.length cap1, .int .i64 (c1 : Int)]]) (by simp [results, Tryz.results55, go_sem, b0, b1]) rfl ⟨_, [], ao1, rest1.length, cap1, c1, [], rfl, HE.out, World.ownsRow_nil _ _ _ _, fun h => absurd h HC.out, below_put HB2.out (by omega) _ _⟩

end Go.Proofs.YtpebmmhokigglaaGreatDoor

namespace Go.Proofs.YtpebmmhokigglaaGreatDoor
open Go.RowKit

/-- A cell, taken: the kind, the bytes, the error, what is left. -/
def TCell (rest : List Nat) (c : Nat) (k : Nat) (d : List Nat) (c' : Nat) (fin : List Nat) : Prop :=
  ∃ n r1 c1, NumRel rest c n r1 c1 ∧
    ((n ≠ 1 ∧ ((withinC n c1 3 ≠ 0 ∧ k = 0 ∧ d = [] ∧ c' = withinC n c1 3 ∧ fin = []) ∨ (withinC n c1 3 = 0 ∧ k = n ∧ d = [] ∧ c' = 0 ∧ fin = r1))) ∨
     (n = 1 ∧ ∃ m r2 c2 out r3 c3, NumRel r1 c1 m r2 c2 ∧ FixRel r2 (manyC m c2 64) (manyR m 64 : Nat) out r3 c3 ∧
       ((c3 ≠ 0 ∧ k = 0 ∧ d = [] ∧ c' = c3 ∧ fin = []) ∨ (c3 = 0 ∧ k = 1 ∧ d = out ∧ c' = 0 ∧ fin = r3))))

theorem TCell.unique {rest : List Nat} {c k k' : Nat} {d d' : List Nat} {e e' : Nat} {fin fin' : List Nat} (h : TCell rest c k d e fin) (h' : TCell rest c k' d' e' fin') : k = k' ∧ d = d' ∧ e = e' ∧ fin = fin' := by
  obtain ⟨n, r1, c1, hn, h⟩ := h
  obtain ⟨n', r1', c1', hn', h'⟩ := h'
  obtain ⟨rfl, rfl, rfl⟩ := hn.unique hn'
  rcases h with ⟨h1, h⟩ | ⟨h1, m, r2, c2, out, r3, c3, hm, hf, h⟩ <;> rcases h' with ⟨g1, g⟩ | ⟨g1, m', r2', c2', out', r3', c3', hm', hf', g⟩ <;> first | omega | skip
  · rcases h with ⟨a, rfl, rfl, rfl, rfl⟩ | ⟨a, rfl, rfl, rfl, rfl⟩ <;> rcases g with ⟨b, rfl, rfl, rfl, rfl⟩ | ⟨b, rfl, rfl, rfl, rfl⟩ <;> first | exact ⟨rfl, rfl, rfl, rfl⟩ | omega
  · obtain ⟨rfl, rfl, rfl⟩ := hm.unique hm'
    obtain ⟨rfl, rfl, rfl⟩ := hf.unique hf'
    rcases h with ⟨a, rfl, rfl, rfl, rfl⟩ | ⟨a, rfl, rfl, rfl, rfl⟩ <;> rcases g with ⟨b, rfl, rfl, rfl, rfl⟩ | ⟨b, rfl, rfl, rfl, rfl⟩ <;> first | exact ⟨rfl, rfl, rfl, rfl⟩ | omega

end Go.Proofs.YtpebmmhokigglaaGreatDoor

namespace Go.Proofs.YtpebmmhokigglaaGreatDoor
open Go.RowKit

/-- A data cell's item. -/
def ditem (last d : List Nat) : List Nat := enc 0 ++ (enc d.length ++ (enc (com d last) ++ d.drop (com d last)))

set_option maxHeartbeats 1000000 in
set_option maxRecDepth 100000 in
theorem dataItem_any (v1 v2 : Value) (last d : List Nat) (w : World) (h1 : Reads w .u8 v1 last) (h2 : Reads w .u8 v2 d) (hl1 : last.length ≤ 64) (hl2 : d.length ≤ 64) :
    Calls Tryz.prog 85 #[v1, v2] w fun e w' => ∃ v', e = .returned v' ∧ Owns w' w.heap.size 5 .u8 v' (ditem last d) ∧ Below w.heap.size w w' := by
  obtain ⟨ao1, cap1, rfl, _, _, _⟩ := h1.val
  obtain ⟨ao2, cap2, rfl, _, _, _⟩ := h2.val
  have H1 := Lib.hid h1; clear h1
  have H2 := Lib.hid h2; clear h2
  have hcl := com_le_left d last
  go_enter Tryz.func85, Tryz.ntmps85
  go_wp2_with fail
  refine (alikeBytes_any _ _ last d w H1.out H2.out (by omega)).mono ?_
  rintro e w1 ⟨rfl, hb1⟩
  obtain ⟨s, hs⟩ : ∃ s, s = com d last := ⟨_, rfl⟩
  rw [com_comm last d, ← hs]
  rw [← hs] at hcl
  have HDT : Hid (ditem last d = enc 0 ++ (enc d.length ++ (enc s ++ d.drop s))) := Lib.hid (by unfold ditem; rw [← hs])
  clear hs
  have HB1 := Lib.hid hb1
  have HD1 := Lib.hid (H2.out.new hb1)
  clear hb1 H1 H2
  have hw1 : IntKind.u64.wrap (d.length : Int) = (d.length : Int) := IntWalk.u64_in _ (by omega)
  have hw2 : IntKind.u64.wrap (s : Int) = (s : Int) := IntWalk.u64_in _ (by omega)
  have hun : ∀ x ∈ [0, d.length, s], U64 x := by
    intro x hx
    simp only [List.mem_cons, List.not_mem_nil, or_false] at hx
    unfold U64
    omega
  have HLIT := Lib.hid (reads_marked w1 84 .u64 [0, d.length, s] #[.int .u64 0, .int .u64 (d.length : Int), .int .u64 (s : Int)] (0, 0) rfl (by simp [maxLen]))
  have hal : Below w1.heap.size w1 (w1.alloc (.cells #[.int .u64 0, .int .u64 (d.length : Int), .int .u64 (s : Int)] 84)) := (Below.refl _ _).alloc (Nat.le_refl _) _
  have HAL := Lib.hid hal
  have HUN := Lib.hid hun
  clear hal hun
  go_wp2_with fail
  refine (put_any _ _ [] [0, d.length, s] _ (reads_none _ _) HLIT.out HUN.out (by simp)).mono ?_
  rintro e w2 ⟨v2, rfl, ho2, hb2⟩
  have hencs : encs [0, d.length, s] = enc 0 ++ (enc d.length ++ enc s) := by simp [encs]
  rw [hencs, List.nil_append] at ho2
  have hb12 := HAL.out.trans (hb2.mono HAL.out.size)
  have HB2 := Lib.hid (HB1.out.trans (hb12.mono HB1.out.size))
  have HO2 : Hid (Owns w2 w.heap.size 5 .u8 v2 (enc 0 ++ (enc d.length ++ enc s))) := Lib.hid (ho2.mono (Nat.le_trans HB1.out.size HAL.out.size))
  have HD2 := Lib.hid (HD1.out.new hb12)
  have hsl := fun W => slice_tail W ao2 d.length cap2 s hcl
  have HR2 : Hid (Reads w2 .u8 _ (d.drop s)) := Lib.hid (HD2.out.tail hcl)
  generalize (if cap2 = s then ao2 else ao2.map fun x => x.add s) = atl at hsl HR2
  have hen : (enc 0 ++ (enc d.length ++ enc s)).length ≤ 30 := by
    have e0 := enc_len10 (n := 0) (by unfold U64; omega)
    have e1 := enc_len10 (n := d.length) (by unfold U64; omega)
    have e2 := enc_len10 (n := s) (by unfold U64; omega)
    rw [List.length_append, List.length_append]; omega
  have hdl : (d.drop s).length ≤ 64 := by rw [List.length_drop]; omega
  clear hb2 hb12 ho2 HD1 HAL HLIT HUN HB1 hencs
  go_wp2_with (at_builtin; go_must (refine wpList_app _ rfl _ _ 29 rfl w.heap.size 5 (.int .u8 0) 1 Tryz.underlying29 Tryz.info5 rfl .u8 _ (enc 0 ++ (enc d.length ++ enc s)) rfl HO2.out _ (d.drop s) rfl HR2.out (by decide) ?c1 ?c3 ?_))
  case c1 => omega
  case c3 => exact HB2.out.size
  intro v3 w3 ho3 hg3
  have HO3 := Lib.hid ho3
  have HB3 := Lib.hid (HB2.out.grown hg3 HB2.out.size (fun j hj => (HO2.out.lt j hj).1))
  clear ho3 hg3
  go_wp2
  go_ret
  exact ⟨_, rfl, by rw [HDT.out]; simpa [List.append_assoc] using HO3.out, HB3.out⟩

set_option maxRecDepth 100000 in
/-- A slice of cells' tail. -/
theorem slice_tailC (w : World) (a : Option Addr) (n c m : Nat) (h : m ≤ n) : (Instr.slice 22 (.slice a n c) (some (.int .i64 (m : Int))) none none).run Tryz.prog w = .ok (.slice (if c = m then a else a.map fun x => x.add (m * 2)) (n - m) (c - m)) w := by
  rw [run_slice_l w 22 a n c (by kernel_rfl) .i64 (m : Int) (by omega) (by omega)]
  have hs : (sizeOf (Tryz.prog.elem 22)).run Tryz.prog w = .ok 2 w := by kernel_rfl
  rw [hs]
  simp only [Result.andThen, sliced, Int.toNat_natCast]

theorem ditem_len {last d : List Nat} (h1 : d.length ≤ 64) : (ditem last d).length ≤ 100 := by
  have hc := com_le_left d last
  have e0 := enc_len10 (n := 0) (by unfold U64; omega)
  have e1 := enc_len10 (n := d.length) (by unfold U64; omega)
  have e2 := enc_len10 (n := com d last) (by unfold U64; omega)
  unfold ditem
  rw [List.length_append, List.length_append, List.length_append, List.length_drop]
  omega
theorem items_len : ∀ (n : Nat) (run : List CC) (last : List Nat), run.length = n → n ≤ 64 → (∀ c ∈ run, okC c) → (items last run).length ≤ 100 * n := by
  intro n
  induction n using Nat.strongRecOn with
  | _ n ih =>
    intro run last hn h64 hok
    match run, hn, hok with
    | [], _, _ => rw [items_nil]; simp
    | (k, d) :: r, hn, hok =>
      rw [List.length_cons] at hn
      obtain ⟨hk3, hd64, _, _⟩ := hok (k, d) (by simp)
      simp only at hk3 hd64
      by_cases hk1 : k = 1
      · subst hk1
        rw [items_data]
        have h1 := ih (n - 1) (by omega) r d (by omega) (by omega) (fun c hc => hok c (by simp [hc]))
        have h2 := ditem_len (last := last) hd64
        unfold ditem at h2
        simp only [List.length_append] at h2 ⊢
        omega
      · rw [items_row _ _ _ _ hk1]
        have hle := lead_le k r
        have h1 := ih (n - (lead k r + 1)) (by omega) (r.drop (lead k r)) last (by rw [List.length_drop]; omega) (by omega) (fun c hc => hok c (by simp [List.mem_of_mem_drop hc]))
        have e1 := enc_len10 (n := lead k r + 1) (by unfold U64; omega)
        have e2 := enc_len10 (n := k) (by unfold U64; omega)
        rw [List.length_append, List.length_append]
        omega

theorem rbytes_pos (run : List CC) : 0 < (rbytes run).length := by
  unfold rbytes
  rw [List.length_append]
  have := enc_pos run.length
  omega

theorem chk_okC {c : CC} (h : okC c) : chk (c.1 : Int) c.2.length = 0 := by
  obtain ⟨a, b, n, _⟩ := h
  unfold chk
  rw [if_neg (by omega), if_neg (by omega), if_neg]
  rintro ⟨h1, h2⟩
  have := n (by omega)
  rw [this] at h2
  simp at h2
theorem chkRun_okC {run : List CC} (hl : run.length ≤ 64) (h : ∀ c ∈ run, okC c) : chkRun (run.map toIC) = 0 :=
  chkRun_good (by rw [List.length_map]; exact hl) fun c hc => by
    obtain ⟨x, hx, rfl⟩ := List.mem_map.1 hc
    exact chk_okC (h x hx)

end Go.Proofs.YtpebmmhokigglaaGreatDoor

namespace Go.Proofs.YtpebmmhokigglaaGreatDoor
open Go.RowKit

set_option maxHeartbeats 4000000 in
set_option maxRecDepth 100000 in
theorem putRun_good (bv v : Value) (b : List Nat) (run : List CC) (w : World) (B : Nat → Prop) (hb : Reads w .u8 bv b) (hr : CellsAt w B v (run.map toIC)) (hok : ∀ c ∈ run, okC c) (hl : run.length ≤ 64) (hx : b.length ≤ 60000000000000) :
    Calls Tryz.prog 48 #[bv, v] w fun e w' => ∃ v', e = .returned (.tuple #[v', .nilIface]) ∧ Owns w' w.heap.size 5 .u8 v' (b ++ rbytes run) ∧ Below w.heap.size w w' := by
  obtain ⟨ao, cap, rfl, h1, h2, h3⟩ := hr.val
  obtain ⟨aob, capb, rfl, _, _, _⟩ := hb.val
  have hr2 := hr.mono (C := fun j => j < w.heap.size) fun j hj _ => hj
  have hmap : (run.map toIC).length = run.length := List.length_map _
  rw [hmap] at hr2 ⊢
  have HR := Lib.hid hr2
  have HRB := Lib.hid hb
  have HOK := Lib.hid hok
  have HITL : Hid ((items [] run).length ≤ 6400) := Lib.hid (by have := items_len _ run [] rfl hl hok; omega)
  clear hr hr2 hb h1 h2 h3 hmap hok
  go_enter Tryz.func48, Tryz.ntmps48
  go_wp2_with fail
  refine (checkRun_any _ (run.map toIC) w _ HR.out).mono ?_
  rintro e w1 ⟨rfl, hb1⟩
  rw [chkRun_okC hl HOK.out, errV_zero]
  have HB1 := Lib.hid hb1
  clear hb1
  have hwr : IntKind.u64.wrap (run.length : Int) = (run.length : Int) := IntWalk.u64_in _ (by omega)
  have hun : ∀ x ∈ [run.length], U64 x := by
    intro x hx
    rw [List.mem_singleton.1 hx]
    unfold U64; omega
  go_wp2_with fail
  refine (put_any _ _ [] [run.length] _ (reads_none _ _) (reads_new w1 .u64 84 run.length) hun (by simp)).mono ?_
  rintro e w2 ⟨v2, rfl, ho2, hb2⟩
  have hb12 : Below w1.heap.size w1 w2 := ((Below.refl _ _).alloc (Nat.le_refl _) _).trans (hb2.mono (by simp))
  have HB2 : Hid (Below w.heap.size w w2) := Lib.hid (HB1.out.trans (hb12.mono HB1.out.size))
  have HO2 : Hid (Owns w2 w.heap.size 5 .u8 v2 (enc run.length ++ [])) := Lib.hid ((show Owns w2 (w1.heap.size + 1) 5 .u8 v2 (enc run.length ++ []) by simpa [encs] using ho2).mono (by have := HB1.out.size; omega))
  have hel : (enc run.length).length ≤ 10 := enc_len10 (by unfold U64; omega)
  clear hb2 hb12 ho2 hun HB1
  go_wp2
  go_loopw [1, 7, 8, 9, 10] (fun rv ov lv _ _ wr => ∃ (rest : List CC) (done last : List Nat) (ar : Option Addr) (n capr : Nat), rv = .slice ar n capr ∧ n = rest.length ∧ CellsAt w (fun j => j < w.heap.size) (.slice ar n capr) (rest.map toIC) ∧ (∀ c ∈ rest, okC c) ∧ n ≤ 64 ∧
      items [] run = done ++ items last rest ∧ Owns wr w.heap.size 5 .u8 ov (enc run.length ++ done) ∧ At wr (fun j => j < w.heap.size) .u8 lv last ∧ last.length ≤ 64 ∧ Below w.heap.size w wr)
    (fun rv _ _ _ _ _ => lenOf rv)
  case atStart => exact ⟨run, [], [], ao, run.length, cap, rfl, rfl, HR.out, HOK.out, hl, rfl, HO2.out, ⟨reads_none _ _, .inl rfl⟩, by simp, HB2.out⟩
  case round =>
    clear HO2 HB2 HR
    obtain ⟨rest, done, last, ar, n, capr, rfl, hn, hca, hokr, hn64, hit, ho, hat, hll, hb⟩ := hrel
    have HN := Lib.hid hn
    have HCA := Lib.hid hca
    have HOKR := Lib.hid hokr
    have HIT := Lib.hid hit
    have HO := Lib.hid ho
    have HAT := Lib.hid hat
    have HB := Lib.hid hb
    obtain ⟨aol, capl, rfl, _, _, _⟩ := hat.reads.val
    have hdl : done.length ≤ 6400 := by
      have := HITL.out
      rw [hit, List.length_append] at this
      omega
    have hol : (enc run.length ++ done).length ≤ 6500 := by rw [List.length_append]; omega
    clear hca hokr hit ho hat hb hdl hn
    match rest, HN, HCA, HOKR, HIT with
    | [], HN, HCA, HOKR, HIT =>
      have hn0 : n = 0 := HN.out
      subst hn0
      have HE : Hid (enc run.length ++ done = rbytes run) := Lib.hid (by
        unfold rbytes
        rw [HIT.out, items_nil, List.append_nil])
      have hpos := rbytes_pos run
      rw [← HE.out] at hpos
      generalize enc run.length ++ done = own at HO HE hol hpos
      obtain ⟨aoo, capo, rfl, _, _, _⟩ := HO.out.reads.val
      have HRB2 : Hid (Reads wr .u8 (.slice aob b.length capb) b) := Lib.hid (HRB.out.below HB.out (Nat.le_refl _))
      have hal : Below wr.heap.size wr (wr.alloc (.cells #[.slice aob b.length capb, .slice aoo own.length capo] 29)) := (Below.refl _ _).alloc (Nat.le_refl _) _
      have HAL := Lib.hid hal
      clear hal HN HCA HAT
      go_wp2_with fail
      refine (concat_any _ [b, own] (b ++ own) _ _ (txs_two wr _ _ _ b own HRB2.out HO.out.reads) (by simp) (by rw [List.length_append]; omega) (by rw [List.length_append]; omega) (by simp)).mono ?_
      rintro e w4 ⟨v4, rfl, ho4, hb4⟩
      have HO4 : Hid (Owns w4 w.heap.size 5 .u8 v4 (b ++ own)) := Lib.hid (ho4.mono (by have := HB.out.size; simp; omega))
      have HB4 : Hid (Below w.heap.size w w4) := Lib.hid ((HB.out.alloc HB.out.size _).trans (hb4.mono (by have := HB.out.size; simp; omega)))
      clear ho4 hb4
      go_wp2
      go_ret2
      exact ⟨_, rfl, by rw [← HE.out]; exact HO4.out, HB4.out⟩
    | (k, d) :: r, HN, HCA, HOKR, HIT =>
      obtain ⟨hk3, hd64, hdn, _⟩ := HOKR.out (k, d) (by simp)
      simp only at hk3 hd64 hdn
      obtain ⟨bb, off, x, rfl, hbb, _, c0, c1, hatx⟩ := HCA.out.at (i := 0) (by simp)
      have hgd : (((k, d) :: r).map toIC).getD 0 (0, []) = ((k : Int), d) := rfl
      rw [hgd] at c0 hatx
      simp only [Nat.zero_mul, Nat.add_zero] at c0 c1 hatx
      obtain ⟨aox, capx, rfl, _, _, _⟩ := hatx.reads.val
      have d0 := (HB.out.cell (p := ⟨bb, off, none⟩) hbb).trans c0
      have d1 := (HB.out.cell (p := ⟨bb, off + 1, none⟩) hbb).trans c1
      have HATX := Lib.hid hatx
      have HNR : Hid (n = r.length + 1) := HN
      have h0n : (0 : Int) < (n : Int) := by have := HNR.out; omega
      have HDN := Lib.hid hdn
      obtain ⟨W, hW⟩ : ∃ W, W = wr.alloc (.cells #[.int .i64 (k : Int), .slice aox d.length capx] 72) := ⟨_, rfl⟩
      have hal : Below wr.heap.size wr W := by rw [hW]; exact (Below.refl _ _).alloc (Nat.le_refl _) _
      have hbox : W.heap[wr.heap.size]? = some (.cells #[.int .i64 (k : Int), .slice aox d.length capx] 72 (0, 0)) := by rw [hW]; exact heap_alloc_new _ _
      have HBW := Lib.hid (HB.out.trans (hal.mono HB.out.size))
      have HOW := Lib.hid (HO.out.below hal (Nat.le_refl _))
      have HOLT := Lib.hid HO.out.lt
      have HATW := Lib.hid (HAT.out.old hal)
      have HBOX := Lib.hid hbox
      have HW := Lib.hid hW
      have HSZ : Hid (w.heap.size ≤ wr.heap.size) := Lib.hid HB.out.size
      clear hatx c0 c1 hal hbox hW HB HO HAT HN hdn
      by_cases hk1 : k = 1
      · subst hk1
        have HW1 : Hid (W = wr.alloc (.cells #[.int .i64 1, .slice aox d.length capx] 72)) := HW
        have hb2 : W.heap[wr.heap.size]? = some (.cells #[.int .i64 1, .slice aox d.length capx] 72 (0, 0)) := HBOX.out
        rw [HW1.out] at hb2
        obtain ⟨x0, x1, _, _⟩ := blk2 hb2
        clear hb2
        go_wp2_with fail
        rw [← HW1.out]
        refine (dataItem_any _ _ last d W HATW.out.reads (HATX.out.keep (kept_below HBW.out)).reads hll hd64).mono ?_
        rintro e w3 ⟨v3, rfl, ho3, hb3⟩
        have HB3 := Lib.hid (HBW.out.trans (hb3.mono HBW.out.size))
        have HO3 := Lib.hid (HOW.out.below hb3 (Nat.le_refl _))
        have HBX3 := Lib.hid ((hb3.block _ (Array.getElem?_eq_some_iff.1 HBOX.out).1).trans HBOX.out)
        have HDI := Lib.hid ho3.reads
        have hdil := ditem_len (last := last) hd64
        have HIT2 : Hid (items [] run = (done ++ ditem last d) ++ items d r) := Lib.hid (by
          rw [HIT.out, items_data]
          unfold ditem
          simp [List.append_assoc])
        clear ho3 hb3 HBW HOW HATW HBOX d0 d1 x0 x1
        generalize ditem last d = it at HDI hdil HIT2
        obtain ⟨ao3, cap3, rfl, _, _, _⟩ := HDI.out.val
        go_wp2_with (at_builtin; go_must (refine wpList_app _ rfl _ _ 29 rfl w.heap.size 5 (.int .u8 0) 1 Tryz.underlying29 Tryz.info5 rfl .u8 _ (enc run.length ++ done) rfl HO3.out _ it rfl HDI.out (by decide) ?c1 ?c3 ?_))
        case c1 => omega
        case c3 => exact HB3.out.size
        intro v4 w4 ho4 hg4
        have HB4 := Lib.hid (HB3.out.grown hg4 HB3.out.size (fun j hj => (HO3.out.lt j hj).1))
        have HO4 : Hid (Owns w4 w.heap.size 5 .u8 v4 (enc run.length ++ (done ++ it))) := Lib.hid (by simpa [List.append_assoc] using ho4)
        have hb4 : w4.heap[wr.heap.size]? = some (.cells #[.int .i64 1, .slice aox d.length capx] 72 (0, 0)) :=
          (hg4.block _ (Array.getElem?_eq_some_iff.1 HBX3.out).1 (fun e => by have := (HOLT.out _ e.symm).2; omega)).trans HBX3.out
        obtain ⟨y0, y1, _, _⟩ := blk2 hb4
        have hsl : ∀ W, (Instr.slice 22 (.slice (some ⟨bb, off, none⟩) n capr) (some (.int .i64 1)) none none).run Tryz.prog W = .ok (.slice (if capr = 1 then some ⟨bb, off, none⟩ else (some ⟨bb, off, none⟩ : Option Addr).map fun x => x.add (1 * 2)) (n - 1) (capr - 1)) W := fun W => slice_tailC W _ n capr 1 (by have := HNR.out; omega)
        have HTL := Lib.hid (HCA.out.tail (m := 1) (by simp))
        generalize (if capr = 1 then some ⟨bb, off, none⟩ else (some ⟨bb, off, none⟩ : Option Addr).map fun x => x.add (1 * 2)) = atl at hsl HTL
        have HAT4 := Lib.hid (HATX.out.keep (kept_below HB4.out))
        clear ho4 hg4 hb4 HB3 HO3 HBX3 HDI HOLT
        go_wp2
        go_roundw
        case rel => exact ⟨r, done ++ it, d, atl, n - 1, capr - 1, by go_num, by have := HNR.out; omega, HTL.out, fun c hc => HOKR.out c (by simp [hc]), by omega, HIT2.out, HO4.out, HAT4.out, hd64, HB4.out⟩
        case measure => have := HNR.out; simp [lenOf]; omega
      · have hk1i : ((k : Int) == 1) = false := by rw [beq_eq_false_iff_ne]; omega
        have hb2 := HBOX.out
        rw [HW.out] at hb2
        obtain ⟨x0, x1, _, _⟩ := blk2 hb2
        clear hb2
        have hlead : lead ((((k, d) :: r).getD 0 (0, [])).1) ((k, d) :: r) = lead k r + 1 := by
          show lead k ((k, d) :: r) = _
          conv => lhs; unfold lead
          rw [if_pos rfl]
        have hle := lead_le k r
        go_wp2_with fail
        rw [← HW.out]
        refine (alikeCells_any _ ((k, d) :: r) W _ (HCA.out.keep (kept_below HBW.out)) (by simp) (by have := HNR.out; simp; omega)).mono ?_
        rw [hlead]
        rintro e w3 ⟨rfl, hb3⟩
        have HB3 := Lib.hid (HBW.out.trans (hb3.mono HBW.out.size))
        have HO3 := Lib.hid (HOW.out.below hb3 (Nat.le_refl _))
        have HAT3 := Lib.hid (HATW.out.old hb3)
        have HBX3 := Lib.hid ((hb3.block _ (Array.getElem?_eq_some_iff.1 HBOX.out).1).trans HBOX.out)
        have HIT2 : Hid (items [] run = (done ++ (enc (lead k r + 1) ++ enc k)) ++ items last (r.drop (lead k r))) := Lib.hid (by
          rw [HIT.out, items_row _ _ _ _ hk1]
          simp [List.append_assoc])
        have HTL := Lib.hid (HCA.out.tail (m := lead k r + 1) (by simp; omega))
        have HRD : Hid ((((k, d) :: r).map toIC).drop (lead k r + 1) = (r.drop (lead k r)).map toIC) := Lib.hid (by rw [List.map_cons, List.drop_succ_cons, List.map_drop])
        have HRL : Hid ((r.drop (lead k r)).length = n - (lead k r + 1)) := Lib.hid (by have := HNR.out; rw [List.length_drop]; omega)
        obtain ⟨m, hm⟩ : ∃ m, m = lead k r + 1 := ⟨_, rfl⟩
        rw [← hm] at HTL HIT2 HRD HRL ⊢
        have hmn : m ≤ n := by have := HNR.out; omega
        have hm0 : 0 < m := by omega
        obtain ⟨r2, hr2⟩ : ∃ r2, r2 = r.drop (lead k r) := ⟨_, rfl⟩
        rw [← hr2] at HIT2 HRD HRL
        have HOKR2 : Hid (∀ c ∈ r2, okC c) := Lib.hid (fun c hc => HOKR.out c (by rw [hr2] at hc; simp [List.mem_of_mem_drop hc]))
        clear hm hr2 hle hlead hb3 HBW HOW HATW HBOX d0 d1 x0 x1 hk1
        obtain ⟨y0, y1, _, _⟩ := blk2 HBX3.out
        have hw1 : IntKind.u64.wrap (m : Int) = (m : Int) := IntWalk.u64_in _ (by omega)
        have hw2 : IntKind.u64.wrap (k : Int) = (k : Int) := IntWalk.u64_in _ (by omega)
        have hun : ∀ x ∈ [m, k], U64 x := by
          intro x hx
          simp only [List.mem_cons, List.not_mem_nil, or_false] at hx
          unfold U64
          omega
        have HUN := Lib.hid hun
        have HLIT := Lib.hid (reads_marked w3 84 .u64 [m, k] #[.int .u64 (m : Int), .int .u64 (k : Int)] (0, 0) rfl (by simp [maxLen]))
        have hal : Below w3.heap.size w3 (w3.alloc (.cells #[.int .u64 (m : Int), .int .u64 (k : Int)] 84)) := (Below.refl _ _).alloc (Nat.le_refl _) _
        have HAL := Lib.hid hal
        clear hun hal
        go_wp2_with fail
        refine (put_any _ _ [] [m, k] _ (reads_none _ _) HLIT.out HUN.out (by simp)).mono ?_
        rintro e w5 ⟨v5, rfl, ho5, hb5⟩
        have hb35 := HAL.out.trans (hb5.mono HAL.out.size)
        have HB5 := Lib.hid (HB3.out.trans (hb35.mono HB3.out.size))
        have HO5 := Lib.hid (HO3.out.below hb35 (Nat.le_refl _))
        have HAT5 := Lib.hid (HAT3.out.old hb35)
        have HDI : Hid (Reads w5 .u8 v5 (enc m ++ enc k)) := Lib.hid (by simpa [encs] using ho5.reads)
        have hdil : (enc m ++ enc k).length ≤ 20 := by
          have e1 := enc_len10 (n := m) (by unfold U64; omega)
          have e2 := enc_len10 (n := k) (by unfold U64; omega)
          rw [List.length_append]; omega
        clear ho5 hb5 hb35 HB3 HO3 HAT3 HAL HLIT HUN HBX3 y0 y1
        generalize enc m ++ enc k = it at HDI hdil HIT2
        obtain ⟨ao3, cap3, rfl, _, _, _⟩ := HDI.out.val
        go_wp2_with (at_builtin; go_must (refine wpList_app _ rfl _ _ 29 rfl w.heap.size 5 (.int .u8 0) 1 Tryz.underlying29 Tryz.info5 rfl .u8 _ (enc run.length ++ done) rfl HO5.out _ it rfl HDI.out (by decide) ?c5 ?c6 ?_))
        case c5 => omega
        case c6 => exact HB5.out.size
        intro v4 w4 ho4 hg4
        have HB4 := Lib.hid (HB5.out.grown hg4 HB5.out.size (fun j hj => (HO5.out.lt j hj).1))
        have HO4 : Hid (Owns w4 w.heap.size 5 .u8 v4 (enc run.length ++ (done ++ it))) := Lib.hid (by simpa [List.append_assoc] using ho4)
        have hk4 : Kept (fun j => j < w.heap.size) w5 w4 := ⟨hg4.size, fun j hj hlt => hg4.block j hj (fun e => by have := (HO5.out.lt j e.symm).1; omega)⟩
        have HAT4 := Lib.hid (HAT5.out.keep hk4)
        have hsl := fun W => slice_tailC W (some ⟨bb, off, none⟩) n capr m hmn
        have HCD : Hid (CellsAt w (fun j => j < w.heap.size) _ (r2.map toIC)) := Lib.hid (by have := HTL.out; rw [HRD.out] at this; exact this)
        generalize (if capr = m then some ⟨bb, off, none⟩ else (some ⟨bb, off, none⟩ : Option Addr).map fun x => x.add (m * 2)) = atl at hsl HCD
        clear ho4 hg4 hk4 HB5 HO5 HAT5 HDI HOLT HTL HRD
        have hmi : (m : Int) ≤ (n : Int) := by omega
        go_wp2
        go_roundw
        case rel => exact ⟨r2, done ++ it, last, atl, n - m, capr - m, by go_num, HRL.out.symm, HCD.out, HOKR2.out, by omega, HIT2.out, HO4.out, HAT4.out, hll, HB4.out⟩
        case measure => simp [lenOf]; omega

end Go.Proofs.YtpebmmhokigglaaGreatDoor

namespace Go.Proofs.YtpebmmhokigglaaGreatDoor
open Go.RowKit

set_option maxHeartbeats 1000000 in
set_option maxRecDepth 100000 in
theorem putRun_bad (bv v : Value) (b : List Nat) (cs : List IC) (w : World) (B : Nat → Prop) (hb : Reads w .u8 bv b) (hr : CellsAt w B v cs) (hc : chkRun cs ≠ 0) :
    Calls Tryz.prog 48 #[bv, v] w fun e w' => e = .returned (.tuple #[.slice none 0 0, errV (chkRun cs)]) ∧ Below w.heap.size w w' := by
  obtain ⟨ao, cap, rfl, h1, h2, h3⟩ := hr.val
  obtain ⟨aob, capb, rfl, _, _, _⟩ := hb.val
  have he := errV_pos hc
  have HE := Lib.hid he
  clear he
  go_enter Tryz.func48, Tryz.ntmps48
  go_wp2_with fail
  refine (checkRun_any _ cs w _ hr).mono ?_
  rintro e w1 ⟨rfl, hb1⟩
  rw [HE.out]
  have HB1 := Lib.hid hb1
  clear hb1 hc hr hb
  go_wp2
  go_ret2
  exact ⟨by rw [HE.out]; rfl, HB1.out⟩

/-- What PutRun answers. -/
def RunPost (b : List Nat) (cs : List IC) (w : World) (e : Ending) (w' : World) : Prop :=
  ∃ v' out, e = .returned (.tuple #[v', errV (chkRun cs)]) ∧ Owns w' w.heap.size 5 .u8 v' out ∧ out = (if chkRun cs = 0 then b ++ rbytes (cs.map toCC) else []) ∧ Below w.heap.size w w'

theorem putRun_any (bv v : Value) (b : List Nat) (cs : List IC) (w : World) (B : Nat → Prop) (hb : Reads w .u8 bv b) (hr : CellsAt w B v cs) (h8 : ∀ c ∈ cs, ∀ y ∈ c.2, y < 256) (hx : b.length ≤ 60000000000000) :
    Calls Tryz.prog 48 #[bv, v] w (RunPost b cs w) := by
  by_cases hc : chkRun cs = 0
  · obtain ⟨hl, hok⟩ := chkRun_zero hc
    have hcs := run_toCC hok
    have hr2 : CellsAt w B v ((cs.map toCC).map toIC) := by rw [← hcs]; exact hr
    refine (putRun_good bv v b (cs.map toCC) w B hb hr2 (fun c hcm => ?_) (by rw [List.length_map]; exact hl) hx).mono ?_
    · obtain ⟨x, hxm, rfl⟩ := List.mem_map.1 hcm
      exact okC_toCC (hok x hxm) (h8 x hxm)
    · rintro e w' ⟨v', rfl, ho, hbl⟩
      exact ⟨v', _, by rw [hc]; rfl, ho, by rw [if_pos hc], hbl⟩
  · refine (putRun_bad bv v b cs w B hb hr hc).mono ?_
    rintro e w' ⟨rfl, hbl⟩
    exact ⟨_, [], rfl, owns_nil _ _ _ _, by rw [if_neg hc], hbl⟩

/-- Cells' values as the program has them, one behind the other. -/
def ivals (l : List (Int × Value)) : List Value := l.flatMap fun x => [.int .i64 x.1, x.2]
theorem ivals_append (a b : List (Int × Value)) : ivals (a ++ b) = ivals a ++ ivals b := by simp [ivals]
theorem ivals_get (l : List (Int × Value)) (i : Nat) (hi : i < l.length) : (ivals l)[i * 2]? = some (.int .i64 l[i].1) ∧ (ivals l)[i * 2 + 1]? = some l[i].2 := by
  induction l generalizing i with
  | nil => simp at hi
  | cons x l ih =>
    match i with
    | 0 => simp [ivals]
    | i + 1 =>
      obtain ⟨h1, h2⟩ := ih i (by simpa using hi)
      simp only [ivals, List.flatMap_cons, List.cons_append, List.nil_append, List.getElem_cons_succ] at *
      rw [show (i + 1) * 2 = i * 2 + 1 + 1 by omega]
      simp only [List.getElem?_cons_succ]
      exact ⟨h1, h2⟩

theorem Tryz.infoIC : (Tryz.prog.info? 72).map (fun i => (i.zero, i.size, i.bytes)) = some (some (.agg #[.int .i64 0, .slice none 0 0]), 2, 32) := by kernel_rfl

/-- A row of cells of the call's own. -/
def OwnsI (w : World) (base : Nat) (v : Value) (l : List (Int × Value)) : Prop := w.ownsRow base 72 2 v l.length (ivals l)

theorem ownsI_nil (w : World) (base : Nat) : OwnsI w base (.slice none 0 0) [] := World.ownsRow_nil _ _ _ _
theorem OwnsI.below {w w' : World} {base : Nat} {v : Value} {l : List (Int × Value)} (h : OwnsI w base v l) (hb : Below w.heap.size w w') : OwnsI w' base v l :=
  h.kept (row := none) ⟨hb.os, hb.tape, hb.output, hb.size, fun j hj _ => hb.block j hj⟩ (by cases v.ownBlock <;> simp)
theorem OwnsI.grown {w w' : World} {base : Nat} {v : Value} {l : List (Int × Value)} {row : Option Nat} (h : OwnsI w base v l) (hg : w.grownBy w' row) (hne : v.ownBlock = none ∨ v.ownBlock ≠ row) : OwnsI w' base v l := World.ownsRow.kept h hg hne
theorem OwnsI.form {w : World} {base : Nat} {v : Value} {l : List (Int × Value)} (h : OwnsI w base v l) : ∃ ao cap, v = .slice ao l.length cap := by
  rcases h.2 with ⟨rfl, h2⟩ | ⟨g, cap, cur, rfl, _⟩
  · exact ⟨none, 0, by rw [h2]⟩
  · exact ⟨_, cap, rfl⟩
theorem OwnsI.lt {w : World} {base : Nat} {v : Value} {l : List (Int × Value)} (h : OwnsI w base v l) : ∀ j, v.ownBlock = some j → base ≤ j ∧ j < w.heap.size := World.ownsRow.lt h

/-- What is owned reads as cells, if their bytes do. -/
theorem OwnsI.cells {w : World} {base : Nat} {v : Value} {l : List (Int × Value)} (h : OwnsI w base v l) (cs : List IC) (B : Nat → Prop) (hlen : cs.length = l.length)
    (hB : ∀ j, v.ownBlock = some j → B j) (hc : ∀ i, (hi : i < l.length) → l[i].1 = (cs.getD i (0, [])).1 ∧ At w B .u8 l[i].2 (cs.getD i (0, [])).2) : CellsAt w B v cs := by
  have h0 := h
  unfold OwnsI at h0
  rcases h.2 with ⟨rfl, hn⟩ | ⟨g, cap, cur, rfl, hb, hg, hnc, hm, hs, ht⟩
  · exact ⟨none, 0, by rw [hlen, hn], by omega, by simp [maxLen], fun _ => rfl, .inl (List.length_eq_zero_iff.1 (by omega))⟩
  · refine ⟨_, cap, by rw [hlen], by omega, hm, by simp, .inr ⟨g, 0, rfl, (Array.getElem?_eq_some_iff.1 hg).1, hB g rfl, fun i hi => ?_⟩⟩
    have hil : i < l.length := by omega
    obtain ⟨g1, g2⟩ := ivals_get l i hil
    obtain ⟨c1, c2⟩ := hc i hil
    refine ⟨l[i].2, ?_, ?_, c2⟩
    · rw [Nat.zero_add, h0.cellAt (i * 2) (by omega), g1, c1]
    · rw [Nat.zero_add, h0.cellAt (i * 2 + 1) (by omega), g2]

/-- An append of one cell that is written out. -/
theorem wpList_appI (w : World) {ops : Array Oper} {rest : List Oper} {o : Oper} {a : Act} {Q : Exit → Act → World → Prop} (hgd : o.guard = none) (s x : Operand)
    (ho : o.op = .call { callee := .builtin .append, args := #[s, x], argTypes := #[22, 22] })
    (base : Nat) (v : Value) (xs : List (Int × Value)) (hs : a.eval s = v) (hown : OwnsI w base v xs) (k : Int) (u : Value) (hu1 : u.oneCell' = true)
    (W : World) (hW : w = W.alloc (.cells #[.int .i64 k, u] 72)) (hx : a.eval x = .slice (some ⟨W.heap.size, 0, none⟩) 1 1)
    (hbytes : xs.length ≤ 1000000) (hbase : base ≤ w.heap.size)
    (h : ∀ v' w', OwnsI w' base v' (xs ++ [(k, u)]) → w.grownBy w' v.ownBlock → wpList Tryz.prog ops Q rest (a.put o.dst v') w') : wpList Tryz.prog ops Q (o :: rest) a w := by
  obtain ⟨i, hi, hz, hsz, hby⟩ := info_parts Tryz.infoIC
  refine wpList_append_own w hgd s x 22 ho base 72 i _ 2 32 Tryz.underlying22 hi hz hsz hby rfl (by decide) v xs.length (ivals xs) hs hown ⟨W.heap.size, 0, none⟩ 1 1 [.int .i64 k, u] hx rfl ?_ ?_ (by simp only [maxLen]; omega) (by omega) hbase ?_
  · intro j y hu
    subst hW
    rw [Addr.add_lit, Nat.zero_add, World.cell?_alloc_mark]
    match j with
    | 0 => simpa using hu
    | 1 => simpa using hu
    | j + 2 => simp at hu
  · intro y hu
    simp only [List.mem_cons, List.not_mem_nil, or_false] at hu
    rcases hu with rfl | rfl
    · rfl
    · exact hu1
  · intro v' w' hown' hg _
    refine h v' w' ?_ hg
    unfold OwnsI
    rw [List.length_append, ivals_append]
    exact hown'

end Go.Proofs.YtpebmmhokigglaaGreatDoor

namespace Go.Proofs.YtpebmmhokigglaaGreatDoor
open Go.RowKit

/-- A taker's block. -/
def Tkr (w : World) (t p : Nat) (rnv lsv : Value) : Prop := w.heap[t]? = some (.cells #[.pointer (some ⟨p, 0, none⟩), rnv, lsv] 163 (0, 0))
theorem Tkr.lt {w : World} {t p : Nat} {rnv lsv : Value} (h : Tkr w t p rnv lsv) : t < w.heap.size := (Array.getElem?_eq_some_iff.1 h).1
theorem Tkr.c0 {w : World} {t p : Nat} {rnv lsv : Value} (h : Tkr w t p rnv lsv) : w.cell? ⟨t, 0, none⟩ = some (.pointer (some ⟨p, 0, none⟩)) := by rw [cell_of_row w t 0 _ _ _ h]; rfl
theorem Tkr.c1 {w : World} {t p : Nat} {rnv lsv : Value} (h : Tkr w t p rnv lsv) : w.cell? ⟨t, 1, none⟩ = some rnv := by rw [cell_of_row w t 1 _ _ _ h]; rfl
theorem Tkr.c2 {w : World} {t p : Nat} {rnv lsv : Value} (h : Tkr w t p rnv lsv) : w.cell? ⟨t, 2, none⟩ = some lsv := by rw [cell_of_row w t 2 _ _ _ h]; rfl
theorem Tkr.fz {w : World} {t p : Nat} {rnv lsv : Value} (h : Tkr w t p rnv lsv) (i : Nat) : w.frozen? ⟨t, i, none⟩ = false := frozen_of_row w t i _ _ h
theorem Tkr.grown {w w' : World} {t p : Nat} {rnv lsv : Value} {r : Option Nat} (h : Tkr w t p rnv lsv) (hg : w.grownBy w' r) (hr : some t ≠ r) : Tkr w' t p rnv lsv := (hg.block t h.lt hr).trans h
theorem Tkr.below {w w' : World} {t p : Nat} {rnv lsv : Value} (h : Tkr w t p rnv lsv) (hb : Below w.heap.size w w') : Tkr w' t p rnv lsv := (hb.block t h.lt).trans h
/-- A taker's block isn't a reader's. -/
theorem Tkr.ne {w : World} {t p : Nat} {rnv lsv rv : Value} {row : List Nat} {place c : Nat} (h : Tkr w t p rnv lsv) (hr : Rd w p rv row place c) : t ≠ p := by
  rintro rfl
  have := h.symm.trans hr.blk
  cases this

/-- A number up to a bound, and the error then. -/
def upR (n most : Nat) : Nat := if most < n then 0 else n
def upC (n c most code : Nat) : Nat := if most < n then (if c = 0 then code else c) else c
theorem up_bad {n c most code : Nat} (h : most < n) : upR n most = 0 ∧ upC n c most code = (if c = 0 then code else c) := ⟨if_pos h, if_pos h⟩
theorem up_good {n c most code : Nat} (h : ¬ most < n) : upR n most = n ∧ upC n c most code = c := ⟨if_neg h, if_neg h⟩
def UpPost (p : Nat) (rv : Value) (row : List Nat) (place c most code : Nat) (w : World) (e : Ending) (w' : World) : Prop :=
  ∃ n place' c1 : Nat, e = .returned (.int .i64 (upR n most : Nat)) ∧ NumRel (row.drop place) c n (row.drop place') c1 ∧ Rd w' p rv row place' (upC n c1 most code) ∧ w.grownBy w' (some p)

set_option maxHeartbeats 1000000 in
set_option maxRecDepth 100000 in
theorem upTo_any {w : World} {t p : Nat} {rnv lsv rv : Value} {row : List Nat} {place c : Nat} (ht : Tkr w t p rnv lsv) (h : Rd w p rv row place c) (most code : Nat) (hm : most ≤ 1000000) (hc : code ≠ 0) :
    Calls Tryz.prog 91 #[.pointer (some ⟨t, 0, none⟩), .int .i64 (most : Int), errV code] w (UpPost p rv row place c most code w) := by
  have hne := ht.ne h
  have t0 := ht.c0
  have HT := Lib.hid ht
  have HR := Lib.hid h
  have HNE := Lib.hid hne
  have HC := Lib.hid hc
  clear ht h hne hc
  have hmw : IntKind.u64.wrap (most : Int) = (most : Int) := IntWalk.u64_in _ (by omega)
  obtain ⟨ev, hev⟩ : ∃ ev, ev = errV code := ⟨_, rfl⟩
  rw [← hev]
  have HEV := Lib.hid hev
  clear hev
  go_enter Tryz.func91, Tryz.ntmps91
  go_wp2_with fail
  refine (number_any HR.out).mono ?_
  rintro e w1 ⟨n, place', c1, rfl, hn, hrd, hg⟩
  have HN := Lib.hid hn
  have HR1 := Lib.hid hrd
  have HG := Lib.hid hg
  have t1 := (HT.out.grown hg (by have := HNE.out; simp; omega)).c0
  clear hn hrd hg t0
  by_cases hlt : (most : Int) < (n : Int)
  · have hb := up_bad (n := n) (c := c1) (most := most) (code := code) (by omega)
    have HB := Lib.hid hb
    clear hb
    go_wp2_with fail
    rw [HEV.out]
    refine (fail_any HR1.out code).mono ?_
    rintro e w2 ⟨rfl, hrd2, hg2⟩
    have HR2 := Lib.hid hrd2
    have HG2 := Lib.hid hg2
    clear hrd2 hg2 t1
    go_wp2
    go_ret
    exact ⟨n, place', c1, by rw [HB.out.1]; rfl, HN.out, by rw [HB.out.2]; exact HR2.out, grownBy_trans HG.out HG2.out (fun _ h _ => h)⟩
  · have hb := up_good (n := n) (c := c1) (most := most) (code := code) (by omega)
    have HB := Lib.hid hb
    clear hb
    go_wp2
    go_ret
    exact ⟨n, place', c1, by rw [HB.out.1]; rfl, HN.out, by rw [HB.out.2]; exact HR1.out, HG.out⟩

end Go.Proofs.YtpebmmhokigglaaGreatDoor

namespace Go.Proofs.YtpebmmhokigglaaGreatDoor
open Go.RowKit

/-- Does a run end with a cell of this kind? -/
def endB (acc : List (Int × Value)) (k : Int) : Bool := match acc.getLast? with | none => false | some x => x.1 == k

theorem OwnsI.at {w : World} {base : Nat} {ao : Option Addr} {n cap : Nat} {l : List (Int × Value)} (h : OwnsI w base (.slice ao n cap) l) {i : Nat} (hi : i < l.length) :
    ∃ g, ao = some ⟨g, 0, none⟩ ∧ g < w.heap.size ∧ w.cell? ⟨g, i * 2, none⟩ = some (.int .i64 l[i].1) ∧ w.cell? ⟨g, i * 2 + 1, none⟩ = some l[i].2 := by
  have h0 := h
  unfold OwnsI at h0
  rcases h.2 with ⟨_, hn⟩ | ⟨g, cap', cur, hv, hb, hg, _⟩
  · omega
  · cases hv
    obtain ⟨g1, g2⟩ := ivals_get l i hi
    exact ⟨g, rfl, (Array.getElem?_eq_some_iff.1 hg).1, by rw [h0.cellAt (i * 2) (by omega), g1], by rw [h0.cellAt (i * 2 + 1) (by omega), g2]⟩

set_option maxHeartbeats 1000000 in
set_option maxRecDepth 100000 in
theorem endsWith_any {w : World} {t p base : Nat} {rnv lsv : Value} {acc : List (Int × Value)} (ht : Tkr w t p rnv lsv) (ho : OwnsI w base rnv acc) (hl : acc.length ≤ 100) (k : Int) :
    Calls Tryz.prog 118 #[.pointer (some ⟨t, 0, none⟩), .int .i64 k] w fun e w' => e = .returned (.bool (endB acc k)) ∧ w = w' := by
  obtain ⟨ao, cap, hv⟩ := ho.form
  subst hv
  have t1 := ht.c1
  rcases Nat.eq_zero_or_pos acc.length with h0 | h0
  · obtain rfl : acc = [] := List.length_eq_zero_iff.1 h0
    clear ho ht h0
    go_enter Tryz.func118, Tryz.ntmps118
    go_wp2
    go_ret
    exact ⟨rfl, rfl⟩
  · obtain ⟨m, hm⟩ : ∃ m, acc.length = m + 1 := ⟨acc.length - 1, by omega⟩
    obtain ⟨g, rfl, hg, c0, _⟩ := ho.at (i := m) (by omega)
    have HE : Hid (endB acc k = (acc[m].1 == k)) := Lib.hid (by
      have e : acc.getLast? = some (acc[m]) := by
        rw [List.getLast?_eq_getElem?]
        have : acc.length - 1 = m := by omega
        rw [this, List.getElem?_eq_getElem (by omega)]
      unfold endB
      rw [e])
    generalize acc[m].1 = z at c0 HE
    rw [hm] at t1
    have HM := Lib.hid hm
    clear ho ht h0 hg
    go_enter Tryz.func118, Tryz.ntmps118
    go_wp2
    go_ret
    exact ⟨by rw [HE.out]; rfl, rfl⟩

end Go.Proofs.YtpebmmhokigglaaGreatDoor

namespace Go.Proofs.YtpebmmhokigglaaGreatDoor
open Go.RowKit

/-- A taker, its reader, its run so far, its last data: all that was made since base lies at or behind it. -/
structure TkS (w : World) (base t p : Nat) (rv : Value) (row : List Nat) (place c : Nat) (rnv lsv : Value) (acc : List (Int × Value)) (cs : List CC) (last : List Nat) : Prop where
  tk : Tkr w t p rnv lsv
  rd : Rd w p rv row place c
  own : OwnsI w base rnv acc
  len : acc.length = cs.length
  dat : ∀ i, (hi : i < acc.length) → acc[i].1 = ((cs.getD i (0, [])).1 : Int) ∧ At w (Own w base 5) .u8 acc[i].2 (cs.getD i (0, [])).2
  lst : At w (Own w base 5) .u8 lsv last
  bt : base ≤ t

/-- What was made before base stays, but the reader. -/
structure Gr (base p : Nat) (w w' : World) : Prop where
  os : w'.os = w.os
  tape : w'.tape = w.tape
  output : w'.output = w.output
  size : w.heap.size ≤ w'.heap.size
  block : ∀ j, j < base → j ≠ p → w'.heap[j]? = w.heap[j]?
theorem Gr.refl (base p : Nat) (w : World) : Gr base p w w := ⟨rfl, rfl, rfl, Nat.le_refl _, fun _ _ _ => rfl⟩
theorem Gr.trans {base p : Nat} {a b c : World} (h : Gr base p a b) (k : Gr base p b c) : Gr base p a c :=
  ⟨k.os.trans h.os, k.tape.trans h.tape, k.output.trans h.output, Nat.le_trans h.size k.size, fun j hj hp => (k.block j hj hp).trans (h.block j hj hp)⟩
theorem gr_grown {base p : Nat} {w w' : World} {r : Option Nat} (h : w.grownBy w' r) (hb : base ≤ w.heap.size) (hr : ∀ j, r = some j → j = p ∨ base ≤ j) : Gr base p w w' :=
  ⟨h.os, h.tape, h.output, h.size, fun j hj hp => h.block j (by omega) (fun e => by rcases hr j e.symm with h | h <;> omega)⟩
theorem gr_below {base p : Nat} {w w' : World} (h : Below w.heap.size w w') (hb : base ≤ w.heap.size) : Gr base p w w' :=
  ⟨h.os, h.tape, h.output, h.size, fun j hj _ => h.block j (by omega)⟩

theorem Owns.ty {w : World} {base : Nat} {e : TypeId} {k : IntKind} {v : Value} {l : List Nat} (h : Owns w base e k v l) {j : Nat} (hj : v.ownBlock = some j) : ∃ cs, w.heap[j]? = some (.cells cs e (0, 0)) := by
  rcases h.2 with ⟨rfl, _⟩ | ⟨g, cap, cur, rfl, _, hg, _⟩
  · cases hj
  · cases hj; exact ⟨_, hg⟩
theorem OwnsI.ty {w : World} {base : Nat} {v : Value} {l : List (Int × Value)} (h : OwnsI w base v l) {j : Nat} (hj : v.ownBlock = some j) : ∃ cs, w.heap[j]? = some (.cells cs 72 (0, 0)) := by
  rcases h.2 with ⟨rfl, _⟩ | ⟨g, cap, cur, rfl, _, hg, _⟩
  · cases hj
  · cases hj; exact ⟨_, hg⟩
theorem OwnsI.ne_rd {w : World} {base p : Nat} {v rv : Value} {l : List (Int × Value)} {row : List Nat} {place c : Nat} (h : OwnsI w base v l) (hr : Rd w p rv row place c) : v.ownBlock ≠ some p := by
  intro hj
  obtain ⟨cs, hg⟩ := h.ty hj
  have := hg.symm.trans hr.blk
  cases this
theorem OwnsI.ne_tk {w : World} {base t p : Nat} {v rnv lsv : Value} {l : List (Int × Value)} (h : OwnsI w base v l) (ht : Tkr w t p rnv lsv) : v.ownBlock ≠ some t := by
  intro hj
  obtain ⟨cs, hg⟩ := h.ty hj
  have := hg.symm.trans ht
  cases this
theorem OwnsI.ne_row {w : World} {base p : Nat} {v rv : Value} {l : List (Int × Value)} {row : List Nat} {place c : Nat} (h : OwnsI w base v l) (hr : Rd w p rv row place c) : rv.ownBlock = none ∨ rv.ownBlock ≠ v.ownBlock := by
  cases hv : rv.ownBlock with
  | none => exact .inl rfl
  | some j =>
    right
    intro he
    obtain ⟨cs, hg⟩ := h.ty he.symm
    obtain ⟨cs2, hg2⟩ := hr.own.ty hv
    have := hg.symm.trans hg2
    cases this

section
variable {w w' : World} {base t p : Nat} {rv rnv lsv : Value} {row : List Nat} {place c : Nat} {acc : List (Int × Value)} {cs : List CC} {last : List Nat}

/-- Blocks of bytes stay where only a block that is none was written. -/
theorem kept_u8 {r : Option Nat} (hg : w.grownBy w' r) (hr : ∀ j, r = some j → ¬ ∃ cs, w.heap[j]? = some (.cells cs 5 (0, 0))) : Kept (Own w base 5) w w' :=
  ⟨hg.size, fun j hj hB => hg.block j hj (fun e => hr j e.symm hB.2)⟩

theorem TkS.data_kept (h : TkS w base t p rv row place c rnv lsv acc cs last) (hk : Kept (Own w base 5) w w') :
    (∀ i, (hi : i < acc.length) → acc[i].1 = ((cs.getD i (0, [])).1 : Int) ∧ At w' (Own w' base 5) .u8 acc[i].2 (cs.getD i (0, [])).2) ∧ At w' (Own w' base 5) .u8 lsv last :=
  ⟨fun i hi => ⟨(h.dat i hi).1, (h.dat i hi).2.own hk⟩, h.lst.own hk⟩

/-- The reader goes on. -/
theorem TkS.read {place' c' : Nat} (h : TkS w base t p rv row place c rnv lsv acc cs last) (hg : w.grownBy w' (some p)) (hr : Rd w' p rv row place' c') : TkS w' base t p rv row place' c' rnv lsv acc cs last := by
  have hk := kept_u8 (base := base) hg (fun j hj => by
    cases hj
    rintro ⟨cs, hcs⟩
    have := hcs.symm.trans h.rd.blk
    cases this)
  obtain ⟨h1, h2⟩ := h.data_kept hk
  refine ⟨h.tk.grown hg (by have := h.tk.ne h.rd; simp; omega), hr, h.own.grown hg ?_, h.len, h1, h2, h.bt⟩
  exact .inr (h.own.ne_rd h.rd)
/-- Memory is made. -/
theorem TkS.more (h : TkS w base t p rv row place c rnv lsv acc cs last) (hb : Below w.heap.size w w') : TkS w' base t p rv row place c rnv lsv acc cs last := by
  obtain ⟨h1, h2⟩ := h.data_kept (kept_new hb _)
  exact ⟨h.tk.below hb, h.rd.below hb (Nat.le_refl _), h.own.below hb, h.len, h1, h2, h.bt⟩
end

theorem Tkr.setRun {w : World} {t p : Nat} {rnv lsv : Value} (h : Tkr w t p rnv lsv) (v : Value) : Tkr (w.setCell ⟨t, 1, none⟩ v) t p v lsv := by
  unfold Tkr
  rw [heap_setCell_same w t 1 _ _ _ h]
  rfl
theorem Tkr.setLast {w : World} {t p : Nat} {rnv lsv : Value} (h : Tkr w t p rnv lsv) (v : Value) : Tkr (w.setCell ⟨t, 2, none⟩ v) t p rnv v := by
  unfold Tkr
  rw [heap_setCell_same w t 2 _ _ _ h]
  rfl

section
variable {w w' : World} {base t p : Nat} {rv rnv lsv : Value} {row : List Nat} {place c : Nat} {acc : List (Int × Value)} {cs : List CC} {last : List Nat}

/-- A cell of a kind is pushed: an append, and a store. -/
theorem TkS.push {v' : Value} {k : Nat} {u : Value} {d : List Nat} (h : TkS w base t p rv row place c rnv lsv acc cs last) (hg : w.grownBy w' rnv.ownBlock) (ho : OwnsI w' base v' (acc ++ [((k : Int), u)])) (hu : At w (Own w base 5) .u8 u d) :
    TkS (w'.setCell ⟨t, 1, none⟩ v') base t p rv row place c v' lsv (acc ++ [((k : Int), u)]) (cs ++ [(k, d)]) last := by
  have hk := kept_u8 (base := base) hg (fun j hj => by
    obtain ⟨c1, h1⟩ := h.own.ty hj
    rintro ⟨c2, h2⟩
    have := h1.symm.trans h2
    cases this)
  have htk : Tkr w' t p rnv lsv := h.tk.grown hg (fun e => h.own.ne_tk h.tk e.symm)
  have hrd : Rd w' p rv row place c := h.rd.grown hg (fun e => h.own.ne_rd h.rd e.symm) (h.own.ne_row h.rd)
  have hs := grown_set w' t 1 v'
  have hne := htk.ne hrd
  have hk2 := kept_u8 (base := base) hs (fun j hj => by
    cases hj
    rintro ⟨c2, h2⟩
    have := h2.symm.trans htk
    cases this)
  obtain ⟨h1, h2⟩ := h.data_kept hk
  have hu2 := (hu.own hk).own hk2
  refine ⟨htk.setRun v', hrd.grown hs (by simp; omega) ?_, ho.grown hs (.inr (ho.ne_tk htk)), by simp [h.len], fun i hi => ?_, h2.own hk2, h.bt⟩
  · cases hv : rv.ownBlock with
    | none => exact .inl rfl
    | some j =>
      right
      intro he
      cases he
      obtain ⟨c2, hg2⟩ := hrd.own.ty hv
      have := hg2.symm.trans htk
      cases this
  · rw [List.length_append] at hi
    by_cases hil : i < acc.length
    · have e1 : (acc ++ [((k : Int), u)])[i] = acc[i] := List.getElem_append_left hil
      have e2 : (cs ++ [(k, d)]).getD i (0, []) = cs.getD i (0, []) := by
        rw [List.getD_eq_getElem?_getD, List.getElem?_append_left (by rw [← h.len]; exact hil), ← List.getD_eq_getElem?_getD]
      rw [e1, e2]
      exact ⟨(h1 i hil).1, (h1 i hil).2.own hk2⟩
    · obtain rfl : i = acc.length := by simp at hi; omega
      have e1 : (acc ++ [((k : Int), u)])[acc.length] = ((k : Int), u) := by simp
      have e2 : (cs ++ [(k, d)]).getD acc.length (0, []) = (k, d) := by
        rw [h.len, List.getD_eq_getElem?_getD, List.getElem?_append_right (Nat.le_refl _)]
        simp
      rw [e1, e2]
      exact ⟨rfl, hu2⟩

/-- The last data is another one. -/
theorem TkS.setLast {v' : Value} {d : List Nat} (h : TkS w base t p rv row place c rnv lsv acc cs last) (hu : At w (Own w base 5) .u8 v' d) : TkS (w.setCell ⟨t, 2, none⟩ v') base t p rv row place c rnv v' acc cs d := by
  have hs := grown_set w t 2 v'
  have hne := h.tk.ne h.rd
  have hk2 := kept_u8 (base := base) hs (fun j hj => by
    cases hj
    rintro ⟨c2, h2⟩
    have := h2.symm.trans h.tk
    cases this)
  obtain ⟨h1, h2⟩ := h.data_kept hk2
  refine ⟨h.tk.setLast v', h.rd.grown hs (by simp; omega) ?_, h.own.grown hs (.inr (h.own.ne_tk h.tk)), h.len, h1, hu.own hk2, h.bt⟩
  cases hv : rv.ownBlock with
  | none => exact .inl rfl
  | some j =>
    right
    intro he
    cases he
    obtain ⟨c2, hg2⟩ := h.rd.own.ty hv
    have := hg2.symm.trans h.tk
    cases this

/-- The kind of a run's last cell. -/
def lastK (cs : List CC) : Option Nat := cs.getLast?.map (·.1)
theorem TkS.ends (h : TkS w base t p rv row place c rnv lsv acc cs last) (k : Nat) : endB acc (k : Int) = decide (lastK cs = some k) := by
  unfold endB lastK
  rcases Nat.eq_zero_or_pos acc.length with h0 | h0
  · obtain rfl : acc = [] := List.length_eq_zero_iff.1 h0
    obtain rfl : cs = [] := List.length_eq_zero_iff.1 (by have := h.len; omega)
    rfl
  · have hl := h.len
    have e1 : acc.getLast? = some acc[acc.length - 1] := by rw [List.getLast?_eq_getElem?, List.getElem?_eq_getElem (by omega)]
    have e2 : cs.getLast? = some (cs.getD (acc.length - 1) (0, [])) := by
      rw [List.getLast?_eq_getElem?, ← hl, List.getElem?_eq_getElem (by omega), List.getD_eq_getElem?_getD, List.getElem?_eq_getElem (by omega)]
      rfl
    rw [e1, e2]
    have := (h.dat (acc.length - 1) (by omega)).1
    show (acc[acc.length - 1].1 == (k : Int)) = decide (some (cs.getD (acc.length - 1) (0, [])).1 = some k)
    rw [this]
    simp only [Option.some.injEq]
    rw [Bool.eq_iff_iff, beq_iff_eq, decide_eq_true_iff]
    omega
end

end Go.Proofs.YtpebmmhokigglaaGreatDoor

namespace Go.Proofs.YtpebmmhokigglaaGreatDoor
open Go.RowKit

theorem rep_snocC {α : Type} (j : Nat) (x : α) : List.replicate j x ++ [x] = List.replicate (j + 1) x := (List.replicate_succ' (n := j) (a := x)).symm

/-- The error behind a row's kind. -/
def rowC (k c1 : Nat) (lk : Option Nat) : Nat := if upC k c1 3 1 ≠ 0 then upC k c1 3 1 else if k = 1 ∨ lk = some k then 2 else 0
theorem up_zero {k c1 : Nat} (h : upC k c1 3 1 = 0) : c1 = 0 ∧ k ≤ 3 ∧ upR k 3 = k := by
  unfold upC upR at *
  split at h
  · split at h <;> omega
  · next h1 => exact ⟨h, by omega, if_neg h1⟩

/-- What takeRow does. -/
def RowPost (base t p : Nat) (rv : Value) (row : List Nat) (place c : Nat) (lsv : Value) (cs : List CC) (last : List Nat) (many : Nat) (w : World) (e : Ending) (w' : World) : Prop :=
  ∃ (k c1 place' c' : Nat) (rnv' : Value) (acc' : List (Int × Value)), e = .returned (.tuple #[]) ∧ NumRel (row.drop place) c k (row.drop place') c1 ∧ c' = rowC k c1 (lastK cs) ∧
    TkS w' base t p rv row place' c' rnv' lsv acc' (if c' = 0 then cs ++ List.replicate many (k, []) else cs) last ∧ Gr base p w w'

set_option maxHeartbeats 4000000 in
set_option maxRecDepth 100000 in
theorem takeRow_any {w : World} {base t p : Nat} {rv rnv lsv : Value} {row : List Nat} {place c : Nat} {acc : List (Int × Value)} {cs : List CC} {last : List Nat}
    (h : TkS w base t p rv row place c rnv lsv acc cs last) (many : Nat) (hm : cs.length + many ≤ 64) (hbase : base ≤ w.heap.size) :
    Calls Tryz.prog 112 #[.pointer (some ⟨t, 0, none⟩), .int .i64 (many : Int)] w (RowPost base t p rv row place c lsv cs last many w) := by
  have e1 : Value.iface 68 (.int .i64 1) = errV 1 := (errV_pos (by decide)).symm
  have e2 : Value.iface 68 (.int .i64 2) = errV 2 := (errV_pos (by decide)).symm
  have E1 := Lib.hid e1
  have E2 := Lib.hid e2
  have H := Lib.hid h
  have HBS := Lib.hid hbase
  clear e1 e2 h hbase
  go_enter Tryz.func112, Tryz.ntmps112
  go_wp2_with fail
  rw [E1.out]
  refine (upTo_any H.out.tk H.out.rd 3 1 (by decide) (by decide)).mono ?_
  rintro e w1 ⟨k, pl1, c1, rfl, hn, hrd, hg⟩
  have HN := Lib.hid hn
  have H1 := Lib.hid (H.out.read hg hrd)
  have HG1 : Hid (Gr base p w w1) := Lib.hid (gr_grown hg HBS.out (fun j hj => .inl (by simpa using hj.symm)))
  have HB1 : Hid (base ≤ w1.heap.size) := Lib.hid (Nat.le_trans HBS.out hg.size)
  clear hn hrd hg H HBS
  obtain ⟨z, hz⟩ : ∃ z, z = upR k 3 := ⟨_, rfl⟩
  obtain ⟨cz, hcz⟩ : ∃ cz, cz = upC k c1 3 1 := ⟨_, rfl⟩
  rw [← hcz] at H1
  rw [← hz]
  have hz3 : z ≤ 3 := by rw [hz]; unfold upR; split <;> omega
  have HZ := Lib.hid hz
  have HCZ := Lib.hid hcz
  have hal : acc.length ≤ 100 := by have := H1.out.len; omega
  have hdec : (z = 1 ∨ lastK cs = some z) ∨ (z ≠ 1 ∧ lastK cs ≠ some z) := by
    by_cases h1 : z = 1
    · exact .inl (.inl h1)
    · by_cases h2 : lastK cs = some z
      · exact .inl (.inr h2)
      · exact .inr ⟨h1, h2⟩
  clear hz hcz
  rcases hdec with hbad | ⟨hz1, hlk⟩
  · have HBAD := Lib.hid hbad
    have HFIN : Hid ((if cz = 0 then 2 else cz) = rowC k c1 (lastK cs) ∧ (if cz = 0 then 2 else cz) ≠ 0) := Lib.hid (by
      unfold rowC
      rw [← HCZ.out]
      by_cases h0 : cz = 0
      · have hk := up_zero (HCZ.out.symm.trans h0)
        rw [if_pos h0, if_neg (by simpa using h0), if_pos (by rw [← hk.2.2, ← HZ.out]; exact HBAD.out)]
        exact ⟨rfl, by decide⟩
      · rw [if_neg h0, if_pos h0]
        exact ⟨rfl, h0⟩)
    have t0 := H1.out.tk.c0
    have hsp : z = 1 ∨ (z ≠ 1 ∧ lastK cs = some z) := by
      rcases HBAD.out with h | h
      · exact .inl h
      · by_cases h1 : z = 1
        · exact .inl h1
        · exact .inr ⟨h1, h⟩
    clear hbad
    rcases hsp with hz1 | ⟨hz1, hlk⟩
    · subst hz1
      go_wp2_with fail
      rw [E2.out]
      refine (fail_any H1.out.rd 2).mono ?_
      rintro e w2 ⟨rfl, hrd2, hg2⟩
      have H2 := Lib.hid (H1.out.read hg2 hrd2)
      have HG2 := Lib.hid (HG1.out.trans (gr_grown hg2 HB1.out (fun j hj => .inl (by simpa using hj.symm))))
      generalize (if cz = 0 then 2 else cz) = cf at H2 HFIN
      have t2 := H2.out.tk.c0
      clear hrd2 hg2 t0
      go_wp2_with fail
      refine (err_any H2.out.rd).mono ?_
      rintro e w3 ⟨rfl, rfl⟩
      rw [errV_pos HFIN.out.2]
      go_wp2
      exact bodyPost_ret (results_none rfl _ _ _) rfl ⟨k, c1, pl1, cf, rnv, acc, rfl, HN.out, HFIN.out.1, by rw [if_neg HFIN.out.2]; exact H2.out, HG2.out⟩
    · have hz1i : ((z : Int) == 1) = false := by rw [beq_eq_false_iff_ne]; omega
      have hend : endB acc (z : Int) = true := by rw [H1.out.ends, decide_eq_true hlk]
      have HEND := Lib.hid hend
      clear hend hlk
      go_wp2_with fail
      refine (endsWith_any H1.out.tk H1.out.own hal (z : Int)).mono ?_
      rintro e w2 ⟨rfl, rfl⟩
      rw [HEND.out]
      go_wp2_with fail
      rw [E2.out]
      refine (fail_any H1.out.rd 2).mono ?_
      rintro e w2 ⟨rfl, hrd2, hg2⟩
      have H2 := Lib.hid (H1.out.read hg2 hrd2)
      have HG2 := Lib.hid (HG1.out.trans (gr_grown hg2 HB1.out (fun j hj => .inl (by simpa using hj.symm))))
      generalize (if cz = 0 then 2 else cz) = cf at H2 HFIN
      have t2 := H2.out.tk.c0
      clear hrd2 hg2 t0
      go_wp2_with fail
      refine (err_any H2.out.rd).mono ?_
      rintro e w3 ⟨rfl, rfl⟩
      rw [errV_pos HFIN.out.2]
      go_wp2
      exact bodyPost_ret (results_none rfl _ _ _) rfl ⟨k, c1, pl1, cf, rnv, acc, rfl, HN.out, HFIN.out.1, by rw [if_neg HFIN.out.2]; exact H2.out, HG2.out⟩
  · have hz1i : ((z : Int) == 1) = false := by rw [beq_eq_false_iff_ne]; omega
    have hend : endB acc (z : Int) = false := by rw [H1.out.ends, decide_eq_false hlk]
    have HEND := Lib.hid hend
    have HNB : Hid (z ≠ 1 ∧ lastK cs ≠ some z) := Lib.hid ⟨hz1, hlk⟩
    have t0 := H1.out.tk.c0
    clear hend hlk
    go_wp2_with fail
    refine (endsWith_any H1.out.tk H1.out.own hal (z : Int)).mono ?_
    rintro e w2 ⟨rfl, rfl⟩
    rw [HEND.out]
    go_wp2_with fail
    refine (err_any H1.out.rd).mono ?_
    rintro e w3 ⟨rfl, rfl⟩
    by_cases h0 : cz = 0
    · have hk := up_zero (HCZ.out.symm.trans h0)
      have hzk : z = k := by rw [HZ.out]; exact hk.2.2
      have HFIN : Hid (0 = rowC k c1 (lastK cs)) := Lib.hid (by
        unfold rowC
        rw [← HCZ.out, if_neg (by simpa using h0), if_neg (by
          rintro (h | h)
          · exact HNB.out.1 (by rw [hzk]; exact h)
          · exact HNB.out.2 (by rw [hzk]; exact h))])
      subst h0
      subst hzk
      rw [errV_zero]
      clear t0 hz1
      go_wp2
      go_loopw [28] (fun i wr => ∃ (j : Nat) (rnv' : Value) (acc' : List (Int × Value)), j ≤ many ∧ i = .int .i64 (j : Int) ∧ TkS wr base t p rv row pl1 0 rnv' lsv acc' (cs ++ List.replicate j (z, [])) last ∧ Gr base p w wr ∧ base ≤ wr.heap.size)
        (fun i _ => many - (intOf i).toNat)
      case atStart => exact ⟨0, rnv, acc, Nat.zero_le _, rfl, by simpa using H1.out, HG1.out, HB1.out⟩
      case round =>
        obtain ⟨j, rnv', acc', hj, rfl, htk, hgr, hbr⟩ := hrel
        have HTK := Lib.hid htk
        have HGR := Lib.hid hgr
        have HBR := Lib.hid hbr
        have hacl : acc'.length ≤ 100 := by have := htk.len; simp at this; omega
        obtain ⟨aor, capr, hv⟩ := htk.own.form
        subst hv
        have t1 := htk.tk.c1
        clear htk hgr hbr
        by_cases hlt : (j : Int) < (many : Int)
        · obtain ⟨W2, hW2⟩ : ∃ W2, W2 = wr.alloc (.cells #[.int .i64 (z : Int), .slice none 0 0] 72) := ⟨_, rfl⟩
          have hal2 : Below wr.heap.size wr W2 := by rw [hW2]; exact (Below.refl _ _).alloc (Nat.le_refl _) _
          have HT2 := Lib.hid (HTK.out.more hal2)
          have HG2 := Lib.hid (HGR.out.trans (gr_below hal2 HBR.out))
          have HB2 : Hid (base ≤ W2.heap.size) := Lib.hid (Nat.le_trans HBR.out hal2.size)
          rw [hW2] at HT2 HG2 HB2
          clear hal2 hW2
          go_wp2_with (at_builtin; go_must (refine wpList_appI _ rfl _ _ rfl base _ acc' rfl HT2.out.own (z : Int) (.slice none 0 0) rfl wr rfl rfl (by omega) HB2.out ?_))
          intro v3 w3 ho3 hg3
          obtain ⟨ao3, cap3, hv3⟩ := ho3.form
          rw [show (acc' ++ [((z : Int), Value.slice none 0 0)]).length = acc'.length + 1 by simp] at hv3
          subst hv3
          have hp := HT2.out.push hg3 ho3 ⟨reads_none _ _, .inl rfl⟩
          have HP := Lib.hid hp
          have hts : Tkr w3 t p (.slice aor acc'.length capr) lsv := HT2.out.tk.grown hg3 (fun e => HT2.out.own.ne_tk HT2.out.tk e.symm)
          have u1 := hts.c1
          have u2 := hts.fz 1
          have HG3 := Lib.hid ((HG2.out.trans (gr_grown hg3 HB2.out (fun j hj => .inr (HT2.out.own.lt j hj).1))).trans (gr_grown (grown_set w3 t 1 (.slice ao3 (acc'.length + 1) cap3)) (Nat.le_trans HB2.out hg3.size) (fun j hj => .inr (by have := HT2.out.bt; simp at hj; omega))))
          have HB3 : Hid (base ≤ w3.heap.size) := Lib.hid (Nat.le_trans HB2.out hg3.size)
          clear hp ho3 hg3 hts HT2 HG2 HB2 t1
          go_wp2
          go_roundw
          case rel => exact ⟨j + 1, _, _, by omega, by go_num, by rw [← rep_snocC, ← List.append_assoc]; exact HP.out, HG3.out, by simpa using HB3.out⟩
          case measure => simp [intOf]; omega
        · obtain rfl : j = many := by omega
          go_wp2
          exact bodyPost_ret (results_none rfl _ _ _) rfl ⟨z, c1, pl1, 0, _, acc', rfl, HN.out, HFIN.out, by rw [if_pos rfl]; exact HTK.out, HGR.out⟩
    · have HFIN : Hid (cz = rowC k c1 (lastK cs)) := Lib.hid (by
        unfold rowC
        rw [← HCZ.out, if_pos h0])
      rw [errV_pos h0]
      have H0 := Lib.hid h0
      clear h0
      go_wp2
      exact bodyPost_ret (results_none rfl _ _ _) rfl ⟨k, c1, pl1, cz, rnv, acc, rfl, HN.out, HFIN.out, by rw [if_neg H0.out]; exact H1.out, HG1.out⟩

end Go.Proofs.YtpebmmhokigglaaGreatDoor

namespace Go.Proofs.YtpebmmhokigglaaGreatDoor
open Go.RowKit

set_option maxHeartbeats 400000 in
set_option maxRecDepth 100000 in
theorem grow_zero (w : World) : Calls Tryz.prog 101 #[.slice none 0 0, .int .i64 0] w fun e w' => e = .returned (.slice none 0 0) ∧ w = w' := by
  go_enter Tryz.func101, Tryz.ntmps101
  go_wp2
  go_ret
  exact ⟨rfl, rfl⟩

theorem grow_all (n : Nat) (w : World) (hn : n ≤ 80000000000000) : Calls Tryz.prog 101 #[.slice none 0 0, .int .i64 (n : Int)] w fun e w' => ∃ v', e = .returned v' ∧ Owns w' w.heap.size 5 .u8 v' [] ∧ Below w.heap.size w w' := by
  by_cases h0 : n = 0
  · subst h0
    refine (grow_zero w).mono ?_
    rintro e w' ⟨rfl, rfl⟩
    exact ⟨_, rfl, owns_nil _ _ _ _, Below.refl _ _⟩
  · exact grow_any n w (by omega) (by omega)

set_option maxHeartbeats 1000000 in
set_option maxRecDepth 100000 in
theorem concat_all (v : Value) (ls : List (List Nat)) (out : List Nat) (w : World) (B : Nat → Prop) (hr : Txs w B v ls) (hout : out = ls.flatten) (hn : out.length ≤ 80000000000000) (hl : ls.length ≤ 80000000000000) :
    Calls Tryz.prog 64 #[v] w fun e w' => ∃ v', e = .returned v' ∧ Owns w' w.heap.size 5 .u8 v' out ∧ Below w.heap.size w w' := by
  obtain ⟨ao, cap, rfl, h1, h2, h3⟩ := hr.val
  have HR := Lib.hid hr; clear hr
  have HOUT := Lib.hid hout; clear hout
  go_enter Tryz.func64, Tryz.ntmps64
  go_wp2
  go_loopw [3, 5, 11] (fun sz _ i wr => ∃ k n : Nat, k ≤ ls.length ∧ i = .int .i64 (k : Int) ∧ sz = .int .i64 (n : Int) ∧ n = (ls.take k).flatten.length ∧ w = wr)
    (fun _ _ i _ => ls.length - (intOf i).toNat)
  case atStart => exact ⟨0, 0, Nat.zero_le _, rfl, rfl, by simp, rfl⟩
  case round =>
    obtain ⟨k, n, hk, rfl, rfl, hnn, rfl⟩ := hrel
    by_cases hlt : k < ls.length
    · obtain ⟨b, off, u, rfl, _, _, hcell, hat⟩ := HR.out.at hlt
      have hts := congrArg List.length (texts_take k hlt)
      rw [List.length_append, ← hnn] at hts
      have hle := texts_take_le ls (k + 1)
      have HOL := congrArg List.length HOUT.out
      generalize ls.getD k [] = t at hat hts
      obtain ⟨aot, capt, rfl, _, _, _⟩ := hat.reads.val
      have hsm : (n : Int) + (t.length : Int) ≤ 80000000000000 := by omega
      have HTS := Lib.hid hts
      clear hat hts hle hnn HOL
      have hlti : (k : Int) < ls.length := by omega
      have hnot : ¬ ((n : Int) + (t.length : Int) < 0) := by omega
      go_wp2
      go_roundw
      case rel => exact ⟨k + 1, n + t.length, by omega, by go_num, by go_num, HTS.out.symm, trivial⟩
      case measure => simp [intOf]; omega
    · obtain rfl : k = ls.length := by omega
      rw [List.take_length, ← HOUT.out] at hnn
      subst hnn
      go_wp2_with fail
      refine (grow_all out.length w (by omega)).mono ?_
      rintro e w1 ⟨v1, rfl, ho1, hb1⟩
      have HO1 := Lib.hid ho1
      have HB1 := Lib.hid hb1
      clear ho1 hb1
      go_wp2
      go_loopw [6, 8, 27] (fun sv _ i wr => ∃ k : Nat, k ≤ ls.length ∧ i = .int .i64 (k : Int) ∧ Owns wr w.heap.size 5 .u8 sv (ls.take k).flatten ∧ Below w.heap.size w wr)
        (fun _ _ i _ => ls.length - (intOf i).toNat)
      case atStart => exact ⟨0, Nat.zero_le _, rfl, HO1.out, HB1.out⟩
      case round =>
        obtain ⟨k, hk, rfl, hown, hbel⟩ := hrel
        have HOWN := Lib.hid hown
        have HBEL := Lib.hid hbel
        clear hown hbel
        by_cases hlt : k < ls.length
        · obtain ⟨b, off, u, rfl, _, _, hcell, hat⟩ := (HR.out.old HBEL.out).at hlt
          have hts := texts_take k hlt
          have hle := texts_take_le ls (k + 1)
          rw [hts, List.length_append] at hle
          have HOL := Lib.hid (congrArg List.length HOUT.out)
          generalize ls.getD k [] = t at hat hts hle
          obtain ⟨aot, capt, rfl, _, _, _⟩ := hat.reads.val
          have HT := Lib.hid hat.reads
          have HTS := Lib.hid hts
          clear hat hts
          have hlti : (k : Int) < ls.length := by omega
          go_wp2_with (at_builtin; go_must (refine wpList_app _ rfl _ _ 29 rfl w.heap.size 5 (.int .u8 0) 1 Tryz.underlying29 Tryz.info5 rfl .u8 _ (ls.take k).flatten rfl HOWN.out _ t rfl HT.out (by decide) ?c1 ?c3 ?_))
          case c1 => have := HOL.out; omega
          case c3 => exact HBEL.out.size
          intro v4 w4 ho4 hg4
          have HB4 : Hid (Below w.heap.size w w4) := Lib.hid (HBEL.out.grown hg4 HBEL.out.size (fun j hj => (HOWN.out.lt j hj).1))
          have HO4 : Hid (Owns w4 w.heap.size 5 .u8 v4 (ls.take (k + 1)).flatten) := Lib.hid (by rw [HTS.out]; exact ho4)
          clear ho4 hg4
          go_wp2
          go_roundw
          case rel => exact ⟨k + 1, by omega, by go_num, HO4.out, HB4.out⟩
          case measure => simp [intOf]; omega
        · obtain rfl : k = ls.length := by omega
          have hlast := HOWN.out
          rw [List.take_length, ← HOUT.out] at hlast
          have HL := Lib.hid hlast
          clear hlast
          go_wp2
          go_ret
          exact ⟨_, rfl, HL.out, HBEL.out⟩

end Go.Proofs.YtpebmmhokigglaaGreatDoor

namespace Go.Proofs.YtpebmmhokigglaaGreatDoor
open Go.RowKit

/-- A data cell, taken behind its nought: the text, the error, what is left. -/
def DataRel (last rest : List Nat) (c : Nat) (text rest' : List Nat) (c' : Nat) : Prop :=
  ∃ size r1 c1 s r2 c2 out c3, NumRel rest c size r1 c1 ∧ NumRel r1 (upC size c1 64 3) s r2 c2 ∧
    FixRel r2 (upC s c2 (min (upR size 64) last.length) 2) ((upR size 64 : Int) - (upR s (min (upR size 64) last.length) : Int)) out rest' c3 ∧
    text = last.take (upR s (min (upR size 64) last.length)) ++ out ∧ c' = (if upR s (min (upR size 64) last.length) < com last text then (if c3 = 0 then 2 else c3) else c3)

def DataPost (base t p : Nat) (rv : Value) (row : List Nat) (place c : Nat) (cs : List CC) (last : List Nat) (w : World) (e : Ending) (w' : World) : Prop :=
  ∃ (text : List Nat) (place' c' : Nat) (rnv' lsv' : Value) (acc' : List (Int × Value)), e = .returned (.tuple #[]) ∧ DataRel last (row.drop place) c text (row.drop place') c' ∧
    TkS w' base t p rv row place' c' rnv' lsv' acc' (if c' = 0 then cs ++ [(1, text)] else cs) (if c' = 0 then text else last) ∧ Gr base p w w'

theorem fix_len {rest : List Nat} {c : Nat} {many : Int} {out rest' : List Nat} {c' : Nat} (h : FixRel rest c many out rest' c') (hm : many ≤ 64) : out.length ≤ 64 := by
  rcases h with ⟨_, rfl, _⟩ | ⟨_, _, rfl, _⟩ | ⟨_, h0, _, rfl, _⟩
  · simp
  · simp
  · rw [List.length_take]; omega
theorem upR_le (n most : Nat) : upR n most ≤ most := by unfold upR; split <;> omega

set_option maxHeartbeats 4000000 in
set_option maxRecDepth 100000 in
theorem takeData_any {w : World} {base t p : Nat} {rv rnv lsv : Value} {row : List Nat} {place c : Nat} {acc : List (Int × Value)} {cs : List CC} {last : List Nat}
    (h : TkS w base t p rv row place c rnv lsv acc cs last) (hcs : cs.length < 64) (hbase : base ≤ w.heap.size) (hll : last.length ≤ 64) :
    Calls Tryz.prog 111 #[.pointer (some ⟨t, 0, none⟩)] w (DataPost base t p rv row place c cs last w) := by
  have e3 : Value.iface 68 (.int .i64 3) = errV 3 := (errV_pos (by decide)).symm
  have e2 : Value.iface 68 (.int .i64 2) = errV 2 := (errV_pos (by decide)).symm
  have E3 := Lib.hid e3
  have E2 := Lib.hid e2
  have H := Lib.hid h
  have HBS := Lib.hid hbase
  clear e3 e2 h hbase
  obtain ⟨aol, capl, rfl, _, _, _⟩ := H.out.lst.reads.val
  go_enter Tryz.func111, Tryz.ntmps111
  go_wp2_with fail
  rw [E3.out]
  refine (upTo_any H.out.tk H.out.rd 64 3 (by decide) (by decide)).mono ?_
  rintro e w1 ⟨size, pl1, c1, rfl, hn, hrd, hg⟩
  have HN1 := Lib.hid hn
  have H1 := Lib.hid (H.out.read hg hrd)
  have HG1 : Hid (Gr base p w w1) := Lib.hid (gr_grown hg HBS.out (fun j hj => .inl (by simpa using hj.symm)))
  have HB1 : Hid (base ≤ w1.heap.size) := Lib.hid (Nat.le_trans HBS.out hg.size)
  have hz64 := upR_le size 64
  obtain ⟨z, hz⟩ : ∃ z, z = upR size 64 := ⟨_, rfl⟩
  rw [← hz] at hz64 ⊢
  have HZ := Lib.hid hz
  have t2 := H1.out.tk.c2
  clear hn hrd hg H HBS hz
  obtain ⟨m, hm⟩ : ∃ m, m = min z last.length := ⟨_, rfl⟩
  have hmi : min (z : Int) (last.length : Int) = (m : Int) := by omega
  have HM := Lib.hid hm
  have hm64 : m ≤ 64 := by omega
  have hmz : m ≤ z := by omega
  have hml : m ≤ last.length := by omega
  clear hm
  go_wp2_with fail
  rw [E2.out]
  refine (upTo_any H1.out.tk H1.out.rd m 2 (by omega) (by decide)).mono ?_
  rintro e w2 ⟨s0, pl2, c2, rfl, hn, hrd, hg⟩
  have HN2 := Lib.hid hn
  have H2 := Lib.hid (H1.out.read hg hrd)
  have HG2 := Lib.hid (HG1.out.trans (gr_grown hg HB1.out (fun j hj => .inl (by simpa using hj.symm))))
  have HB2 : Hid (base ≤ w2.heap.size) := Lib.hid (Nat.le_trans HB1.out hg.size)
  have hsm := upR_le s0 m
  obtain ⟨s, hs⟩ : ∃ s, s = upR s0 m := ⟨_, rfl⟩
  rw [← hs] at hsm ⊢
  have HS := Lib.hid hs
  clear hn hrd hg H1 HG1 HB1 hs t2
  have t0 := H2.out.tk.c0
  have t2 := H2.out.tk.c2
  have hsl : s ≤ last.length := by omega
  have hslc : (s : Int) ≤ (capl : Int) := by
    obtain ⟨ao, cap, hv, h1, _⟩ := H2.out.lst.reads
    simp only [Value.slice.injEq] at hv
    omega
  have hzs : IntKind.i64.wrap ((z : Int) - (s : Int)) = (z : Int) - (s : Int) := IntWalk.i64_in _ (by omega)
  have HLS : Hid (Reads w2 .u8 (.slice aol s capl) (last.take s)) := Lib.hid (H2.out.lst.reads.head hsl)
  go_wp2_with fail
  go_region_held3 (fun w' => w'.cell? ⟨t, 0, none⟩ = some (.pointer (some ⟨p, 0, none⟩)) ∧ w'.cell? ⟨t, 2, none⟩ = some (.slice aol last.length capl)) (go_keep) (first
    | (go_at_call 64; refine (concat_all _ [last.take s, out] (last.take s ++ out) _ _ (txs_two w3 _ _ _ (last.take s) out HLS3.out HO3.out.reads) (by simp) (by have := HOL3.out; rw [List.length_append, List.length_take]; omega) (by simp)).mono ?_; rintro e w4 ⟨v4, rfl, ho4, hb4⟩
       obtain ⟨tx, htx⟩ : ∃ tx, tx = last.take s ++ out := ⟨_, rfl⟩
       rw [← htx] at ho4
       have HTX := Lib.hid htx
       obtain ⟨ao4, cap4, rfl, _, _, _⟩ := ho4.reads.val
       have HB34 : Hid (Below w3.heap.size w3 w4) := Lib.hid (((Below.refl _ _).alloc (Nat.le_refl _) _).trans (hb4.mono (by simp)))
       have HO4 : Hid (Owns w4 w3.heap.size 5 .u8 (.slice ao4 tx.length cap4) tx) := Lib.hid (ho4.mono (by simp))
       have H4 := Lib.hid (H3.out.more HB34.out)
       have n0 := H4.out.tk.c0
       have n2 := H4.out.tk.c2
       clear ho4 hb4 htx)
    | (go_at_call 68; refine (fixed_any (by first | exact H2.out.rd | exact H2.out.rd.drew) ((z : Int) - (s : Int))).mono ?_; rintro e w3 ⟨v3, out, pl3, c3, rfl, hf3, ho3, hrd3, hg3⟩
       obtain ⟨ao3, cap3, rfl, _, _, _⟩ := ho3.reads.val
       have HF3 := Lib.hid hf3
       have HO3 := Lib.hid ho3
       have HG3 : Hid (w2.grownBy w3 (some p)) := Lib.hid (by first | exact hg3 | exact ⟨hg3.os, hg3.tape, hg3.output, hg3.size, hg3.block⟩)
       have H3 := Lib.hid (H2.out.read HG3.out hrd3)
       have HLS3 : Hid (Reads w3 .u8 (.slice aol s capl) (last.take s)) := Lib.hid (H3.out.lst.reads.head hsl)
       have HOL3 : Hid (out.length ≤ 64) := Lib.hid (fix_len hf3 (by omega))
       have m0 := H3.out.tk.c0
       have m2 := H3.out.tk.c2
       clear hf3 ho3 hrd3 hg3))
  have HAT4 : Hid (At w4 (Own w4 base 5) .u8 (.slice ao4 tx.length cap4) tx) := Lib.hid (HO4.out.at'.mono (fun j _ hB => ⟨Nat.le_trans (Nat.le_trans HB2.out HG3.out.size) hB.1, hB.2⟩))
  have HGR4 : Hid (Gr base p w w4) := Lib.hid ((HG2.out.trans (gr_grown HG3.out HB2.out (fun j hj => .inl (by simpa using hj.symm)))).trans (gr_below HB34.out (Nat.le_trans HB2.out HG3.out.size)))
  have HB4 : Hid (base ≤ w4.heap.size) := Lib.hid (Nat.le_trans (Nat.le_trans HB2.out HG3.out.size) HB34.out.size)
  have HREL : Hid (∀ q, q = com last tx → DataRel last (row.drop place) c tx (row.drop pl3) (if s < q then (if c3 = 0 then 2 else c3) else c3)) := Lib.hid (fun q hq => by
    subst hq
    refine ⟨size, row.drop pl1, c1, s0, row.drop pl2, c2, out, c3, HN1.out, HN2.out, ?_, ?_, ?_⟩
    · rw [← HZ.out, ← HM.out, ← HS.out]; exact HF3.out
    · rw [← HZ.out, ← HM.out, ← HS.out]; exact HTX.out
    · rw [← HZ.out, ← HM.out, ← HS.out])
  clear t0 t2 m0 m2 n0 n2 HB34 HG3 HG2 HB2 H2 H3 HO4 HO3 HLS3 HF3 HLS
  have t0 := H4.out.tk.c0
  have t2 := H4.out.tk.c2
  go_wp2_with fail
  refine (alikeBytes_any _ _ last tx w4 H4.out.lst.reads HAT4.out.reads (by omega)).mono ?_
  rintro e w5 ⟨rfl, hb5⟩
  obtain ⟨q, hq⟩ : ∃ q, q = com last tx := ⟨_, rfl⟩
  rw [← hq]
  have HRL := Lib.hid (HREL.out q hq)
  have H5 := Lib.hid (H4.out.more hb5)
  have HAT5 := Lib.hid (HAT4.out.own (kept_new hb5 _))
  have HGR5 := Lib.hid (HGR4.out.trans (gr_below hb5 HB4.out))
  have HB5 : Hid (base ≤ w5.heap.size) := Lib.hid (Nat.le_trans HB4.out hb5.size)
  clear hq hb5 H4 HAT4 HGR4 HB4 HREL t0 t2
  have t0 := H5.out.tk.c0
  by_cases hlt : (s : Int) < (q : Int)
  · have hlt2 : s < q := by omega
    rw [if_pos hlt2] at HRL
    clear hlt2
    go_wp2_with fail
    rw [E2.out]
    refine (fail_any H5.out.rd 2).mono ?_
    rintro e w6 ⟨rfl, hrd6, hg6⟩
    have H6 := Lib.hid (H5.out.read hg6 hrd6)
    have HG6 := Lib.hid (HGR5.out.trans (gr_grown hg6 HB5.out (fun j hj => .inl (by simpa using hj.symm))))
    have hcf : (if c3 = 0 then 2 else c3) ≠ 0 := by split <;> omega
    generalize (if c3 = 0 then 2 else c3) = cf at H6 HRL hcf
    have t6 := H6.out.tk.c0
    have HCF := Lib.hid hcf
    clear hrd6 hg6 t0 hcf
    go_wp2_with fail
    refine (err_any H6.out.rd).mono ?_
    rintro e w7 ⟨rfl, rfl⟩
    rw [errV_pos HCF.out]
    go_wp2
    exact bodyPost_ret (results_none rfl _ _ _) rfl ⟨tx, pl3, cf, rnv, _, acc, rfl, HRL.out, by rw [if_neg HCF.out, if_neg HCF.out]; exact H6.out, HG6.out⟩
  · rw [if_neg (by omega)] at HRL
    go_wp2_with fail
    refine (err_any H5.out.rd).mono ?_
    rintro e w7 ⟨rfl, rfl⟩
    by_cases h0 : c3 = 0
    · subst h0
      rw [errV_zero]
      obtain ⟨aor, capr, hv⟩ := H5.out.own.form
      subst hv
      have t1 := H5.out.tk.c1
      obtain ⟨W2, hW2⟩ : ∃ W2, W2 = w5.alloc (.cells #[.int .i64 1, .slice ao4 tx.length cap4] 72) := ⟨_, rfl⟩
      have hal2 : Below w5.heap.size w5 W2 := by rw [hW2]; exact (Below.refl _ _).alloc (Nat.le_refl _) _
      have HT2 := Lib.hid (H5.out.more hal2)
      have HA2 := Lib.hid (HAT5.out.own (kept_new hal2 _))
      have HG2 := Lib.hid (HGR5.out.trans (gr_below hal2 HB5.out))
      have HB2 : Hid (base ≤ W2.heap.size) := Lib.hid (Nat.le_trans HB5.out hal2.size)
      have hacl : acc.length ≤ 100 := by have := H5.out.len; omega
      rw [hW2] at HT2 HG2 HB2 HA2
      clear hal2 hW2
      go_wp2_with (at_builtin; go_must (refine wpList_appI _ rfl _ _ rfl base _ acc rfl HT2.out.own 1 (.slice ao4 tx.length cap4) rfl w5 rfl rfl (by omega) HB2.out ?_))
      intro v8 w8 ho8 hg8
      obtain ⟨ao8, cap8, hv8⟩ := ho8.form
      rw [show (acc ++ [((1 : Int), Value.slice ao4 tx.length cap4)]).length = acc.length + 1 by simp] at hv8
      subst hv8
      have hp := HT2.out.push (k := 1) hg8 ho8 HA2.out
      have HP := Lib.hid (hp.setLast (v' := .slice ao4 tx.length cap4) (d := tx) ((HA2.out.own (kept_u8 hg8 (fun j hj => by
        obtain ⟨q1, h1⟩ := HT2.out.own.ty hj
        rintro ⟨q2, h2⟩
        have := h1.symm.trans h2
        cases this))).own (kept_u8 (grown_set w8 t 1 _) (fun j hj => by
        cases hj
        rintro ⟨q2, h2⟩
        have := h2.symm.trans (HT2.out.tk.grown hg8 (fun e => HT2.out.own.ne_tk HT2.out.tk e.symm))
        cases this))))
      have hts : Tkr w8 t p (.slice aor acc.length capr) (.slice aol last.length capl) := HT2.out.tk.grown hg8 (fun e => HT2.out.own.ne_tk HT2.out.tk e.symm)
      have u1 := hts.c1
      have u2 := hts.fz 1
      have hts2 := hp.tk
      have u3 := hts2.c2
      have u4 := hts2.fz 2
      have HGF := Lib.hid (((HG2.out.trans (gr_grown hg8 HB2.out (fun j hj => .inr (HT2.out.own.lt j hj).1))).trans (gr_grown (grown_set w8 t 1 (.slice ao8 (acc.length + 1) cap8)) (Nat.le_trans HB2.out hg8.size) (fun j hj => .inr (by have := HT2.out.bt; simp at hj; omega)))).trans (gr_grown (grown_set _ t 2 (.slice ao4 tx.length cap4)) (by have := Nat.le_trans HB2.out hg8.size; simpa using this) (fun j hj => .inr (by have := HT2.out.bt; simp at hj; omega))))
      clear ho8 hg8 hts hts2 hp HT2 HG2 HB2 HA2 t0 t1
      go_wp2
      exact bodyPost_ret (results_none rfl _ _ _) rfl ⟨tx, pl3, 0, _, _, _, rfl, HRL.out, by rw [if_pos rfl, if_pos rfl]; exact HP.out, HGF.out⟩
    · have H0 := Lib.hid h0
      rw [errV_pos h0]
      clear h0
      go_wp2
      exact bodyPost_ret (results_none rfl _ _ _) rfl ⟨tx, pl3, c3, rnv, _, acc, rfl, HRL.out, by rw [if_neg H0.out, if_neg H0.out]; exact H5.out, HGR5.out⟩

end Go.Proofs.YtpebmmhokigglaaGreatDoor

namespace Go.Proofs.YtpebmmhokigglaaGreatDoor
open Go.RowKit

theorem com_ge : ∀ (a b : List Nat) (n : Nat), n ≤ a.length → n ≤ b.length → a.take n = b.take n → n ≤ com a b
  | _, _, 0, _, _, _ => Nat.zero_le _
  | [], _, n + 1, h, _, _ => by simp at h
  | _ :: _, [], n + 1, _, h, _ => by simp at h
  | x :: a, y :: b, n + 1, h1, h2, h3 => by
    simp only [List.take_succ_cons, List.cons.injEq] at h3
    unfold com
    rw [if_pos h3.1]
    have := com_ge a b n (by simpa using h1) (by simpa using h2) h3.2
    omega

/-- The kind of the row just ahead, of a run's last kind. -/
def rowO : Option Nat → Option Nat
  | none => none
  | some k => if k = 1 then none else some k
theorem rowO_iff {lk : Option Nat} {k : Nat} (hk : k ≠ 1) : rowO lk = some k ↔ lk = some k := by
  cases lk with
  | none => simp [rowO]
  | some j =>
    simp only [rowO]
    split
    · next h => subst h; simp; exact fun e => hk e.symm
    · simp
theorem within_up (k c : Nat) : withinC k c 3 = upC k c 3 1 := by
  unfold withinC upC
  by_cases h : 3 < k
  · rw [if_pos (.inl h), if_pos h]
  · rw [if_neg (by omega), if_neg h]

theorem numr_err {rest r1 : List Nat} {c n c1 : Nat} (h : NumRel rest c n r1 c1) (hc : c1 ≠ 0) : n = 0 := by
  rcases h with ⟨_, h, _⟩ | ⟨_, _, _, h⟩ | ⟨_, h, _⟩
  · exact h
  · exact absurd h hc
  · exact h
theorem numr_had {rest r1 : List Nat} {c n c1 : Nat} (h : NumRel rest c n r1 c1) (hc : c ≠ 0) : n = 0 ∧ c1 = c := by
  rcases h with ⟨_, h, _, h2⟩ | ⟨h, _⟩ | ⟨h, _⟩
  · exact ⟨h, h2⟩
  · exact absurd h hc
  · exact absurd h hc
theorem upC_had {n c1 most code c : Nat} (hn : n = 0) (h1 : c1 = c) : upC n c1 most code = c := by
  subst hn h1
  unfold upC
  rw [if_neg (by omega)]
theorem upR_nought (most : Nat) : upR 0 most = 0 := by unfold upR; split <;> rfl

/-- With an error ahead nothing is taken, and it stays. -/
theorem data_had {last rest : List Nat} {c c' : Nat} {text rest' : List Nat} (h : DataRel last rest c text rest' c') (hc : c ≠ 0) : c' = c := by
  obtain ⟨size, r1, c1, s, r2, c2, out, c3, h1, h2, h3, ht, hcc⟩ := h
  obtain ⟨hs0, hc1⟩ := numr_had h1 hc
  have hu1 : upC size c1 64 3 = c := upC_had hs0 hc1
  rw [hu1] at h2
  obtain ⟨hs2, hc2⟩ := numr_had h2 hc
  rw [upC_had hs2 hc2] at h3
  rcases h3 with ⟨_, ho, _, h3⟩ | ⟨h, _⟩ | ⟨h, _⟩
  · rw [hs2, upR_nought, List.take_zero, ho] at ht
    rw [hcc, hs2, upR_nought, ht, if_neg (by rw [com_none']; omega)]
    exact h3
  · exact absurd h hc
  · exact absurd h hc
where com_none' {d : List Nat} : com d ([] ++ []) = 0 := by cases d <;> rfl

theorem data_item {left : Nat} {last rest r1 : List Nat} {row : Option Nat} {text rest' : List Nat} {c' : Nat} (hn : NumRel rest 0 0 r1 0) (hll : last.length ≤ 64) (h : DataRel last r1 0 text rest' c') :
    ∃ cells last' row' rest'', Item left last row rest cells last' row' rest'' c' ∧ (c' = 0 → cells = [(1, text)] ∧ last' = text ∧ row' = none ∧ rest'' = rest' ∧ text.length ≤ 64) := by
  obtain ⟨size, r2, c2, s, r3, c3, out, c4, h1, h2, h3, ht, hcc⟩ := h
  by_cases hc2 : c2 = 0
  · subst hc2
    by_cases h64 : 64 < size
    · have hu : upC size 0 64 3 = 3 := by unfold upC; rw [if_pos h64, if_pos rfl]
      have hr : upR size 64 = 0 := (up_bad (c := 0) (code := 0) h64).1
      rw [hu] at h2
      obtain ⟨hs2, hc3⟩ := numr_had h2 (by decide)
      rw [upC_had hs2 hc3] at h3
      have : c' = 3 := by
        rcases h3 with ⟨_, ho, _, h3⟩ | ⟨h, _⟩ | ⟨h, _⟩
        · rw [hcc, ht, hs2, upR_nought, List.take_zero, ho, h3]
          rw [if_neg]
          cases last <;> simp [com]
        · cases h
        · cases h
      subst this
      exact ⟨[], [], none, [], ⟨0, r1, 0, hn, .inr (.inr (.inr ⟨rfl, rfl, size, r2, 0, h1, .inr (.inl ⟨rfl, h64, rfl, rfl, rfl, rfl, rfl⟩)⟩))⟩, fun h => by cases h⟩
    · have hu : upC size 0 64 3 = 0 := (up_good (c := 0) (code := 3) h64).2
      have hr : upR size 64 = size := (up_good (c := 0) (code := 3) h64).1
      rw [hu] at h2
      rw [hr] at h3 ht hcc
      by_cases hc3 : c3 = 0
      · subst hc3
        by_cases hs : min size last.length < s
        · have hu2 : upC s 0 (min size last.length) 2 = 2 := by unfold upC; rw [if_pos hs, if_pos rfl]
          have hr2 : upR s (min size last.length) = 0 := (up_bad (c := 0) (code := 0) hs).1
          rw [hu2] at h3
          have : c' = 2 := by
            rcases h3 with ⟨_, ho, _, h3⟩ | ⟨h, _⟩ | ⟨h, _⟩
            · rw [hcc, ht, hr2, List.take_zero, ho, h3]
              rw [if_neg]
              cases last <;> simp [com]
            · cases h
            · cases h
          subst this
          exact ⟨[], [], none, [], ⟨0, r1, 0, hn, .inr (.inr (.inr ⟨rfl, rfl, size, r2, 0, h1, .inr (.inr ⟨rfl, by omega, s, r3, 0, h2, .inr (.inl ⟨rfl, by omega, rfl, rfl, rfl, rfl, rfl⟩)⟩)⟩))⟩, fun h => by cases h⟩
        · have hu2 : upC s 0 (min size last.length) 2 = 0 := (up_good (c := 0) (code := 2) hs).2
          have hr2 : upR s (min size last.length) = s := (up_good (c := 0) (code := 2) hs).1
          rw [hu2, hr2] at h3
          rw [hr2] at ht hcc
          have hs1 : s ≤ size := by omega
          have hs2 : s ≤ last.length := by omega
          rcases h3 with ⟨h, _⟩ | ⟨_, hm, ho, _, h4⟩ | ⟨_, _, hm, ho, hrr, h4⟩
          · exact absurd rfl h
          · have hcom : com last text = s := by
              rw [ht, ho, List.append_nil]
              refine com_eq last (last.take s) s hs2 (by rw [List.length_take]; omega) (by rw [List.take_take]; simp) (.inr (.inl (by rw [List.length_take]; omega)))
            have : c' = 2 := by rw [hcc, hcom, if_neg (by omega), h4]
            subst this
            exact ⟨[], [], none, [], ⟨0, r1, 0, hn, .inr (.inr (.inr ⟨rfl, rfl, size, r2, 0, h1, .inr (.inr ⟨rfl, by omega, s, r3, 0, h2, .inr (.inr ⟨rfl, hs1, hs2, .inl ⟨by omega, rfl, rfl, rfl, rfl, rfl⟩⟩)⟩)⟩))⟩, fun h => by cases h⟩
          · have hmany : ((size : Int) - (s : Int)).toNat = size - s := by omega
            rw [hmany] at ho hrr
            rw [ho] at ht
            have htl : text.length = size := by rw [ht, List.length_append, List.length_take, List.length_take]; omega
            have htt : text.take s = last.take s := by rw [ht, List.take_left' (by rw [List.length_take]; omega)]
            have hge : s ≤ com text last := com_ge text last s (by omega) hs2 htt
            rw [com_comm] at hcc
            by_cases hc : com text last = s
            · have : c' = 0 := by rw [hcc, hc, if_neg (by omega), h4]
              subst this
              refine ⟨[(1, text)], text, none, rest', ⟨0, r1, 0, hn, .inr (.inr (.inr ⟨rfl, rfl, size, r2, 0, h1, .inr (.inr ⟨rfl, by omega, s, r3, 0, h2, .inr (.inr ⟨rfl, hs1, hs2, .inr (.inr ⟨by omega, ?_, ?_, ?_, rfl, hrr, rfl⟩)⟩)⟩)⟩))⟩, fun _ => ⟨rfl, rfl, rfl, rfl, by omega⟩⟩
              · rw [← ht]; exact hc
              · rw [← ht]
              · exact ht
            · have : c' = 2 := by rw [hcc, if_pos (by omega), h4, if_pos rfl]
              subst this
              exact ⟨[], [], none, [], ⟨0, r1, 0, hn, .inr (.inr (.inr ⟨rfl, rfl, size, r2, 0, h1, .inr (.inr ⟨rfl, by omega, s, r3, 0, h2, .inr (.inr ⟨rfl, hs1, hs2, .inr (.inl ⟨by omega, by rw [← ht]; exact hc, rfl, rfl, rfl, rfl, rfl⟩)⟩)⟩)⟩))⟩, fun h => by cases h⟩
      · have hs0 := numr_err h2 hc3
        have hu2 : upC s c3 (min size last.length) 2 = c3 := upC_had hs0 rfl
        rw [hu2] at h3
        have : c' = c3 := by
          rcases h3 with ⟨_, ho, _, h3⟩ | ⟨h, _⟩ | ⟨h, _⟩
          · rw [hcc, ht, hs0, upR_nought, List.take_zero, ho, h3]
            rw [if_neg]
            cases last <;> simp [com]
          · exact absurd h hc3
          · exact absurd h hc3
        subst this
        exact ⟨[], [], none, [], ⟨0, r1, 0, hn, .inr (.inr (.inr ⟨rfl, rfl, size, r2, 0, h1, .inr (.inr ⟨rfl, by omega, s, r3, c', h2, .inl ⟨hc3, rfl, rfl, rfl, rfl, rfl⟩⟩)⟩))⟩, fun h => absurd h hc3⟩
  · have hs0 := numr_err h1 hc2
    have hu : upC size c2 64 3 = c2 := upC_had hs0 rfl
    rw [hu] at h2
    obtain ⟨hs2, hc3⟩ := numr_had h2 hc2
    rw [upC_had hs2 hc3] at h3
    have : c' = c2 := by
      rcases h3 with ⟨_, ho, _, h3⟩ | ⟨h, _⟩ | ⟨h, _⟩
      · rw [hcc, ht, hs2, upR_nought, List.take_zero, ho, h3]
        rw [if_neg]
        cases last <;> simp [com]
      · exact absurd h hc2
      · exact absurd h hc2
    subst this
    exact ⟨[], [], none, [], ⟨0, r1, 0, hn, .inr (.inr (.inr ⟨rfl, rfl, size, r2, c', h1, .inl ⟨hc2, rfl, rfl, rfl, rfl, rfl⟩⟩))⟩, fun h => absurd h hc2⟩

theorem row_item {left n : Nat} {last rest r1 r2 : List Nat} {lk : Option Nat} {k c1 : Nat} (hn : NumRel rest 0 n r1 0) (h0 : 0 < n) (hl : n ≤ left) (hk : NumRel r1 0 k r2 c1) :
    ∃ cells last' row' rest', Item left last (rowO lk) rest cells last' row' rest' (rowC k c1 lk) ∧ (rowC k c1 lk = 0 → cells = List.replicate n (k, []) ∧ last' = last ∧ row' = some k ∧ rest' = r2 ∧ k ≠ 1) := by
  by_cases hu : upC k c1 3 1 = 0
  · obtain ⟨rfl, hk3, _⟩ := up_zero hu
    by_cases hb : k = 1 ∨ lk = some k
    · have hc : rowC k 0 lk = 2 := by unfold rowC; rw [if_neg (by simpa using hu), if_pos hb]
      rw [hc]
      refine ⟨[], [], none, [], ⟨n, r1, 0, hn, .inr (.inr (.inl ⟨rfl, h0, hl, k, r2, 0, hk, .inr (.inl ⟨by rw [within_up]; exact hu, ?_, rfl, rfl, rfl, rfl, rfl⟩)⟩))⟩, fun h => by cases h⟩
      rcases hb with hb | hb
      · exact .inl hb
      · by_cases h1 : k = 1
        · exact .inl h1
        · exact .inr ((rowO_iff h1).2 hb)
    · have hc : rowC k 0 lk = 0 := by unfold rowC; rw [if_neg (by simpa using hu), if_neg hb]
      have h1 : k ≠ 1 := fun h => hb (.inl h)
      rw [hc]
      exact ⟨List.replicate n (k, []), last, some k, r2, ⟨n, r1, 0, hn, .inr (.inr (.inl ⟨rfl, h0, hl, k, r2, 0, hk, .inr (.inr ⟨by rw [within_up]; exact hu, h1, fun h => hb (.inr ((rowO_iff h1).1 h)), rfl, rfl, rfl, rfl, rfl⟩)⟩))⟩, fun _ => ⟨rfl, rfl, rfl, rfl, h1⟩⟩
  · have hc : rowC k c1 lk = upC k c1 3 1 := by unfold rowC; rw [if_pos hu]
    rw [hc]
    exact ⟨[], [], none, [], ⟨n, r1, 0, hn, .inr (.inr (.inl ⟨rfl, h0, hl, k, r2, c1, hk, .inl ⟨by rw [within_up]; exact hu, rfl, rfl, rfl, rfl, by rw [within_up]⟩⟩))⟩, fun h => absurd h hu⟩

end Go.Proofs.YtpebmmhokigglaaGreatDoor

namespace Go.Proofs.YtpebmmhokigglaaGreatDoor
open Go.RowKit

theorem lastK_data (cs : List CC) (d : List Nat) : rowO (lastK (cs ++ [(1, d)])) = none := by simp [lastK, rowO]
theorem lastK_row (cs : List CC) {n k : Nat} (hn : 0 < n) (hk : k ≠ 1) : rowO (lastK (cs ++ List.replicate n (k, []))) = some k := by
  obtain ⟨m, rfl⟩ : ∃ m, n = m + 1 := ⟨n - 1, by omega⟩
  unfold lastK
  rw [List.replicate_succ', ← List.append_assoc, List.getLast?_append]
  simp [rowO, hk]

/-- What takeItem does. -/
def ItemPost (base t p : Nat) (rv : Value) (row : List Nat) (place : Nat) (cs : List CC) (last : List Nat) (left : Nat) (w : World) (e : Ending) (w' : World) : Prop :=
  ∃ (cells : List CC) (last' : List Nat) (row' : Option Nat) (rest' : List Nat) (c' place' : Nat) (rnv' lsv' : Value) (acc' : List (Int × Value)), e = .returned (.tuple #[]) ∧
    Item left last (rowO (lastK cs)) (row.drop place) cells last' row' rest' c' ∧ TkS w' base t p rv row place' c' rnv' lsv' acc' (if c' = 0 then cs ++ cells else cs) (if c' = 0 then last' else last) ∧
    (c' = 0 → rest' = row.drop place' ∧ row' = rowO (lastK (cs ++ cells)) ∧ last'.length ≤ 64 ∧ 0 < cells.length ∧ cells.length ≤ left) ∧ Gr base p w w'

set_option maxHeartbeats 2000000 in
set_option maxRecDepth 100000 in
theorem takeItem_any {w : World} {base t p : Nat} {rv rnv lsv : Value} {row : List Nat} {place : Nat} {acc : List (Int × Value)} {cs : List CC} {last : List Nat}
    (h : TkS w base t p rv row place 0 rnv lsv acc cs last) (left : Nat) (h0 : 0 < left) (hcs : cs.length + left ≤ 64) (hbase : base ≤ w.heap.size) (hll : last.length ≤ 64) :
    Calls Tryz.prog 92 #[.pointer (some ⟨t, 0, none⟩), .int .i64 (left : Int)] w (ItemPost base t p rv row place cs last left w) := by
  have e2 : Value.iface 68 (.int .i64 2) = errV 2 := (errV_pos (by decide)).symm
  have E2 := Lib.hid e2
  have H := Lib.hid h
  have HBS := Lib.hid hbase
  clear e2 h hbase
  go_enter Tryz.func92, Tryz.ntmps92
  go_wp2_with fail
  rw [E2.out]
  refine (upTo_any H.out.tk H.out.rd left 2 (by omega) (by decide)).mono ?_
  rintro e w1 ⟨n, pl1, c1, rfl, hn, hrd, hg⟩
  have HN := Lib.hid hn
  have H1 := Lib.hid (H.out.read hg hrd)
  have HG1 : Hid (Gr base p w w1) := Lib.hid (gr_grown hg HBS.out (fun j hj => .inl (by simpa using hj.symm)))
  have HB1 : Hid (base ≤ w1.heap.size) := Lib.hid (Nat.le_trans HBS.out hg.size)
  clear hn hrd hg H HBS
  obtain ⟨z, hz⟩ : ∃ z, z = upR n left := ⟨_, rfl⟩
  obtain ⟨d, hd⟩ : ∃ d, d = upC n c1 left 2 := ⟨_, rfl⟩
  rw [← hd] at H1
  rw [← hz]
  have hzl : z ≤ left := by rw [hz]; exact upR_le _ _
  have HZ := Lib.hid hz
  have HD := Lib.hid hd
  clear hz hd
  by_cases hz0 : z = 0
  · subst hz0
    go_wp2_with fail
    refine (takeData_any H1.out (by omega) HB1.out hll).mono ?_
    rintro e w2 ⟨text, pl2, c2, rnv2, lsv2, acc2, rfl, hrel, htk, hgr⟩
    have HG2 := Lib.hid (HG1.out.trans hgr)
    have HTK := Lib.hid htk
    have HREL := Lib.hid hrel
    clear hgr htk hrel
    go_wp2
    by_cases hd0 : d = 0
    · have hnl : ¬ left < n := by
        intro h
        have := HD.out
        unfold upC at this
        rw [if_pos h] at this
        split at this <;> omega
      have hc1 : c1 = 0 := by
        have := HD.out
        unfold upC at this
        rw [if_neg hnl] at this
        omega
      have hn0 : n = 0 := by
        have := HZ.out
        unfold upR at this
        rw [if_neg hnl] at this
        exact this.symm
      subst hc1 hn0 hd0
      obtain ⟨cells, last', row', rest', hitem, hz⟩ := data_item (left := left) (row := rowO (lastK cs)) HN.out hll HREL.out
      refine bodyPost_ret (results_none rfl _ _ _) rfl ⟨cells, last', row', rest', c2, pl2, rnv2, lsv2, acc2, rfl, hitem, ?_, fun h0c => ?_, HG2.out⟩
      · by_cases hc2 : c2 = 0
        · obtain ⟨h1, h2, _, _, _⟩ := hz hc2
          have := HTK.out
          rw [if_pos hc2, if_pos hc2] at this
          rw [if_pos hc2, if_pos hc2, h1, h2]
          exact this
        · have := HTK.out
          rw [if_neg hc2, if_neg hc2] at this
          rw [if_neg hc2, if_neg hc2]
          exact this
      · obtain ⟨h1, h2, h3, h4, h5⟩ := hz h0c
        rw [h1, h2, h3, h4, lastK_data]
        exact ⟨rfl, rfl, h5, by simp, by simp; omega⟩
    · have hc2 : c2 = d := data_had HREL.out hd0
      subst hc2
      have hitem : Item left last (rowO (lastK cs)) (row.drop place) [] [] none [] c2 := by
        by_cases hc1 : c1 = 0
        · subst hc1
          have hln : left < n := by
            by_cases h : left < n
            · exact h
            · have := HD.out
              unfold upC at this
              rw [if_neg h] at this
              exact absurd this hd0
          have : c2 = 2 := by rw [HD.out]; unfold upC; rw [if_pos hln, if_pos rfl]
          exact ⟨n, _, 0, HN.out, .inr (.inl ⟨rfl, hln, rfl, rfl, rfl, rfl, this⟩)⟩
        · have : c2 = c1 := by rw [HD.out]; exact upC_had (numr_err HN.out hc1) rfl
          exact ⟨n, _, c1, HN.out, .inl ⟨hc1, rfl, rfl, rfl, rfl, this⟩⟩
      refine bodyPost_ret (results_none rfl _ _ _) rfl ⟨[], [], none, [], c2, pl2, rnv2, lsv2, acc2, rfl, hitem, ?_, fun h => absurd h hd0, HG2.out⟩
      have := HTK.out
      rw [if_neg hd0, if_neg hd0] at this ⊢
      exact this
  · have hnl : ¬ left < n := by
      intro h
      have := HZ.out
      unfold upR at this
      rw [if_pos h] at this
      exact hz0 this
    have hzn : z = n := by rw [HZ.out]; unfold upR; rw [if_neg hnl]
    have hc1 : c1 = 0 := by
      by_cases h : c1 = 0
      · exact h
      · exact absurd (hzn.trans (numr_err HN.out h)) hz0
    have hd0 : d = 0 := by rw [HD.out, hc1]; unfold upC; rw [if_neg hnl]
    subst hc1 hd0 hzn
    have hzi : ((z : Int) == 0) = false := by rw [beq_eq_false_iff_ne]; omega
    go_wp2_with fail
    refine (takeRow_any H1.out z (by omega) HB1.out).mono ?_
    rintro e w2 ⟨k, c2, pl2, c3, rnv2, acc2, rfl, hk, hc3, htk, hgr⟩
    have HG2 := Lib.hid (HG1.out.trans hgr)
    have HTK := Lib.hid htk
    obtain ⟨cells, last', row', rest', hitem, hz⟩ := row_item (left := left) (last := last) (lk := lastK cs) HN.out (by omega) (by omega) hk
    rw [← hc3] at hitem hz
    have HIT := Lib.hid hitem
    have HZZ := Lib.hid hz
    clear hgr htk hk hc3 hitem hz
    go_wp2
    refine bodyPost_ret (results_none rfl _ _ _) rfl ⟨cells, last', row', rest', c3, pl2, rnv2, lsv, acc2, rfl, HIT.out, ?_, fun h0c => ?_, HG2.out⟩
    · by_cases hc : c3 = 0
      · obtain ⟨h1, h2, _, _, _⟩ := HZZ.out hc
        have := HTK.out
        rw [if_pos hc] at this
        rw [if_pos hc, if_pos hc, h1, h2]
        exact this
      · have := HTK.out
        rw [if_neg hc] at this
        rw [if_neg hc, if_neg hc]
        exact this
    · obtain ⟨h1, h2, h3, h4, h5⟩ := HZZ.out h0c
      rw [h1, h2, h3, h4, lastK_row cs (by omega) h5]
      exact ⟨rfl, rfl, hll, by simp; omega, by simp; omega⟩

end Go.Proofs.YtpebmmhokigglaaGreatDoor

namespace Go.Proofs.YtpebmmhokigglaaGreatDoor
open Go.RowKit

/-- What TakeRun answers. -/
def TRunPost (p : Nat) (rv : Value) (row : List Nat) (place c : Nat) (w : World) (e : Ending) (w' : World) : Prop :=
  ∃ (v' : Value) (run : List CC) (place' c' : Nat) (fin : List Nat), e = .returned v' ∧ TRun (row.drop place) c run c' fin ∧ Rd w' p rv row place' c' ∧ (c' = 0 → row.drop place' = fin) ∧ w.grownBy w' (some p) ∧
    CellsAt w' (fun j => w.heap.size ≤ j ∧ ∃ cs fr, w'.heap[j]? = some (.cells cs fr (0, 0))) v' (run.map toIC) ∧
    ∃ acc : List (Int × Value), OwnsI w' w.heap.size v' acc ∧ acc.length = run.length ∧ ∀ i, (hi : i < acc.length) → At w' (Own w' w.heap.size 5) .u8 acc[i].2 (run.getD i (0, [])).2

theorem TkS.cells {w : World} {base t p : Nat} {rv rnv lsv : Value} {row : List Nat} {place c : Nat} {acc : List (Int × Value)} {cs : List CC} {last : List Nat} (h : TkS w base t p rv row place c rnv lsv acc cs last) :
    CellsAt w (fun j => base ≤ j ∧ ∃ cs fr, w.heap[j]? = some (.cells cs fr (0, 0))) rnv (cs.map toIC) := by
  refine h.own.cells _ _ (by rw [List.length_map, h.len]) (fun j hj => ?_) (fun i hi => ?_)
  · obtain ⟨cs, hc⟩ := h.own.ty hj
    exact ⟨(h.own.lt j hj).1, cs, _, hc⟩
  · have hi2 : i < cs.length := by rw [← h.len]; exact hi
    obtain ⟨h1, h2⟩ := h.dat i hi
    rw [getD_toIC _ _ hi2]
    exact ⟨h1, h2.mono fun j _ hB => ⟨hB.1, hB.2.elim fun cs hc => ⟨cs, _, hc⟩⟩⟩

theorem Gr.grownBy {p : Nat} {w w' : World} (h : Gr w.heap.size p w w') : w.grownBy w' (some p) :=
  ⟨h.os, h.tape, h.output, h.size, fun j hj hp => h.block j hj (fun e => hp (by rw [e]))⟩
theorem stop_item {left : Nat} {last : List Nat} {row : Option Nat} {rest : List Nat} {a : List CC} {b : List Nat} {r : Option Nat} {d : List Nat} {c : Nat} (h0 : 0 < left) (h : Item left last row rest a b r d c) (hc : c ≠ 0) : TI left last row rest [] c [] := .stop h0 h hc

/-- A flag: no error. -/
def noErr : Value → Nat
  | .nilIface => 1
  | _ => 0

set_option maxHeartbeats 4000000 in
set_option maxRecDepth 100000 in
theorem takeRun_any {w : World} {p : Nat} {rv : Value} {row : List Nat} {place c : Nat} (hr : Rd w p rv row place c) :
    Calls Tryz.prog 52 #[.pointer (some ⟨p, 0, none⟩)] w (TRunPost p rv row place c w) := by
  have e3 : Value.iface 68 (.int .i64 3) = errV 3 := (errV_pos (by decide)).symm
  have E3 := Lib.hid e3
  clear e3
  obtain ⟨W0, hW0⟩ : ∃ W0, W0 = w.alloc (.cells #[.pointer (some ⟨p, 0, none⟩), .slice none 0 0, .slice none 0 0] 163) := ⟨_, rfl⟩
  have hb0 : Below w.heap.size w W0 := by rw [hW0]; exact (Below.refl _ _).alloc (Nat.le_refl _) _
  have htk : Tkr W0 w.heap.size p (.slice none 0 0) (.slice none 0 0) := by
    unfold Tkr
    rw [hW0]
    exact heap_alloc_new _ _
  have h0 : TkS W0 w.heap.size w.heap.size p rv row place c (.slice none 0 0) (.slice none 0 0) [] [] [] :=
    ⟨htk, hr.below hb0 (Nat.le_refl _), ownsI_nil _ _, rfl, fun i hi => by simp at hi, ⟨reads_none _ _, .inl rfl⟩, Nat.le_refl _⟩
  have H0 := Lib.hid h0
  have HG0 : Hid (Gr w.heap.size p w W0) := Lib.hid (gr_below hb0 (Nat.le_refl _))
  have HS0 : Hid (w.heap.size ≤ W0.heap.size) := Lib.hid hb0.size
  clear h0 htk hb0 hr
  go_enter Tryz.func52, Tryz.ntmps52
  go_wp2_with fail
  rw [← hW0, E3.out]
  refine (upTo_any H0.out.tk H0.out.rd 64 3 (by decide) (by decide)).mono ?_
  rintro e w1 ⟨n, pl1, c1, rfl, hn, hrd, hg⟩
  have HN := Lib.hid hn
  have H1 := Lib.hid (H0.out.read hg hrd)
  have HG1 : Hid (Gr w.heap.size p w w1) := Lib.hid (HG0.out.trans (gr_grown hg HS0.out (fun j hj => .inl (by simpa using hj.symm))))
  have HS1 : Hid (w.heap.size ≤ w1.heap.size) := Lib.hid (Nat.le_trans HS0.out hg.size)
  clear hn hrd hg H0 HG0 HS0 hW0
  obtain ⟨z, hz⟩ : ∃ z, z = upR n 64 := ⟨_, rfl⟩
  obtain ⟨d, hd⟩ : ∃ d, d = upC n c1 64 3 := ⟨_, rfl⟩
  rw [← hd] at H1
  rw [← hz]
  have hz64 : z ≤ 64 := by rw [hz]; exact upR_le _ _
  -- what the beginning says
  have HTOP : Hid ((d ≠ 0 → TRun (row.drop place) c [] d []) ∧ (d = 0 → z = n ∧ c1 = 0 ∧ n ≤ 64)) := Lib.hid (by
    refine ⟨fun h => ?_, fun h => ?_⟩
    · by_cases hc1 : c1 = 0
      · have h64 : 64 < n := by
          by_cases h6 : 64 < n
          · exact h6
          · rw [hd] at h; unfold upC at h; rw [if_neg h6] at h; exact absurd hc1 h
        have : d = 3 := by rw [hd]; unfold upC; rw [if_pos h64, if_pos hc1]
        exact ⟨n, _, c1, HN.out, .inr (.inl ⟨hc1, h64, rfl, this, rfl⟩)⟩
      · have : d = c1 := by rw [hd]; exact upC_had (numr_err HN.out hc1) rfl
        exact ⟨n, _, c1, HN.out, .inl ⟨hc1, rfl, this, rfl⟩⟩
    · have h6 : ¬ 64 < n := by
        intro h6
        rw [hd] at h; unfold upC at h; rw [if_pos h6] at h; split at h <;> omega
      exact ⟨by rw [hz]; unfold upR; rw [if_neg h6], by rw [hd] at h; unfold upC at h; rw [if_neg h6] at h; exact h, by omega⟩)
  have HFIX : Hid (d = 0 → ∀ run c2 fin, TI z [] none (row.drop pl1) run c2 fin → (c2 ≠ 0 → TRun (row.drop place) c [] c2 []) ∧ (c2 = 0 → TRun (row.drop place) c run 0 fin)) := Lib.hid (by
    intro h run c2 fin ht
    obtain ⟨h1, h2, h3⟩ := HTOP.out.2 h
    have hnn := HN.out
    rw [h2] at hnn
    rw [h1] at ht
    exact ⟨fun hc => ⟨n, _, 0, hnn, .inr (.inr ⟨rfl, h3, run, c2, fin, ht, rfl, by rw [if_neg hc], by rw [if_neg hc]⟩)⟩,
      fun hc => by subst hc; exact ⟨n, _, 0, hnn, .inr (.inr ⟨rfl, h3, run, 0, fin, ht, rfl, by rw [if_pos rfl], by rw [if_pos rfl]⟩)⟩⟩)
  have HZ64 := Lib.hid hz64
  clear hz hd hz64
  go_wp2
  go_loopw [] (fun wr => ∃ (pl cc : Nat) (rnv lsv : Value) (acc : List (Int × Value)) (cs : List CC) (last : List Nat), TkS wr w.heap.size w.heap.size p rv row pl cc rnv lsv acc cs last ∧ Gr w.heap.size p w wr ∧ w.heap.size ≤ wr.heap.size ∧
      last.length ≤ 64 ∧ cs.length ≤ z ∧ (cc ≠ 0 → TRun (row.drop place) c [] cc []) ∧
      (cc = 0 → d = 0 ∧ ∀ run c2 fin, TI (z - cs.length) last (rowO (lastK cs)) (row.drop pl) run c2 fin → TI z [] none (row.drop pl1) (cs ++ run) c2 fin))
    (fun wr => 2 * (64 - lenOf ((wr.cell? ⟨w.heap.size, 1, none⟩).getD .nilIface)) + noErr ((wr.cell? ⟨p, 2, none⟩).getD (.int .i64 0)))
  case atStart =>
    exact ⟨pl1, d, _, _, [], [], [], H1.out, HG1.out, HS1.out, by simp, by simp, HTOP.out.1, fun h => ⟨h, fun run c2 fin ht => ht⟩⟩
  case round =>
    obtain ⟨pl, cc, rnv, lsv, acc, cs, last, hS, hG, hsz, hll, hcl, herr, hti⟩ := hrel
    have HS := Lib.hid hS
    have HG := Lib.hid hG
    have HSZ := Lib.hid hsz
    have HLL := Lib.hid hll
    have HCL := Lib.hid hcl
    have HERR := Lib.hid herr
    have HTI := Lib.hid hti
    have HLEN : Hid (acc.length = cs.length) := Lib.hid hS.len
    have hacl : acc.length ≤ 64 := by have := HZ64.out; have := hS.len; omega
    obtain ⟨ao, cap, hv⟩ := hS.own.form
    subst hv
    have t0 := hS.tk.c0
    have t1 := hS.tk.c1
    have e2 := hS.rd.c2
    have HT1 := Lib.hid t1
    have HE2 := Lib.hid e2
    clear hS hG hsz hll hcl herr hti e2
    by_cases hc : cc = 0
    · subst hc
      by_cases hlt : (acc.length : Int) < (z : Int)
      · have hsub : IntKind.i64.wrap ((z : Int) - (acc.length : Int)) = ((z - acc.length : Nat) : Int) := by have := HZ64.out; rw [show ((z : Int) - (acc.length : Int)) = ((z - acc.length : Nat) : Int) by omega]; exact IntWalk.i64_in _ (by omega)
        go_wp2_with fail
        refine (err_any HS.out.rd).mono ?_
        rintro e w3 ⟨rfl, rfl⟩
        rw [errV_zero]
        go_wp2_with fail
        refine (takeItem_any HS.out (z - acc.length) (by omega) (by have := HZ64.out; have := HLEN.out; omega) HSZ.out HLL.out).mono ?_
        rintro e w3 ⟨cells, last', row', rest', c', place', rnv', lsv', acc', rfl, hitem, hS2, hz, hgr⟩
        have HS2 := Lib.hid hS2
        have HIT := Lib.hid hitem
        have HZ2 := Lib.hid hz
        have HGR := Lib.hid hgr
        have HLT := Lib.hid hlt
        clear hS2 hitem hz hgr hlt hsub t0 t1
        go_wp2
        go_roundw
        case rel =>
          have hl := HLEN.out
          have h64 := HZ64.out
          refine ⟨place', c', rnv', lsv', acc', _, _, HS2.out, HG.out.trans HGR.out, Nat.le_trans HSZ.out HGR.out.size, ?_, ?_, fun h0 => ?_, fun h0 => ?_⟩
          · by_cases h0 : c' = 0
            · rw [if_pos h0]; exact (HZ2.out h0).2.2.1
            · rw [if_neg h0]; exact HLL.out
          · by_cases h0 : c' = 0
            · rw [if_pos h0, List.length_append]; have := (HZ2.out h0).2.2.2.2; have := HLT.out; omega
            · rw [if_neg h0]; exact HCL.out
          · obtain ⟨hd, ht⟩ := HTI.out trivial
            have hlt := HLT.out
            have hh := HIT.out
            rw [hl] at hh
            have := stop_item (by omega) hh h0
            exact (HFIX.out hd _ _ _ (ht [] c' [] this)).1 h0
          · obtain ⟨hd, ht⟩ := HTI.out trivial
            subst h0
            obtain ⟨h1, h2, h3, h4, h5⟩ := HZ2.out rfl
            refine ⟨hd, fun run c2 fin hti => ?_⟩
            rw [if_pos rfl, if_pos rfl] at hti
            try rw [if_pos rfl]
            rw [List.append_assoc]
            refine ht _ _ _ ?_
            have hh := HIT.out
            rw [hl] at hh
            rw [h1, h2] at hh
            have hlt := HLT.out
            refine .more (by omega) hh ?_
            rw [show z - cs.length - cells.length = z - (cs ++ cells).length by rw [List.length_append]; omega]
            exact hti
        case measure =>
          have hl := HLEN.out
          have h64 := HZ64.out
          have hlt := HLT.out
          have hs2 := HS2.out
          rw [hs2.tk.c1, hs2.rd.c2, HT1.out, HE2.out]
          obtain ⟨ao2, cap2, hv2⟩ := hs2.own.form
          have hl2 := hs2.len
          rw [hv2]
          by_cases h0 : c' = 0
          · obtain ⟨_, _, _, h4, h5⟩ := HZ2.out h0
            rw [if_pos h0, List.length_append] at hl2
            subst h0
            simp only [Option.getD_some, errV_zero, lenOf, noErr]
            omega
          · rw [if_neg h0] at hl2
            simp only [Option.getD_some, errV_zero, errV_pos h0, lenOf, noErr]
            omega
      · have hze : acc.length = z := by have := HCL.out; have := HLEN.out; omega
        have HZE := Lib.hid hze
        clear hze
        go_wp2_with fail
        refine (err_any HS.out.rd).mono ?_
        rintro e w3 ⟨rfl, rfl⟩
        rw [errV_zero]
        go_wp2_with fail
        refine (err_any HS.out.rd).mono ?_
        rintro e w3 ⟨rfl, rfl⟩
        rw [errV_zero]
        go_wp2
        obtain ⟨hd, ht⟩ := HTI.out trivial
        have hrun := ht [] 0 (row.drop pl) (by
          rw [show z - cs.length = 0 by have := HZE.out; have := HLEN.out; omega]
          exact .over)
        rw [List.append_nil] at hrun
        exact bodyPost_ret (v := _) (by (simp [results, Tryz.results52, go_sem]; done)) rfl ⟨_, cs, pl, 0, row.drop pl, rfl, (HFIX.out hd _ _ _ hrun).2 rfl, HS.out.rd, fun _ => rfl, HG.out.grownBy, HS.out.cells, acc, HS.out.own, HS.out.len, fun i hi => (HS.out.dat i hi).2⟩
    · have HC := Lib.hid hc
      have hev := errV_pos hc
      clear hc
      go_wp2_with fail
      refine (err_any HS.out.rd).mono ?_
      rintro e w3 ⟨rfl, rfl⟩
      rw [hev]
      go_wp2_with fail
      refine (err_any HS.out.rd).mono ?_
      rintro e w3 ⟨rfl, rfl⟩
      rw [hev]
      go_wp2
      exact bodyPost_ret (v := _) (by (simp [results, Tryz.results52, go_sem]; done)) rfl ⟨_, [], pl, cc, [], rfl, HERR.out HC.out, HS.out.rd, fun h => absurd h HC.out, HG.out.grownBy, cells_nil _ _, [], ownsI_nil _ _, rfl, fun i hi => by simp at hi⟩

end Go.Proofs.YtpebmmhokigglaaGreatDoor

namespace Go.Proofs.YtpebmmhokigglaaGreatDoor
open Go.RowKit

end Go.Proofs.YtpebmmhokigglaaGreatDoor
