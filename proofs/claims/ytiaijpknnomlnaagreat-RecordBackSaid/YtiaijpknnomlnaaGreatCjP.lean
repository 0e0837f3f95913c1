/- The contract of package cell's Put; the fixed fact at the head of the cell statements. · The fixed fact at the head of the cell statements: the chapter's examples. · The contracts of package cell's checkRun, alikeBytes, alikeCells, dataItem. · The contracts of package cell's alikeCells, dataItem. -/
import Derived.Test.YtiaijpknnomlnaaGreatCgP
import Derived.Test.YtiaijpknnomlnaaGreatPrA
import Derived.Test.YtiaijpknnomlnaaGreatGrowA
import Derived.Lib.SlBytesConst
namespace Go.Proofs.YtiaijpknnomlnaaGreat
open Go.RowKit

theorem reads_none (w : World) (k : IntKind) : Reads w k (.slice none 0 0) [] := ⟨none, 0, rfl, by simp, by simp [maxLen], by simp, .inl rfl⟩

/-- What Put answers. -/
def CPut (b : List Nat) (k : Int) (d : List Nat) (w : World) (e : Ending) (w' : World) : Prop :=
  ∃ v' out, e = .returned (.tuple #[v', errV (chk k d.length)]) ∧ Owns w' w.heap.size 5 .u8 v' out ∧ out = (if chk k d.length = 0 then b ++ cbytes (k.toNat, d) else []) ∧ Below w.heap.size w w'

theorem cbytes_pos (c : CC) : 0 < (cbytes c).length := by
  unfold cbytes
  split
  · rw [List.length_append]; have := enc_pos 1; omega
  · exact enc_pos _

set_option maxHeartbeats 1000000 in
set_option maxRecDepth 100000 in
theorem cput_any (bv v : Value) (b : List Nat) (k : Int) (d : List Nat) (w : World) (hb : Reads w .u8 bv b) (hr : Reads w .u8 v d) (hx : b.length ≤ 60000000000000) :
    Calls Tryz.prog 45 #[bv, .agg #[.int .i64 k, v]] w (CPut b k d w) := by
  obtain ⟨ao, cap, rfl, _, _, _⟩ := hr.val
  obtain ⟨aob, capb, rfl, _, _, _⟩ := hb.val
  have hb0 : Below w.heap.size w (w.alloc (.cells #[.int .i64 k, .slice ao d.length cap] 99)) := (Below.refl _ _).alloc (Nat.le_refl _) _
  have hx0 := heap_alloc_new w (.cells #[.int .i64 k, .slice ao d.length cap] 99)
  obtain ⟨W0, hW0⟩ : ∃ W0, W0 = w.alloc (.cells #[.int .i64 k, .slice ao d.length cap] 99) := ⟨_, rfl⟩
  rw [← hW0] at hb0 hx0
  have HR := Lib.hid (hr.new hb0)
  have HRB := Lib.hid (hb.new hb0)
  have HB0 := Lib.hid hb0
  have HX0 := Lib.hid hx0
  clear hb hr hb0 hx0
  go_enter Tryz.func45, Tryz.ntmps45
  go_wp2_with fail
  rw [← hW0]
  refine (check_any k _ d W0 HR.out).mono ?_
  rintro e w1 ⟨rfl, hb1⟩
  have HB1 : Hid (Below w.heap.size w w1) := Lib.hid (HB0.out.trans (hb1.mono HB0.out.size))
  have HX1 := Lib.hid ((hb1.block _ (Array.getElem?_eq_some_iff.1 HX0.out).1).trans HX0.out)
  have HR1 := Lib.hid (HR.out.new hb1)
  have HRB1 := Lib.hid (HRB.out.new hb1)
  clear hb1 HX0 HB0 HR HRB hW0
  obtain ⟨a0, a1, _, _⟩ := blk2 HX1.out
  by_cases hc : chk k d.length = 0
  · obtain ⟨k0, k3, hd64, hk1⟩ := chk_zero hc
    obtain ⟨n, rfl⟩ : ∃ n : Nat, k = (n : Int) := ⟨k.toNat, by omega⟩
    have hwr : IntKind.u64.wrap (n : Int) = (n : Int) := by
      have : n = 0 ∨ n = 1 ∨ n = 2 ∨ n = 3 := by omega
      rcases this with rfl | rfl | rfl | rfl <;> rfl
    rw [hc, errV_zero]
    have hun : ∀ x ∈ [n], U64 x := by
      intro x hx
      rw [List.mem_singleton.1 hx]
      unfold U64; omega
    have HC := Lib.hid hc
    have HK1 := Lib.hid hk1
    clear hc hk1
    go_wp2_with fail
    refine (put_any _ _ [] [n] _ (reads_none _ _) (reads_new w1 .u64 78 n) hun (by simp)).mono ?_
    rintro e w2 ⟨v2, rfl, ho2, hb2⟩
    have hb2' : Below w1.heap.size w1 w2 := ((Below.refl _ _).alloc (Nat.le_refl _) _).trans (hb2.mono (by simp))
    have HB2 : Hid (Below w.heap.size w w2) := Lib.hid (HB1.out.trans (hb2'.mono HB1.out.size))
    have HX2 := Lib.hid ((hb2'.block _ (Array.getElem?_eq_some_iff.1 HX1.out).1).trans HX1.out)
    have HR2 := Lib.hid (HR1.out.new hb2')
    have HRB2 := Lib.hid (HRB1.out.new hb2')
    have HO2 : Hid (Owns w2 (w1.heap.size + 1) 5 .u8 v2 (enc n)) := Lib.hid (by simpa [encs] using ho2)
    clear hb2 hb2' ho2 HB1 HX1 HR1 HRB1 a0 a1
    obtain ⟨a0, a1, _, _⟩ := blk2 HX2.out
    by_cases hn1 : n = 1
    · subst hn1
      go_wp2_with fail
      refine (putText_any v2 _ (enc 1) d w2 HO2.out.reads HR2.out (by have := enc_len10 (n := 1) (by unfold U64; omega); omega)).mono ?_
      rintro e w3 ⟨v3, rfl, ho3, hb3⟩
      have hcb : enc 1 ++ enc d.length ++ d = cbytes (1, d) := by unfold cbytes; rw [if_pos rfl, List.append_assoc]
      rw [hcb] at ho3
      obtain ⟨ao3, cap3, rfl, _, _, _⟩ := ho3.reads.val
      have HO3 := Lib.hid ho3.reads
      have HRB3 := Lib.hid (HRB2.out.new hb3)
      have HB3 := Lib.hid (HB2.out.trans (hb3.mono HB2.out.size))
      have hcl : (cbytes (1, d)).length ≤ 1000 := by
        have h1 := enc_len10 (n := 1) (by unfold U64; omega)
        have h2 := enc_len10 (n := d.length) (by unfold U64; omega)
        have e : (cbytes (1, d)).length = (enc 1).length + ((enc d.length).length + d.length) := by unfold cbytes; rw [if_pos rfl, List.length_append, List.length_append]
        omega
      clear ho3 hb3 HR2 HRB2 HO2 HX2 HB2 a0 a1
      have hpos := cbytes_pos (1, d)
      generalize hcbs : cbytes (1, d) = cb at hcl hpos HO3
      have HCB := Lib.hid hcbs
      clear hcbs hcb
      go_wp2_with fail
      refine (concat_any _ [b, cb] (b ++ cb) _ _ (txs_two w3 _ _ _ b cb HRB3.out HO3.out) (by simp) (by rw [List.length_append]; omega) (by rw [List.length_append]; omega) (by simp)).mono ?_
      rintro e w4 ⟨v4, rfl, ho4, hb4⟩
      have HO4 : Hid (Owns w4 w.heap.size 5 .u8 v4 (b ++ cb)) := Lib.hid (ho4.mono (by have := HB3.out.size; simp; omega))
      have HB4 : Hid (Below w.heap.size w w4) := Lib.hid ((HB3.out.alloc HB3.out.size _).trans (hb4.mono (by have := HB3.out.size; simp; omega)))
      clear ho4 hb4
      go_wp2
      go_ret2
      exact ⟨_, b ++ cb, by rw [HC.out]; rfl, HO4.out, by rw [if_pos HC.out, ← HCB.out]; rfl, HB4.out⟩
    · have hn1i : ((n : Int) == 1) = false := by rw [beq_eq_false_iff_ne]; omega
      have hcb : enc n = cbytes (n, d) := by unfold cbytes; rw [if_neg hn1]
      obtain ⟨ao3, cap3, rfl, _, _, _⟩ := HO2.out.reads.val
      have HO3 : Hid (Reads w2 .u8 (.slice ao3 (enc n).length cap3) (enc n)) := Lib.hid HO2.out.reads
      have hcl : (enc n).length ≤ 1000 := by have := enc_len10 (n := n) (by unfold U64; omega); omega
      have hpos := enc_pos n
      clear HR2 HO2 HX2
      generalize hcbs : enc n = cb at hcl hpos HO3 hcb
      have HCB := Lib.hid hcb
      clear hcbs hcb hn1
      go_wp2_with fail
      refine (concat_any _ [b, cb] (b ++ cb) _ _ (txs_two w2 _ _ _ b cb HRB2.out HO3.out) (by simp) (by rw [List.length_append]; omega) (by rw [List.length_append]; omega) (by simp)).mono ?_
      rintro e w4 ⟨v4, rfl, ho4, hb4⟩
      have HO4 : Hid (Owns w4 w.heap.size 5 .u8 v4 (b ++ cb)) := Lib.hid (ho4.mono (by have := HB2.out.size; simp; omega))
      have HB4 : Hid (Below w.heap.size w w4) := Lib.hid ((HB2.out.alloc HB2.out.size _).trans (hb4.mono (by have := HB2.out.size; simp; omega)))
      clear ho4 hb4
      go_wp2
      go_ret2
      exact ⟨_, b ++ cb, by rw [HC.out]; rfl, HO4.out, by rw [if_pos HC.out, HCB.out]; rfl, HB4.out⟩
  · have HC := Lib.hid hc
    have he := errV_pos hc
    rw [he]
    go_wp2
    go_ret2
    exact ⟨_, [], by rw [he]; rfl, owns_nil _ _ _ _, by rw [if_neg HC.out], HB1.out⟩

end Go.Proofs.YtiaijpknnomlnaaGreat

namespace Go.Proofs.YtiaijpknnomlnaaGreat
open Go.RowKit

/-- A row of a text that is written out. -/
theorem reads_marked (w : World) (e : TypeId) (k : IntKind) (l : List Nat) (cs : Array Value) (fr : Nat × Nat) (hc : cs.toList = vals k l) (hm : l.length ≤ maxLen) :
    Reads (w.alloc (.cells cs e fr)) k (.slice (some ⟨w.heap.size, 0, none⟩) l.length l.length) l :=
  ⟨_, _, rfl, Nat.le_refl _, hm, by simp, .inr ⟨w.heap.size, 0, rfl, by simp, fun i hi => by
    rw [Nat.zero_add, World.cell?_alloc_mark, ← Array.getElem?_toList, hc, vals_get k l i hi]⟩⟩

theorem cb_hole : cbytes (2, []) = [2] := by unfold cbytes; rw [if_neg (by decide), enc_small (by decide)]
theorem cb_ab : cbytes (1, [97, 98]) = [1, 2, 97, 98] := by unfold cbytes; rw [if_pos rfl, enc_small (by decide), enc_small (by decide)]; rfl

end Go.Proofs.YtiaijpknnomlnaaGreat

namespace Go.Proofs.YtiaijpknnomlnaaGreat
open Go.RowKit

theorem com_comm : ∀ a b, com a b = com b a
  | [], [] => rfl
  | [], _ :: _ => rfl
  | _ :: _, [] => rfl
  | x :: a, y :: b => by
    unfold com
    by_cases h : x = y
    · rw [if_pos h, if_pos h.symm, com_comm a b]
    · rw [if_neg h, if_neg (fun e => h e.symm)]

/-- A run's first error. -/
def chkRun (cs : List IC) : Nat := if 64 < cs.length then 3 else (cs.map fun c => chk c.1 c.2.length).foldr (fun e r => if e = 0 then r else e) 0

theorem fold_zero {l : List Nat} (h : ∀ e ∈ l, e = 0) (r : List Nat) : (l ++ r).foldr (fun e r => if e = 0 then r else e) 0 = r.foldr (fun e r => if e = 0 then r else e) 0 := by
  induction l with
  | nil => rfl
  | cons x l ih =>
    rw [List.cons_append, List.foldr_cons, if_pos (h x (by simp))]
    exact ih fun e he => h e (by simp [he])
theorem chkRun_stop {cs : List IC} {k : Nat} (hl : cs.length ≤ 64) (hk : k < cs.length) (h : ∀ c ∈ cs.take k, chk c.1 c.2.length = 0) (hc : chk (cs.getD k (0, [])).1 (cs.getD k (0, [])).2.length ≠ 0) : chkRun cs = chk (cs.getD k (0, [])).1 (cs.getD k (0, [])).2.length := by
  unfold chkRun
  rw [if_neg (by omega)]
  have e : cs = cs.take k ++ (cs.getD k (0, []) :: cs.drop (k + 1)) := by
    conv => lhs; rw [← List.take_append_drop k cs]
    congr 1
    rw [List.drop_eq_getElem_cons hk]
    simp [List.getD, hk]
  conv => lhs; rw [e]
  rw [List.map_append, fold_zero (by intro x hx; obtain ⟨c, hc, rfl⟩ := List.mem_map.1 hx; exact h c hc), List.map_cons, List.foldr_cons, if_neg hc]
theorem chkRun_zero {cs : List IC} (h : chkRun cs = 0) : cs.length ≤ 64 ∧ ∀ c ∈ cs, chk c.1 c.2.length = 0 := by
  unfold chkRun at h
  split at h
  · cases h
  · refine ⟨by omega, ?_⟩
    induction cs with
    | nil => simp
    | cons x l ih =>
      rw [List.map_cons, List.foldr_cons] at h
      split at h
      · next h0 =>
        intro c hc
        rcases List.mem_cons.1 hc with rfl | hc
        · exact h0
        · exact ih (by simp at *; omega) h c hc
      · next h0 => exact absurd h h0
theorem chkRun_good {cs : List IC} (hl : cs.length ≤ 64) (h : ∀ c ∈ cs, chk c.1 c.2.length = 0) : chkRun cs = 0 := by
  unfold chkRun
  rw [if_neg (by omega)]
  have := fold_zero (l := cs.map fun c => chk c.1 c.2.length) (by intro x hx; obtain ⟨c, hc, rfl⟩ := List.mem_map.1 hx; exact h c hc) []
  rw [List.append_nil] at this
  exact this

end Go.Proofs.YtiaijpknnomlnaaGreat

namespace Go.Proofs.YtiaijpknnomlnaaGreat
open Go.RowKit

/-- A cell without an error, as the program has it; and back. -/
def toIC (c : CC) : IC := ((c.1 : Int), c.2)
def toCC (c : IC) : CC := (c.1.toNat, c.2)
theorem toIC_toCC {c : IC} (h : 0 ≤ c.1) : toIC (toCC c) = c := by
  obtain ⟨k, d⟩ := c
  have h' : 0 ≤ k := h
  show ((k.toNat : Int), d) = (k, d)
  rw [Int.toNat_of_nonneg h']
theorem okC_toCC {c : IC} (h : chk c.1 c.2.length = 0) (h8 : ∀ y ∈ c.2, y < 256) : okC (toCC c) := by
  obtain ⟨a, b, l, n⟩ := chk_zero h
  refine ⟨by show c.1.toNat ≤ 3; omega, l, fun hk => List.length_eq_zero_iff.1 (n (fun e => hk ?_)), h8⟩
  show c.1.toNat = 1
  omega
theorem run_toCC {cs : List IC} (h : ∀ c ∈ cs, chk c.1 c.2.length = 0) : cs = (cs.map toCC).map toIC := by
  rw [List.map_map]
  conv => lhs; rw [← List.map_id cs]
  exact List.map_congr_left fun c hc => (toIC_toCC (chk_zero (h c hc)).1).symm

theorem lead_step {k : Nat} {r : List CC} {n : Nat} (hn : n < r.length) (h : ∀ c ∈ r.take n, c.1 = k) (hc : (r.getD n (0, [])).1 ≠ k) : lead k r = n := by
  induction r generalizing n with
  | nil => simp at hn
  | cons c r ih =>
    unfold lead
    match n with
    | 0 => rw [if_neg (by simpa using hc)]
    | n + 1 =>
      have h0 : c.1 = k := h c (by simp)
      rw [if_pos h0, ih (n := n) (by simpa using hn) (fun c hc => h c (by simp [hc])) (by simpa using hc)]
theorem lead_all {k : Nat} {r : List CC} (h : ∀ c ∈ r, c.1 = k) : lead k r = r.length := by
  induction r with
  | nil => rfl
  | cons c r ih =>
    unfold lead
    rw [if_pos (h c (by simp)), ih fun c hc => h c (by simp [hc])]
    rfl

theorem getD_toIC (r : List CC) (i : Nat) (h : i < r.length) : (r.map toIC).getD i (0, []) = toIC (r.getD i (0, [])) := by
  simp [List.getD, h]
theorem take_snocC (l : List CC) (k : Nat) (h : k < l.length) : l.take (k + 1) = l.take k ++ [l.getD k (0, [])] := by
  rw [List.take_add_one, List.getElem?_eq_getElem h]; simp [List.getD, List.getElem?_eq_getElem h]

theorem below_dN {B : Nat} {a w : World} {n : Nat} (h : Below B a w) : Below B a (w.drewN n) := ⟨h.os, h.tape, h.output, h.size, h.block⟩

end Go.Proofs.YtiaijpknnomlnaaGreat
