/- Two arrays of numbers, compared; a row of slices that is owned. · Manifests: the mathematics. Which manifests there are, their bytes, which bytes are one, there and back. · Structs and arrays that are loaded and stored whole, wherever they lie in a block; boxes of manifests and of parts. -/
import Derived.Test.YtgnalcobcdgnkaaGreatDoorQc
import Derived.Test.YtgnalcobcdgnkaaGreatDoorStepA
import Derived.Test.YtgnalcobcdgnkaaGreatDoorFbP
import Derived.Laws.StructEq
import Derived.Test.YtgnalcobcdgnkaaGreatDoorRqP
import Derived.Test.YtgnalcobcdgnkaaGreatDoorRecP
import Derived.Laws.Rows
import Derived.Laws.CopyRow
namespace Go.Proofs.YtgnalcobcdgnkaaGreatDoor
open Go.RowKit

theorem all_range_nat : ∀ (xs ys : List Nat), xs.length = ys.length → ((List.range xs.length).all fun i => xs.getD i 0 == ys.getD i 0) = (xs == ys)
  | [], [], _ => rfl
  | x :: xs, y :: ys, h => by
    have ih := all_range_nat xs ys (by simpa using h)
    rw [List.length_cons, List.range_succ_eq_map, List.all_cons, List.all_map]
    simp only [List.getD_cons_zero, Function.comp_def, List.getD_cons_succ, ih]
    simp [List.cons_beq_cons]
  | [], _ :: _, h => by simp at h
  | _ :: _, [], h => by simp at h

theorem equalIn_nums {P : Program} {k : IntKind} {t e : TypeId} {n : Nat} (ht : P.underlying t = some (.array n e)) (he : P.underlying e = some (.int k)) (hsz : ∀ w, (sizeOf e).run P w = .ok 1 w)
    (xs ys : List Nat) (hx : xs.length = n) (hy : ys.length = n) (w : World) :
    (Op.equalIn 10000 t (.agg (vals k xs).toArray) (.agg (vals k ys).toArray)).run P w = .ok (xs == ys) w := by
  show (Op.equalIn (9998 + 2) t (.agg (vals k xs).toArray) (.agg (vals k ys).toArray)).run P w = .ok (xs == ys) w
  generalize 9998 = d
  rw [← all_range_nat xs ys (hx.trans hy.symm), hx, List.range_eq_range', Op.equalIn]
  simp only [Sem.run_bind, run_underlying ht, Result.andThen_ok, hsz, Std.Legacy.Range.forIn_eq_forIn_range', Std.Legacy.Range.size, Nat.sub_zero, Nat.add_sub_cancel, Nat.div_one]
  have hl : ∀ i ∈ List.range' 0 n 1, i < n := fun i hi => by simpa using (List.mem_range'_1.1 hi).2
  generalize List.range' 0 n 1 = l at hl ⊢
  induction l with
  | nil => simp
  | cons i l ih =>
    have hi : i < n := hl i (by simp)
    have pt : ∀ zs : List Nat, zs.length = n → (part e (vals k zs).toArray (i * 1)).run P w = .ok (.int k ((zs.getD i 0 : Nat) : Int)) w := fun zs hz => by
      have := vals_get k zs i (by omega)
      simp [part, isAgg, run_underlying he, this]
    have pe : (Op.equalIn (d + 1) e (.int k ((xs.getD i 0 : Nat) : Int)) (.int k ((ys.getD i 0 : Nat) : Int))).run P w = .ok (xs.getD i 0 == ys.getD i 0) w := by
      rw [run_equalIn_int w d e k k _ _ he]
      congr 1
      rw [Bool.eq_iff_iff]
      simp only [beq_iff_eq]
      omega
    simp only [List.forIn_cons, Sem.run_bind, pt xs hx, pt ys hy, pe, Result.andThen_ok, List.all_cons]
    cases hb : (xs.getD i 0 == ys.getD i 0)
    · simp
    · simp only [Bool.not_true, Bool.false_eq_true, if_false, Sem.run_pure, Result.andThen_ok, Bool.true_and]
      exact ih fun j hj => hl j (by simp [hj])

/-- Values that each read as bytes. -/
def AllR (w : World) (xs : List Value) (ls : List (List Nat)) : Prop := ls.length = xs.length ∧ ∀ i x, xs[i]? = some x → Reads w .u8 x (ls.getD i [])
theorem AllR.nil (w : World) : AllR w [] [] := ⟨rfl, fun i x h => by simp at h⟩
end Go.Proofs.YtgnalcobcdgnkaaGreatDoor

namespace Go.Proofs.YtgnalcobcdgnkaaGreatDoor
open Go.RowKit

/-- A part: its first address, how many cells, how many bytes, their digest. -/
abbrev PT := Int × Int × Int × List Nat
/-- A manifest. -/
structure MF where
  num : Int
  fro : Int
  upto : Int
  trim : Int
  prev : List Nat
  ps : List PT

def zero32 : List Nat := List.replicate 32 0
def mf0 : MF := ⟨0, 0, 0, 0, zero32, []⟩
/-- The numbers of a digest that it has 32 bytes. -/
def Dg (l : List Nat) : Prop := l.length = 32 ∧ ∀ y ∈ l, y < 256
theorem dg_zero : Dg zero32 := ⟨by simp [zero32], by intro y hy; rw [(List.mem_replicate.1 hy).2]; decide⟩
structure MOk (m : MF) : Prop where
  prev : Dg m.prev
  ps : ∀ p ∈ m.ps, Dg p.2.2.2
/-- An error's number of a part that is to begin at an address. -/
def partC (x : Int) (p : PT) : Nat := if p.2.1 < 1 ∨ 64 < p.2.1 ∨ p.2.2.1 < 1 ∨ 65536 < p.2.2.1 then 1 else if p.1 ≠ x then 2 else 0
/-- The same of all parts. -/
def partsC (e : Int) : Int → List PT → Nat
  | x, [] => if x = e then 0 else 2
  | x, p :: r => if partC x p ≠ 0 then partC x p else partsC e (x + p.2.1) r
def outM (x : Int) : Prop := x < 0 ∨ 1048576 < x
instance (x : Int) : Decidable (outM x) := by unfold outM; exact inferInstance
/-- An error's number of a manifest. -/
def mchk (m : MF) : Nat :=
  if (m.num < 0 ∨ 999999 < m.num) ∨ outM m.fro ∨ outM m.upto ∨ outM m.trim then 1 else
    if m.upto < m.fro ∨ (m.num = 0 ∧ m.prev ≠ zero32) then 2 else if 1024 < m.ps.length then 3 else partsC m.upto m.fro m.ps

theorem partC_zero {x : Int} {p : PT} (h : partC x p = 0) : 1 ≤ p.2.1 ∧ p.2.1 ≤ 64 ∧ 1 ≤ p.2.2.1 ∧ p.2.2.1 ≤ 65536 ∧ p.1 = x := by
  unfold partC at h
  split at h
  · cases h
  · split at h
    · cases h
    · rename_i h1 h2
      exact ⟨by omega, by omega, by omega, by omega, Classical.not_not.1 h2⟩
theorem partC_good {x : Int} {p : PT} (h : 1 ≤ p.2.1 ∧ p.2.1 ≤ 64 ∧ 1 ≤ p.2.2.1 ∧ p.2.2.1 ≤ 65536 ∧ p.1 = x) : partC x p = 0 := by
  unfold partC
  rw [if_neg (by omega), if_neg (fun c => c h.2.2.2.2)]
theorem mchk_zero {m : MF} (h : mchk m = 0) : ((0 ≤ m.num ∧ m.num ≤ 999999) ∧ (0 ≤ m.fro ∧ m.fro ≤ 1048576) ∧ (0 ≤ m.upto ∧ m.upto ≤ 1048576) ∧ (0 ≤ m.trim ∧ m.trim ≤ 1048576)) ∧ m.fro ≤ m.upto ∧ ¬ (m.num = 0 ∧ m.prev ≠ zero32) ∧ m.ps.length ≤ 1024 ∧ partsC m.upto m.fro m.ps = 0 := by
  unfold mchk outM at h
  split at h
  · cases h
  split at h
  · cases h
  split at h
  · cases h
  · rename_i h1 h2 h3
    exact ⟨⟨by omega, by omega, by omega, by omega⟩, by omega, fun c => h2 (.inr c), by omega, h⟩
/-- All parts of a right manifest. -/
theorem parts_zero {e : Int} : ∀ {ps : List PT} {x : Int}, partsC e x ps = 0 → ∀ p ∈ ps, (1 ≤ p.2.1 ∧ p.2.1 ≤ 64) ∧ 1 ≤ p.2.2.1 ∧ p.2.2.1 ≤ 65536
  | [], _, _ => by simp
  | p :: r, x, h => by
    unfold partsC at h
    by_cases h1 : partC x p ≠ 0
    · rw [if_pos h1] at h; exact absurd h h1
    · rw [if_neg h1] at h
      have hp := partC_zero (Classical.not_not.1 h1)
      intro q hq
      rcases List.mem_cons.1 hq with rfl | hq
      · exact ⟨⟨hp.1, hp.2.1⟩, hp.2.2.1, hp.2.2.2.1⟩
      · exact parts_zero h q hq

/-- A part's bytes. -/
def pttext (p : PT) : List Nat := encs [p.2.1.toNat, p.2.2.1.toNat] ++ p.2.2.2
/-- A manifest's head's bytes. -/
def mhead (m : MF) : List Nat := encs [m.num.toNat, m.fro.toNat, m.upto.toNat, m.trim.toNat] ++ m.prev
/-- A manifest's text. -/
def mtext (m : MF) : List Nat := mhead m ++ encs [m.ps.length] ++ (m.ps.map pttext).flatten

theorem pttext_len {p : PT} (h : (1 ≤ p.2.1 ∧ p.2.1 ≤ 64) ∧ 1 ≤ p.2.2.1 ∧ p.2.2.1 ≤ 65536) (hd : Dg p.2.2.2) : (pttext p).length ≤ 52 ∧ ∀ y ∈ pttext p, y < 256 := by
  have h64 : ∀ n ∈ [p.2.1.toNat, p.2.2.1.toNat], U64 n := by
    intro n hn
    simp only [List.mem_cons, List.not_mem_nil, or_false] at hn
    unfold U64
    rcases hn with rfl | rfl <;> omega
  have e1 := encs_len h64
  have := hd.1
  unfold pttext
  refine ⟨?_, app_byte (encs_u64 h64) hd.2⟩
  rw [List.length_append]
  simp only [List.length_cons, List.length_nil] at e1
  omega
theorem ptflat_len : ∀ {ps : List PT}, (∀ p ∈ ps, ((1 ≤ p.2.1 ∧ p.2.1 ≤ 64) ∧ 1 ≤ p.2.2.1 ∧ p.2.2.1 ≤ 65536) ∧ Dg p.2.2.2) → ((ps.map pttext).flatten).length ≤ 52 * ps.length ∧ ∀ y ∈ (ps.map pttext).flatten, y < 256
  | [], _ => ⟨Nat.le_refl _, by simp⟩
  | c :: r, h => by
    obtain ⟨h1, h2⟩ := pttext_len (h c (by simp)).1 (h c (by simp)).2
    obtain ⟨h3, h4⟩ := ptflat_len (ps := r) fun d hd => h d (by simp [hd])
    rw [List.map_cons, List.flatten_cons]
    exact ⟨by rw [List.length_append, List.length_cons]; omega, app_byte h2 h4⟩
theorem mhead_len {m : MF} (h : mchk m = 0) (hm : MOk m) : (mhead m).length ≤ 72 ∧ ∀ y ∈ mhead m, y < 256 := by
  obtain ⟨⟨h1, h2, h3, h4⟩, _⟩ := mchk_zero h
  have h64 : ∀ n ∈ [m.num.toNat, m.fro.toNat, m.upto.toNat, m.trim.toNat], U64 n := by
    intro n hn
    simp only [List.mem_cons, List.not_mem_nil, or_false] at hn
    unfold U64
    rcases hn with rfl | rfl | rfl | rfl <;> omega
  have e1 := encs_len h64
  have := hm.prev.1
  unfold mhead
  refine ⟨?_, app_byte (encs_u64 h64) hm.prev.2⟩
  rw [List.length_append]
  simp only [List.length_cons, List.length_nil] at e1
  omega
theorem mlen_len {n : Nat} (h : n ≤ 1024) : (encs [n]).length ≤ 10 ∧ ∀ y ∈ encs [n], y < 256 := by
  have h64 : ∀ x ∈ [n], U64 x := by
    intro x hx
    rw [List.mem_singleton.1 hx]
    unfold U64; omega
  exact ⟨encs_len h64, encs_u64 h64⟩
theorem mtext_len {m : MF} (h : mchk m = 0) (hm : MOk m) : (mtext m).length ≤ 60000 ∧ ∀ y ∈ mtext m, y < 256 := by
  obtain ⟨_, _, _, hl, hp⟩ := mchk_zero h
  obtain ⟨a1, a2⟩ := mhead_len h hm
  obtain ⟨b1, b2⟩ := mlen_len hl
  obtain ⟨c1, c2⟩ := ptflat_len (ps := m.ps) fun p hq => ⟨parts_zero hp p hq, hm.ps p hq⟩
  unfold mtext
  exact ⟨by rw [List.length_append, List.length_append]; omega, app_byte (app_byte a2 b2) c2⟩

/-- What is taken for a digest. -/
def dig (out : List Nat) : List Nat := out ++ List.replicate (32 - out.length) 0
theorem dig_full {l : List Nat} (h : l.length = 32) : dig l = l := by unfold dig; rw [h]; simp
/-- So many parts that bytes begin with. -/
def TPs : Nat → List Nat → Nat → List (Nat × Nat × List Nat) → List Nat → Nat → Prop
  | 0, rest, c, ls, fin, c' => ls = [] ∧ fin = rest ∧ c' = c
  | n + 1, rest, c, ls, fin, c' => (c ≠ 0 ∧ ls = [] ∧ fin = rest ∧ c' = c) ∨ (c = 0 ∧ ∃ (m : Nat) (r1 : List Nat) (c1 : Nat) (s : Nat) (r2 : List Nat) (c2 : Nat) (out r3 : List Nat) (c3 : Nat) (l1 : List (Nat × Nat × List Nat)),
      NumRel rest 0 m r1 c1 ∧ NumRel r1 (withinC m c1 64) s r2 c2 ∧ FixRel r2 (withinC s c2 65536) 32 out r3 c3 ∧ TPs n r3 c3 l1 fin c' ∧ ls = (withinR m 64, withinR s 65536, dig out) :: l1)
theorem TPs.unique : ∀ {n : Nat} {rest : List Nat} {c : Nat} {l l' : List (Nat × Nat × List Nat)} {fin fin' : List Nat} {d d' : Nat}, TPs n rest c l fin d → TPs n rest c l' fin' d' → l = l' ∧ fin = fin' ∧ d = d'
  | 0, _, _, _, _, _, _, _, _, h, h' => by
    obtain ⟨rfl, rfl, rfl⟩ := h
    obtain ⟨rfl, rfl, rfl⟩ := h'
    exact ⟨rfl, rfl, rfl⟩
  | n + 1, _, _, _, _, _, _, _, _, h, h' => by
    rcases h with ⟨hc, rfl, rfl, rfl⟩ | ⟨hc, m, r1, c1, s, r2, c2, out, r3, c3, l1, a1, a2, a3, a4, rfl⟩ <;> rcases h' with ⟨hc', rfl, rfl, rfl⟩ | ⟨hc', m', r1', c1', s', r2', c2', out', r3', c3', l1', b1, b2, b3, b4, rfl⟩
    · exact ⟨rfl, rfl, rfl⟩
    · exact absurd hc' hc
    · exact absurd hc hc'
    · obtain ⟨rfl, rfl, rfl⟩ := a1.unique b1
      obtain ⟨rfl, rfl, rfl⟩ := a2.unique b2
      obtain ⟨rfl, rfl, rfl⟩ := a3.unique b3
      obtain ⟨rfl, rfl, rfl⟩ := TPs.unique a4 b4
      exact ⟨rfl, rfl, rfl⟩
theorem tps_stop {c : Nat} (hc : c ≠ 0) : ∀ (n : Nat) (rest : List Nat), TPs n rest c [] rest c
  | 0, _ => ⟨rfl, rfl, rfl⟩
  | _ + 1, _ => .inl ⟨hc, rfl, rfl, rfl⟩

/-- What is left to be taken, when so many are taken. -/
def MCont (m : Nat) (rest0 : List Nat) (c0 k : Nat) (rest : List Nat) (c : Nat) (done : List (Nat × Nat × List Nat)) : Prop :=
  ∀ l fin c', TPs (m - k) rest c l fin c' → TPs m rest0 c0 (done ++ l) fin c'
theorem MCont.next {m c0 k n c1 s c2 c3 : Nat} {rest0 rest r1 r2 out r3 : List Nat} {done : List (Nat × Nat × List Nat)} (h : MCont m rest0 c0 k rest 0 done) (hk : k < m) (h1 : NumRel rest 0 n r1 c1)
    (h2 : NumRel r1 (withinC n c1 64) s r2 c2) (h3 : FixRel r2 (withinC s c2 65536) 32 out r3 c3) : MCont m rest0 c0 (k + 1) r3 c3 (done ++ [(withinR n 64, withinR s 65536, dig out)]) := fun l fin c' ht => by
  rw [List.append_assoc]
  refine h _ fin c' ?_
  rw [show m - k = (m - (k + 1)) + 1 by omega]
  exact .inr ⟨rfl, n, r1, c1, s, r2, c2, out, r3, c3, l, h1, h2, h3, ht, rfl⟩
theorem MCont.done {m c0 c : Nat} {rest0 rest : List Nat} {done : List (Nat × Nat × List Nat)} (h : MCont m rest0 c0 m rest c done) : TPs m rest0 c0 done rest c := by
  have := h [] rest c (by rw [Nat.sub_self]; exact ⟨rfl, rfl, rfl⟩)
  rwa [List.append_nil] at this
theorem MCont.stop {m c0 k c : Nat} {rest0 rest : List Nat} {done : List (Nat × Nat × List Nat)} (h : MCont m rest0 c0 k rest c done) (hc : c ≠ 0) : TPs m rest0 c0 done rest c := by
  have := h [] rest c (tps_stop hc _ _)
  rwa [List.append_nil] at this

/-- The parts, with their addresses. -/
def mkParts : Int → List (Nat × Nat × List Nat) → List PT
  | _, [] => []
  | x, q :: r => (x, (q.1 : Int), (q.2.1 : Int), q.2.2) :: mkParts (x + (q.1 : Int)) r
theorem mkParts_length : ∀ (l : List (Nat × Nat × List Nat)) (x : Int), (mkParts x l).length = l.length
  | [], _ => rfl
  | _ :: r, x => by show (mkParts _ r).length + 1 = r.length + 1; rw [mkParts_length r]

/-- What a manifest's text begins with. -/
def TMan (t : List Nat) (m : MF) (fin : List Nat) (c : Nat) : Prop :=
  ∃ n1 r1 c1 n2 r2 c2 n3 r3 c3 n4 r4 c4 d r5 c5 n6 r6 c6 ls, NumRel t 0 n1 r1 c1 ∧ NumRel r1 (withinC n1 c1 999999) n2 r2 c2 ∧ NumRel r2 (withinC n2 c2 1048576) n3 r3 c3 ∧ NumRel r3 (withinC n3 c3 1048576) n4 r4 c4 ∧
    FixRel r4 (withinC n4 c4 1048576) 32 d r5 c5 ∧ NumRel r5 c5 n6 r6 c6 ∧ TPs (manyR n6 1024) r6 (manyC n6 c6 1024) ls fin c ∧
    m = ⟨(withinR n1 999999 : Nat), (withinR n2 1048576 : Nat), (withinR n3 1048576 : Nat), (withinR n4 1048576 : Nat), dig d, mkParts (withinR n2 1048576 : Nat) ls⟩
theorem TMan.unique {t fin fin' : List Nat} {m m' : MF} {c c' : Nat} (h : TMan t m fin c) (h' : TMan t m' fin' c') : m = m' ∧ fin = fin' ∧ c = c' := by
  obtain ⟨n1, r1, c1, n2, r2, c2, n3, r3, c3, n4, r4, c4, d, r5, c5, n6, r6, c6, ls, a1, a2, a3, a4, a5, a6, a7, rfl⟩ := h
  obtain ⟨m1, s1, b1, m2, s2, b2, m3, s3, b3, m4, s4, b4, d', s5, b5, m6, s6, b6, ls', e1, e2, e3, e4, e5, e6, e7, rfl⟩ := h'
  obtain ⟨rfl, rfl, rfl⟩ := a1.unique e1
  obtain ⟨rfl, rfl, rfl⟩ := a2.unique e2
  obtain ⟨rfl, rfl, rfl⟩ := a3.unique e3
  obtain ⟨rfl, rfl, rfl⟩ := a4.unique e4
  obtain ⟨rfl, rfl, rfl⟩ := a5.unique e5
  obtain ⟨rfl, rfl, rfl⟩ := a6.unique e6
  obtain ⟨rfl, rfl, rfl⟩ := a7.unique e7
  exact ⟨rfl, rfl, rfl⟩

/-- What Take answers of bytes: a manifest, an error's number. -/
def RMan (b : List Nat) (m : MF) (c : Nat) : Prop :=
  ∃ t c0, FO b t c0 ∧ if c0 ≠ 0 then c = c0 ∧ m = mf0 else ∃ m1 fin c1, TMan t m1 fin c1 ∧
    if endC fin.length c1 ≠ 0 then c = endC fin.length c1 ∧ m = mf0 else c = mchk m1 ∧ m = if c = 0 then m1 else mf0
theorem RMan.unique {b : List Nat} {m m' : MF} {c c' : Nat} (h : RMan b m c) (h' : RMan b m' c') : m = m' ∧ c = c' := by
  obtain ⟨t, c0, hfo, hif⟩ := h
  obtain ⟨t', c0', hfo', hif'⟩ := h'
  obtain ⟨rfl, rfl⟩ := hfo.unique hfo'
  by_cases h1 : c0 ≠ 0
  · rw [if_pos h1] at hif hif'
    exact ⟨hif.2.trans hif'.2.symm, hif.1.trans hif'.1.symm⟩
  · rw [if_neg h1] at hif hif'
    obtain ⟨m1, fin, c1, ht, hif⟩ := hif
    obtain ⟨m1', fin', c1', ht', hif'⟩ := hif'
    obtain ⟨rfl, rfl, rfl⟩ := ht.unique ht'
    by_cases h2 : endC fin.length c1 ≠ 0
    · rw [if_pos h2] at hif hif'
      exact ⟨hif.2.trans hif'.2.symm, hif.1.trans hif'.1.symm⟩
    · rw [if_neg h2] at hif hif'
      obtain ⟨rfl, hif⟩ := hif
      obtain ⟨rfl, hif'⟩ := hif'
      exact ⟨hif.trans hif'.symm, rfl⟩
theorem RMan.bad {b : List Nat} {m : MF} {c : Nat} (h : RMan b m c) (hc : c ≠ 0) : m = mf0 := by
  obtain ⟨t, c0, _, hif⟩ := h
  by_cases h1 : c0 ≠ 0
  · rw [if_pos h1] at hif; exact hif.2
  · rw [if_neg h1] at hif
    obtain ⟨m1, fin, c1, _, hif⟩ := hif
    by_cases h2 : endC fin.length c1 ≠ 0
    · rw [if_pos h2] at hif; exact hif.2
    · rw [if_neg h2] at hif
      rw [hif.2, if_neg hc]
theorem mf_fo_good {b t : List Nat} {c : Nat} (h8 : ∀ y ∈ b, y < 256) (h : FO b t c) (hz : c = 0) : (∀ y ∈ t, y < 256) ∧ t.length ≤ 65536 ∧ b = fr t := by
  obtain ⟨t1, s1, c1, hft, hif⟩ := h
  by_cases h1 : c1 ≠ 0
  · rw [if_pos h1] at hif
    exact absurd (hif.2.symm.trans hz) h1
  · rw [if_neg h1] at hif
    obtain rfl : c1 = 0 := Classical.not_not.1 h1
    split at hif
    · rw [hif.2] at hz; cases hz
    · rename_i hs
      obtain ⟨_, _, h3, _, h5⟩ := hft.good
      rw [hif.1]
      exact ⟨fun y hy => h8 y (h5 y hy), h3, ft_whole hft hs⟩
theorem mf_endC_zero {n c : Nat} (h : ¬ endC n c ≠ 0) : n = 0 ∧ c = 0 := by
  unfold endC at h
  by_cases hc : c ≠ 0
  · rw [if_pos hc] at h; exact absurd hc h
  · rw [if_neg hc] at h
    by_cases hn : n = 0
    · exact ⟨hn, Classical.not_not.1 hc⟩
    · rw [if_neg hn] at h; omega
theorem fix_err {rest r out : List Nat} {c c' : Nat} {k : Nat} (h : FixRel rest c (k : Int) out r c') (hc : c' = 0) : c = 0 ∧ out.length = k ∧ rest = out ++ r := by
  rcases h with ⟨h1, _, _, h2⟩ | ⟨_, _, _, _, h2⟩ | ⟨h1, h2, h3, rfl, rfl, _⟩
  · omega
  · omega
  · refine ⟨h1, ?_, (List.take_append_drop _ _).symm⟩
    rw [List.length_take]; omega
theorem manyC_err {n c : Nat} {most : Int} (h : manyC n c most = 0) : c = 0 ∧ manyR n most = n ∧ (n : Int) ≤ most := by
  unfold manyC at h
  split at h
  · split at h <;> omega
  · rename_i h1
    exact ⟨h, if_neg h1, by omega⟩
theorem tps_had : ∀ {n : Nat} {rest fin : List Nat} {c c' : Nat} {l : List (Nat × Nat × List Nat)}, TPs n rest c l fin c' → c' = 0 → c = 0
  | 0, _, _, _, _, _, h, hc => h.2.2.symm.trans hc
  | _ + 1, _, _, _, _, _, h, hc => by
    rcases h with ⟨_, _, _, h⟩ | ⟨h, _⟩
    · exact h.symm.trans hc
    · exact h
/-- What parts that are taken were. -/
theorem tps_back : ∀ {n : Nat} {rest fin : List Nat} {l : List (Nat × Nat × List Nat)} (x : Int), (∀ y ∈ rest, y < 256) → TPs n rest 0 l fin 0 → rest = ((mkParts x l).map pttext).flatten ++ fin ∧ l.length = n ∧ ∀ p ∈ mkParts x l, Dg p.2.2.2
  | 0, _, _, _, _, _, h => by
    obtain ⟨rfl, rfl, _⟩ := h
    exact ⟨rfl, rfl, by intro p hp; cases hp⟩
  | n + 1, rest, fin, l, x, h8, h => by
    rcases h with ⟨h, _⟩ | ⟨_, m, r1, c1, s, r2, c2, out, r3, c3, l1, a1, a2, a3, a4, rfl⟩
    · exact absurd rfl h
    have hc3 := tps_had a4 rfl
    subst hc3
    obtain ⟨h2, h3, h4⟩ := fix_err (k := 32) a3 rfl
    obtain ⟨h5, h6, h7⟩ := withinC_err h2
    subst h5
    obtain ⟨h9, _, h10⟩ := a2.err rfl
    obtain ⟨h11, h12, h13⟩ := withinC_err h9
    subst h11
    obtain ⟨_, _, h14⟩ := a1.err rfl
    have h8r : ∀ y ∈ r3, y < 256 := fun y hy => h8 y (by rw [h14, h10, h4]; simp [hy])
    have h8o : ∀ y ∈ out, y < 256 := fun y hy => h8 y (by rw [h14, h10, h4]; simp [hy])
    obtain ⟨i1, i2, i3⟩ := tps_back (x + ((withinR m 64 : Nat) : Int)) h8r a4
    have hdf : dig out = out := dig_full h3
    refine ⟨?_, by simp [i2], ?_⟩
    · show rest = (((x, ((withinR m 64 : Nat) : Int), ((withinR s 65536 : Nat) : Int), dig out) :: mkParts (x + ((withinR m 64 : Nat) : Int)) l1).map pttext).flatten ++ fin
      rw [List.map_cons, List.flatten_cons, List.append_assoc, ← i1]
      unfold pttext
      simp only [Int.toNat_natCast]
      rw [hdf, h7, h13, h14, h10, h4]
      simp [encs]
    · intro p hp
      rcases List.mem_cons.1 (show p ∈ (x, ((withinR m 64 : Nat) : Int), ((withinR s 65536 : Nat) : Int), dig out) :: mkParts (x + ((withinR m 64 : Nat) : Int)) l1 from hp) with rfl | hp
      · show Dg (dig out)
        rw [hdf]; exact ⟨h3, h8o⟩
      · exact i3 p hp
/-- What is taken has just those bytes. -/
theorem RMan.back {b : List Nat} {m : MF} (h8 : ∀ y ∈ b, y < 256) (h : RMan b m 0) : b = fr (mtext m) ∧ mchk m = 0 ∧ MOk m := by
  obtain ⟨t, c0, hfo, hif⟩ := h
  by_cases h1 : c0 ≠ 0
  · rw [if_pos h1] at hif; exact absurd hif.1.symm h1
  rw [if_neg h1] at hif
  obtain rfl : c0 = 0 := Classical.not_not.1 h1
  obtain ⟨ht8, htl, hb⟩ := mf_fo_good h8 hfo rfl
  obtain ⟨m1, fin, c1, ht, hif⟩ := hif
  by_cases h2 : endC fin.length c1 ≠ 0
  · rw [if_pos h2] at hif; exact absurd hif.1.symm h2
  rw [if_neg h2] at hif
  obtain ⟨hfl, rfl⟩ := mf_endC_zero h2
  obtain rfl : fin = [] := List.length_eq_zero_iff.1 hfl
  obtain ⟨hs, hm⟩ := hif
  rw [if_pos rfl] at hm
  subst hm
  obtain ⟨n1, r1, c1, n2, r2, c2, n3, r3, c3, n4, r4, c4, d, r5, c5, n6, r6, c6, ls, a1, a2, a3, a4, a5, a6, a7, rfl⟩ := ht
  obtain ⟨e6, e7, e8⟩ := manyC_err (tps_had a7 rfl)
  rw [tps_had a7 rfl] at a7
  obtain ⟨f6, _, g6⟩ := a6.err e6
  obtain ⟨f5, f5l, g5⟩ := fix_err (k := 32) a5 f6
  obtain ⟨f4, _, k4⟩ := withinC_err f5
  obtain ⟨j4, _, g4⟩ := a4.err f4
  obtain ⟨f3, _, k3⟩ := withinC_err j4
  obtain ⟨j3, _, g3⟩ := a3.err f3
  obtain ⟨f2, _, k2⟩ := withinC_err j3
  obtain ⟨j2, _, g2⟩ := a2.err f2
  obtain ⟨f1, _, k1⟩ := withinC_err j2
  obtain ⟨_, _, g1⟩ := a1.err f1
  have h8t : ∀ y ∈ r6, y < 256 := fun y hy => ht8 y (by rw [g1, g2, g3, g4, g5, g6]; simp [hy])
  have h8d : ∀ y ∈ d, y < 256 := fun y hy => ht8 y (by rw [g1, g2, g3, g4, g5]; simp [hy])
  obtain ⟨i1, i2, i3⟩ := tps_back ((withinR n2 1048576 : Nat) : Int) h8t a7
  rw [List.append_nil] at i1
  have hdf : dig d = d := dig_full f5l
  refine ⟨?_, hs.symm, ⟨by show Dg (dig d); rw [hdf]; exact ⟨f5l, h8d⟩, i3⟩⟩
  rw [hb]
  congr 1
  unfold mtext mhead
  simp only [Int.toNat_natCast]
  rw [mkParts_length, i2, ← i1, hdf, k1, k2, k3, k4, e7, g1, g2, g3, g4, g5, g6]
  simp [encs]
end Go.Proofs.YtgnalcobcdgnkaaGreatDoor

namespace Go.Proofs.YtgnalcobcdgnkaaGreatDoor
open Go.RowKit

section
variable {P : Program}
theorem addr_add (g o i : Nat) : (⟨g, o, none⟩ : Addr).add i = ⟨g, o + i, none⟩ := by unfold Addr.add; split <;> simp_all
theorem run_loadVar_at (w : World) (g off : Nat) (ty : TypeId) (sub : List Value) (d : TypeDesc) (hc : ∀ j v, sub[j]? = some v → w.cell? ⟨g, off + j, none⟩ = some v)
    (hu : P.underlying ty = some d) (hd : (match d with | .struct _ | .array _ _ => true | _ => false) = true) (hi : (P.info? ty).map (·.size) = some sub.length) :
    (loadVar ty ⟨g, off, none⟩).run P w = .ok (.agg sub.toArray) w := by
  have hl : (loadCells ⟨g, off, none⟩ sub.length).run P w = .ok sub.toArray w := run_loadCells_list (P := P) w ⟨g, off, none⟩ sub (fun j v hv => by rw [addr_add]; exact hc j v hv)
  cases hq : P.info? ty with
  | none => simp [hq] at hi
  | some i =>
    have hs : i.size = sub.length := by simpa [hq] using hi
    have hagg : (isAgg ty).run P w = .ok true w := by
      unfold isAgg
      rw [Sem.run_bind, run_underlying hu w]
      cases d <;> simp_all
    simp [loadVar, Sem.run_bind, hagg, sizeOf, typeInfo, hq, hs, hl]
theorem wp_load_at {o : Oper} {a : Act} {w : World} {K : Act → World → Prop} {Q : Exit → Act → World → Prop} (ty : TypeId) (x : Operand) (ho : o.op = .load ty x)
    (g off : Nat) (hx : a.eval x = .pointer (some ⟨g, off, none⟩)) (sub : List Value) (d : TypeDesc) (hc : ∀ j v, sub[j]? = some v → w.cell? ⟨g, off + j, none⟩ = some v)
    (hu : P.underlying ty = some d) (hd : (match d with | .struct _ | .array _ _ => true | _ => false) = true) (hi : (P.info? ty).map (·.size) = some sub.length)
    (h : K (a.put o.dst (.agg sub.toArray)) w) : o.wp P a w K Q := by
  unfold Oper.wp execOp
  simp only [ho, hx, Instr.loadAt, Instr.sureAddr, Sem.run_bind, Sem.run_pure, Result.andThen_ok, run_loadVar_at w g off ty sub d hc hu hd hi]
  exact h
theorem wpList_load_at {ops : Array Oper} {rest : List Oper} {o : Oper} {a : Act} {w : World} {Q : Exit → Act → World → Prop} (hgd : o.guard = none) (ty : TypeId) (x : Operand) (ho : o.op = .load ty x)
    (g off : Nat) (hx : a.eval x = .pointer (some ⟨g, off, none⟩)) (sub : List Value) (d : TypeDesc) (hc : ∀ j v, sub[j]? = some v → w.cell? ⟨g, off + j, none⟩ = some v)
    (hu : P.underlying ty = some d) (hd : (match d with | .struct _ | .array _ _ => true | _ => false) = true) (hi : (P.info? ty).map (·.size) = some sub.length)
    (h : wpList P ops Q rest (a.put o.dst (.agg sub.toArray)) w) : wpList P ops Q (o :: rest) a w :=
  wpList_plain hgd fun _ hK => wp_load_at ty x ho g off hx sub d hc hu hd hi (hK _ _ h)
theorem wpList_load_atG {ops : Array Oper} {rest : List Oper} {o : Oper} {a : Act} {w : World} {Q : Exit → Act → World → Prop} (hw : Region.wanted o (yielded ops a.tmps) = true) (ty : TypeId) (x : Operand) (ho : o.op = .load ty x)
    (g off : Nat) (hx : a.eval x = .pointer (some ⟨g, off, none⟩)) (sub : List Value) (d : TypeDesc) (hc : ∀ j v, sub[j]? = some v → w.cell? ⟨g, off + j, none⟩ = some v)
    (hu : P.underlying ty = some d) (hd : (match d with | .struct _ | .array _ _ => true | _ => false) = true) (hi : (P.info? ty).map (·.size) = some sub.length)
    (h : wpList P ops Q rest (a.put o.dst (.agg sub.toArray)) w) : wpList P ops Q (o :: rest) a w :=
  wpList_step fun _ hK => by rw [if_pos hw]; exact wp_load_at ty x ho g off hx sub d hc hu hd hi (hK _ _ h)

theorem wpList_load_rowH {ops : Array Oper} {rest : List Oper} {o : Oper} {a : Act} {w : World} {Q : Exit → Act → World → Prop} (hw : Region.wanted o (yielded ops a.tmps) = true) (ty : TypeId) (x : Operand) (ho : o.op = .load ty x)
    (g : Nat) (hx : a.eval x = .pointer (some ⟨g, 0, none⟩)) (t : TypeId) (cs : Array Value) (fr : Nat × Nat) (d : TypeDesc) (hg : w.heap[g]? = some (.cells cs t fr))
    (hu : P.underlying ty = some d) (hd : (match d with | .struct _ | .array _ _ => true | _ => false) = true) (hi : (P.info? ty).map (·.size) = some cs.size)
    (h : wpList P ops Q rest (a.put o.dst (.agg cs)) w) : wpList P ops Q (o :: rest) a w :=
  wpList_step fun _ hK => by rw [if_pos hw]; exact wp_load_row ty x ho g hx t cs fr d hg hu hd hi (hK _ _ h)

end

/-- A part's cells, a manifest's. -/
def ptRow (p : PT) : List Value := [.int .i64 p.1, .int .i64 p.2.1, .int .i64 p.2.2.1] ++ vals .u8 p.2.2.2
def mfRow (m : MF) (v : Value) : List Value := [.int .i64 m.num, .int .i64 m.fro, .int .i64 m.upto, .int .i64 m.trim] ++ (vals .u8 m.prev ++ [v])
theorem ptRow_len {p : PT} (h : Dg p.2.2.2) : (ptRow p).length = 35 := by unfold ptRow; rw [List.length_append, vals_length, h.1]; rfl
theorem mfRow_len {m : MF} (v : Value) (h : Dg m.prev) : (mfRow m v).length = 37 := by unfold mfRow; rw [List.length_append, List.length_append, vals_length, h.1]; rfl
theorem vals_one8 (l : List Nat) : ∀ u ∈ vals .u8 l, u.oneCell' = true := vals_oneCell .u8 l
theorem ptRow_one (p : PT) : ∀ u ∈ ptRow p, u.oneCell' = true := by
  intro u hu
  unfold ptRow at hu
  rcases List.mem_append.1 hu with h | h
  · simp only [List.mem_cons, List.not_mem_nil, or_false] at h
    rcases h with rfl | rfl | rfl <;> rfl
  · exact vals_one8 _ u h
theorem mfRow_one (m : MF) {v : Value} (hv : v.oneCell' = true) : ∀ u ∈ mfRow m v, u.oneCell' = true := by
  intro u hu
  unfold mfRow at hu
  rcases List.mem_append.1 hu with h | h
  · simp only [List.mem_cons, List.not_mem_nil, or_false] at h
    rcases h with rfl | rfl | rfl | rfl <;> rfl
  · rcases List.mem_append.1 h with h | h
    · exact vals_one8 _ u h
    · rw [List.mem_singleton.1 h]; exact hv
theorem mfRow_last {m : MF} (v : Value) (h : Dg m.prev) : (mfRow m v)[36]? = some v := by
  unfold mfRow
  rw [List.getElem?_append_right (by simp), List.getElem?_append_right (by rw [vals_length, h.1]; simp), vals_length, h.1]
  rfl
theorem mfRow_prev {m : MF} (v : Value) : ∀ j u, (vals .u8 m.prev)[j]? = some u → (mfRow m v)[4 + j]? = some u := by
  intro j u hu
  have hl := (List.getElem?_eq_some_iff.1 hu).1
  unfold mfRow
  rw [List.getElem?_append_right (by simp)]
  show (vals .u8 m.prev ++ [v])[4 + j - 4]? = some u
  rw [Nat.add_sub_cancel_left, List.getElem?_append_left hl]
  exact hu
theorem ptRow_sum {p : PT} : ∀ j u, (vals .u8 p.2.2.2)[j]? = some u → (ptRow p)[3 + j]? = some u := by
  intro j u hu
  unfold ptRow
  rw [List.getElem?_append_right (by simp)]
  show (vals .u8 p.2.2.2)[3 + j - 3]? = some u
  rw [Nat.add_sub_cancel_left]
  exact hu

/-- A box of a manifest, of a part, whichever of the two types it has. -/
def MB (w : World) (q : Nat) (m : MF) (v : Value) (T : TypeId) : Prop := w.heap[q]? = some (.cells (mfRow m v).toArray T (0, 0))
def PB (w : World) (q : Nat) (p : PT) (T : TypeId) : Prop := w.heap[q]? = some (.cells (ptRow p).toArray T (0, 0))
section
variable {w w' : World} {q : Nat} {m : MF} {p : PT} {v : Value} {T : TypeId}
theorem MB.lt (h : MB w q m v T) : q < w.heap.size := (Array.getElem?_eq_some_iff.1 h).1
theorem MB.low {B : Nat} (h : MB w q m v T) (hb : Below B w w') (hq : q < B) : MB w' q m v T := (hb.block _ hq).trans h
theorem MB.old (h : MB w q m v T) (hb : Below w.heap.size w w') : MB w' q m v T := h.low hb h.lt
theorem MB.cell (h : MB w q m v T) (i : Nat) : w.cell? ⟨q, i, none⟩ = (mfRow m v)[i]? := by rw [cell_of_row w q i _ _ _ h, List.getElem?_toArray]
theorem MB.fz (h : MB w q m v T) (i : Nat) : w.frozen? ⟨q, i, none⟩ = false := frozen_of_row w q i _ _ h
theorem MB.x (h : MB w q m v T) (hd : Dg m.prev) : w.cell? ⟨q, 0, none⟩ = some (.int .i64 m.num) ∧ w.cell? ⟨q, 1, none⟩ = some (.int .i64 m.fro) ∧ w.cell? ⟨q, 2, none⟩ = some (.int .i64 m.upto) ∧ w.cell? ⟨q, 3, none⟩ = some (.int .i64 m.trim) ∧ w.cell? ⟨q, 36, none⟩ = some v :=
  ⟨by rw [h.cell]; rfl, by rw [h.cell]; rfl, by rw [h.cell]; rfl, by rw [h.cell]; rfl, by rw [h.cell]; exact mfRow_last v hd⟩
theorem MB.prev (h : MB w q m v T) : ∀ j u, (vals .u8 m.prev)[j]? = some u → w.cell? ⟨q, 4 + j, none⟩ = some u := fun j u hu => by rw [h.cell]; exact mfRow_prev v j u hu
theorem mb_new (w : World) (m : MF) (v : Value) (T : TypeId) : MB (w.alloc (.cells (mfRow m v).toArray T)) w.heap.size m v T := heap_alloc_new _ _
theorem PB.lt (h : PB w q p T) : q < w.heap.size := (Array.getElem?_eq_some_iff.1 h).1
theorem PB.low {B : Nat} (h : PB w q p T) (hb : Below B w w') (hq : q < B) : PB w' q p T := (hb.block _ hq).trans h
theorem PB.old (h : PB w q p T) (hb : Below w.heap.size w w') : PB w' q p T := h.low hb h.lt
theorem PB.cell (h : PB w q p T) (i : Nat) : w.cell? ⟨q, i, none⟩ = (ptRow p)[i]? := by rw [cell_of_row w q i _ _ _ h, List.getElem?_toArray]
theorem PB.fz (h : PB w q p T) (i : Nat) : w.frozen? ⟨q, i, none⟩ = false := frozen_of_row w q i _ _ h
theorem PB.x (h : PB w q p T) : w.cell? ⟨q, 0, none⟩ = some (.int .i64 p.1) ∧ w.cell? ⟨q, 1, none⟩ = some (.int .i64 p.2.1) ∧ w.cell? ⟨q, 2, none⟩ = some (.int .i64 p.2.2.1) :=
  ⟨by rw [h.cell]; rfl, by rw [h.cell]; rfl, by rw [h.cell]; rfl⟩
theorem PB.sum (h : PB w q p T) : ∀ j u, (vals .u8 p.2.2.2)[j]? = some u → w.cell? ⟨q, 3 + j, none⟩ = some u := fun j u hu => by rw [h.cell]; exact ptRow_sum j u hu
theorem pb_new (w : World) (p : PT) (T : TypeId) : PB (w.alloc (.cells (ptRow p).toArray T)) w.heap.size p T := heap_alloc_new _ _
end

/-- A slice of parts that reads as these; it lies in a block of which B holds. -/
def PsAt (w : World) (B : Nat → Prop) (v : Value) (ps : List PT) : Prop := RecAt w B 35 v (ps.map ptRow) ∧ ∀ p ∈ ps, Dg p.2.2.2
section
variable {w w' : World} {B C : Nat → Prop} {v : Value} {ps : List PT}
theorem PsAt.val (h : PsAt w B v ps) : ∃ ao cap, v = .slice ao ps.length cap ∧ ps.length ≤ cap ∧ cap ≤ maxLen ∧ (ao = none → cap = 0) := by
  have := h.1.val
  rwa [List.length_map] at this
theorem PsAt.keep (h : PsAt w B v ps) (hk : Kept B w w') : PsAt w' B v ps := ⟨h.1.keep hk, h.2⟩
theorem PsAt.old (h : PsAt w B v ps) (hb : Below w.heap.size w w') : PsAt w' B v ps := h.keep ⟨hb.size, fun j hj _ => hb.block j hj⟩
theorem PsAt.mono (h : PsAt w B v ps) (hc : ∀ j, j < w.heap.size → B j → C j) : PsAt w C v ps := ⟨h.1.mono hc, h.2⟩
theorem ps_nil (w : World) (B : Nat → Prop) : PsAt w B (.slice none 0 0) [] := ⟨recAt_nil _ _ _, by simp⟩
theorem PsAt.at {ao : Option Addr} {n cap : Nat} (h : PsAt w B (.slice ao n cap) ps) {i : Nat} (hi : i < ps.length) :
    ∃ b off, ao = some ⟨b, off, none⟩ ∧ b < w.heap.size ∧ B b ∧ Dg (ps.getD i (0, 0, 0, [])).2.2.2 ∧ ∀ j u, (ptRow (ps.getD i (0, 0, 0, [])))[j]? = some u → w.cell? ⟨b, off + i * 35 + j, none⟩ = some u := by
  have hg : ps.getD i (0, 0, 0, []) = ps[i] := by rw [List.getD_eq_getElem?_getD, List.getElem?_eq_getElem hi]; rfl
  obtain ⟨b, off, h1, h2, h3, h4⟩ := h.1.at (i := i) (r := ptRow ps[i]) (by rw [List.getElem?_map, List.getElem?_eq_getElem hi]; rfl)
  rw [hg]
  exact ⟨b, off, h1, h2, h3, h.2 _ (List.getElem_mem hi), h4⟩
end
theorem getD_memP {ps : List PT} {i : Nat} (hi : i < ps.length) : ps.getD i (0, 0, 0, []) ∈ ps := by
  rw [List.getD_eq_getElem?_getD, List.getElem?_eq_getElem hi]; exact List.getElem_mem hi

theorem mfRow_set36 {m : MF} (v u : Value) (h : m.prev.length = 32) : (mfRow m v).toArray.setIfInBounds 36 u = (mfRow m u).toArray := by
  have e : (mfRow m v).set 36 u = mfRow m u := by
    unfold mfRow
    show _ :: _ :: _ :: _ :: ((vals .u8 m.prev ++ [v]).set 32 u) = _
    rw [List.set_append_right 32 u (by rw [vals_length, h]; exact Nat.le_refl _), vals_length, h]
    rfl
  rw [← e]; simp
theorem MB.set36 {w : World} {q : Nat} {m : MF} {v : Value} {T : TypeId} (h : MB w q m v T) (hd : m.prev.length = 32) (u : Value) : MB (w.setCell ⟨q, 36, none⟩ u) q m u T := by
  unfold MB at h ⊢
  rw [heap_setCell_same _ _ 36 _ _ _ h, mfRow_set36 _ _ hd]

end Go.Proofs.YtgnalcobcdgnkaaGreatDoor
