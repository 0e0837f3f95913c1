/- Package shelf: the base of a disk: the mathematics. · Package shelf: acts that were taken, in memory. · A shelf's objects' names: numberOf. · A shelf's objects' names: nameOf. · A shelf's objects' names: numbered. · Package shelf: takeBase, by the program. · slices.BinarySearch of names. · A row of names that rises: what the search wants. · Package shelf: takeActs, by the program. · Package shelf: doAll, by the program. · Package shelf: Open, by the program. -/
import Derived.Test.YtlckadlkgjfjcaaGreatDoorDaP
import Derived.Test.YtlckadlkgjfjcaaGreatDoorDeP
import Derived.Test.YtlckadlkgjfjcaaGreatDoorRvP
import Derived.Test.YtlckadlkgjfjcaaGreatDoorUjP
import Derived.Test.YtlckadlkgjfjcaaGreatDoorRqP
import Derived.Test.YtlckadlkgjfjcaaGreatDoorSbP
import Derived.Test.YtlckadlkgjfjcaaGreatDoorSrtN
import Derived.Lib.AtoiBound
import Derived.Lib.AtoiErrMem
import Derived.Lib.AppendIntMem
import Derived.Sort.Walk0
namespace Go.Proofs.YtlckadlkgjfjcaaGreatDoor
open Go.RowKit

/-- The greater number, if the name is a base's. -/
def gStep (g : Int) (n : Nm) : Int := match snum 98 n with
  | some k => max g (k : Int)
  | none => g
/-- The greatest number of a base; -1: there is none. -/
def gI (ns : List Nm) : Int := ns.foldl gStep (-1)
theorem gI_snoc (ns : List Nm) (n : Nm) : gI (ns ++ [n]) = gStep (gI ns) n := by unfold gI; rw [List.foldl_append]; rfl
theorem gStep_le {g : Int} {n : Nm} (h : -1 ≤ g ∧ g ≤ 99999999) : -1 ≤ gStep g n ∧ gStep g n ≤ 99999999 := by
  unfold gStep
  split
  · rename_i k hk
    have := (sname_snum hk).2
    omega
  · exact h
theorem gI_le (ns : List Nm) : -1 ≤ gI ns ∧ gI ns ≤ 99999999 := by
  have key : ∀ (l : List Nm) (g : Int), -1 ≤ g ∧ g ≤ 99999999 → -1 ≤ l.foldl gStep g ∧ l.foldl gStep g ≤ 99999999 := by
    intro l
    induction l with
    | nil => exact fun _ h => h
    | cons n r ih => exact fun g h => ih _ (gStep_le h)
  exact key ns (-1) (by omega)
/-- What the base of a disk is: the unit, its number; an error's number. -/
def RBase (D : DS) (ns : List Nm) (U : US) (n c : Nat) : Prop :=
  if gI ns < 0 then U = unew ∧ n = 0 ∧ c = 0 else
    if (sget D (sname 98 (gI ns).toNat)).2 ≠ 0 then c = (sget D (sname 98 (gI ns).toNat)).2 else RUnit (sget D (sname 98 (gI ns).toNat)).1 U c ∧ (c = 0 → n = (gI ns).toNat)
theorem RBase.unique {D : DS} {ns : List Nm} {U U' : US} {n n' c c' : Nat} (h : RBase D ns U n c) (h' : RBase D ns U' n' c') : c = c' ∧ (c = 0 → U = U' ∧ n = n') := by
  unfold RBase at h h'
  split at h
  · rename_i h1
    rw [if_pos h1] at h'
    exact ⟨h.2.2.trans h'.2.2.symm, fun _ => ⟨h.1.trans h'.1.symm, h.2.1.trans h'.2.1.symm⟩⟩
  · rename_i h1
    rw [if_neg h1] at h'
    split at h
    · rename_i h2
      rw [if_pos h2] at h'
      exact ⟨h.trans h'.symm, fun hc => absurd (h.symm.trans hc) h2⟩
    · rename_i h2
      rw [if_neg h2] at h'
      obtain ⟨e1, e2⟩ := h.1.unique h'.1
      exact ⟨e1, fun hc => ⟨e2 hc, (h.2 hc).trans (h'.2 (e1 ▸ hc)).symm⟩⟩
/-- What a disk's files are, for taking them. -/
theorem sget_small {w : World} {S : Nat → Prop} {p : Nat} {d : DS} (h : Dk w S p d) (n : Nm) : (sget d n).1.length ≤ 65536 ∧ ∀ y ∈ (sget d n).1, y < 256 := by
  obtain ⟨m1, m2, cv, h⟩ := h
  have hs := h.smallShown
  unfold sget
  split
  · exact ⟨by simp, by simp⟩
  · unfold dread
    split
    · exact ⟨by simp, by simp⟩
    · split
      · exact ⟨by simp, by simp⟩
      · rename_i t ht
        exact hs _ (fget_some ht)

end Go.Proofs.YtlckadlkgjfjcaaGreatDoor

namespace Go.Proofs.YtlckadlkgjfjcaaGreatDoor
open Go.RowKit

/-- An act as it was taken: what it does, its epoch, its address, its data. -/
structure SA where
  k : Nat
  e : Nat
  a : Nat
  d : List Nat
def saRow (f : SA) (dv : Value) : List Value := [.int .i64 (f.k : Int), .int .i64 (f.e : Int), .int .i64 (f.a : Int), dv]
/-- A slice of acts, all of it of the call's own. -/
def ActO (w : World) (base : Nat) (v : Value) (l : List SA) : Prop :=
  ∃ rows : List (List Value), RecOwn w base 67 4 v rows ∧ rows.length = l.length ∧ ∀ (i : Nat) (f : SA), l[i]? = some f → ∃ dv, rows[i]? = some (saRow f dv) ∧ At w (Own w base 5) .u8 dv f.d
theorem actO_nil (w : World) (base : Nat) : ActO w base (.slice none 0 0) [] := ⟨[], recOwn_nil _ _ _ _, rfl, fun i f hf => by simp at hf⟩
theorem ActO.val {w : World} {base : Nat} {v : Value} {l : List SA} (h : ActO w base v l) : ∃ ao cap, v = .slice ao l.length cap := by
  obtain ⟨rows, h1, h2, _⟩ := h
  obtain ⟨ao, cap, hv, _⟩ := h1.val
  exact ⟨ao, cap, by rw [hv, h2]⟩
theorem ActO.grown {w w' : World} {base : Nat} {v : Value} {l : List SA} (h : ActO w base v l) (hb : Below w.heap.size w w') : ActO w' base v l := by
  obtain ⟨rows, h1, h2, h3⟩ := h
  refine ⟨rows, h1.keep fun j hj => hb.block j (h1.block hj).2.1, h2, fun i f hf => ?_⟩
  obtain ⟨dv, h4, h5⟩ := h3 i f hf
  exact ⟨dv, h4, h5.own (kept_new hb _)⟩
/-- What leaves all blocks from base on. -/
theorem ActO.keepB {w w' : World} {base : Nat} {v : Value} {l : List SA} (h : ActO w base v l) (hs : w.heap.size ≤ w'.heap.size) (hk : ∀ j, base ≤ j → j < w.heap.size → w'.heap[j]? = w.heap[j]?) : ActO w' base v l := by
  obtain ⟨rows, h1, h2, h3⟩ := h
  refine ⟨rows, h1.keep fun j hj => hk j (h1.block hj).1 (h1.block hj).2.1, h2, fun i f hf => ?_⟩
  obtain ⟨dv, h4, h5⟩ := h3 i f hf
  exact ⟨dv, h4, h5.own ⟨hs, fun j hj hB => hk j hB.1 hj⟩⟩
theorem ActO.mono {w : World} {base b2 : Nat} {v : Value} {l : List SA} (h : ActO w base v l) (hb : b2 ≤ base) : ActO w b2 v l := by
  obtain ⟨rows, h1, h2, h3⟩ := h
  refine ⟨rows, h1.mono hb, h2, fun i f hf => ?_⟩
  obtain ⟨dv, h4, h5⟩ := h3 i f hf
  exact ⟨dv, h4, h5.mono fun _ _ hj => ⟨Nat.le_trans hb hj.1, hj.2⟩⟩
theorem ActO.at {w : World} {base : Nat} {ao : Option Addr} {n cap : Nat} {l : List SA} (h : ActO w base (.slice ao n cap) l) {i : Nat} {f : SA} (hi : l[i]? = some f) :
    ∃ b off dv, ao = some ⟨b, off, none⟩ ∧ b < w.heap.size ∧ base ≤ b ∧ w.cell? ⟨b, off + i * 4, none⟩ = some (.int .i64 (f.k : Int)) ∧ w.cell? ⟨b, off + i * 4 + 1, none⟩ = some (.int .i64 (f.e : Int)) ∧
      w.cell? ⟨b, off + i * 4 + 2, none⟩ = some (.int .i64 (f.a : Int)) ∧ w.cell? ⟨b, off + i * 4 + 3, none⟩ = some dv ∧ At w (Own w base 5) .u8 dv f.d := by
  obtain ⟨rows, h1, h2, h3⟩ := h
  obtain ⟨dv, h4, h5⟩ := h3 i f hi
  obtain ⟨b, off, ha, hb, hB, hc⟩ := h1.at'.at h4
  exact ⟨b, off, dv, ha, hb, hB.2, hc 0 _ rfl, hc 1 _ rfl, hc 2 _ rfl, hc 3 _ rfl, h5⟩
theorem Tryz.infoSA : (Tryz.prog.info? 67).map (fun i => (i.zero, i.size, i.bytes)) = some (some (.agg #[.int .i64 0, .int .i64 0, .int .i64 0, .slice none 0 0]), 4, 48) := by kernel_rfl
/-- An append of one act. -/
theorem wpList_appSA (w : World) {ops : Array Oper} {rest : List Oper} {o : Oper} {a : Act} {Q : Exit → Act → World → Prop} (hgd : o.guard = none) (s x : Operand)
    (ho : o.op = .call { callee := .builtin .append, args := #[s, x], argTypes := #[145, 145] })
    (base : Nat) (v : Value) (l : List SA) (hs : a.eval s = v) (W : World) (f : SA) (dv : Value) (hone : dv.oneCell' = true) (hW : w = W.alloc (.cells #[.int .i64 (f.k : Int), .int .i64 (f.e : Int), .int .i64 (f.a : Int), dv] 67)) (hown : ActO W base v l) (hdv : At W (Own W base 5) .u8 dv f.d)
    (hx : a.eval x = .slice (some ⟨W.heap.size, 0, none⟩) 1 1) (hlen : l.length ≤ 1048576) (hbase : base ≤ W.heap.size)
    (h : ∀ v' w', ActO w' base v' (l ++ [f]) → Below base W w' → wpList Tryz.prog ops Q rest (a.put o.dst v') w') : wpList Tryz.prog ops Q (o :: rest) a w := by
  subst hW
  obtain ⟨rows, h1, h2, h3⟩ := hown
  have hal : Below W.heap.size W (W.alloc (.cells #[.int .i64 (f.k : Int), .int .i64 (f.e : Int), .int .i64 (f.a : Int), dv] 67)) := (Below.refl _ _).alloc (Nat.le_refl _) _
  have h1' : RecOwn (W.alloc (.cells #[.int .i64 (f.k : Int), .int .i64 (f.e : Int), .int .i64 (f.a : Int), dv] 67)) base 67 4 v rows := h1.keep fun j hj => hal.block j (h1.block hj).2.1
  refine wpList_appRec _ hgd s x 145 ho base 67 _ 4 48 Tryz.underlying145 Tryz.infoSA rfl (by decide) v rows hs h1' (saRow f dv) rfl (by
    intro y hy
    simp only [saRow, List.mem_cons, List.not_mem_nil, or_false] at hy
    rcases hy with rfl | rfl | rfl | rfl
    · rfl
    · rfl
    · rfl
    · exact hone) ⟨W.heap.size, 0, none⟩ hx (rec_cell W (saRow f dv) _) (by rw [h2]; simp only [maxLen]; omega) (by rw [h2]; omega) (by simp; omega) ?_
  intro v' w' ho' hg' _
  have hk : Kept (Own (W.alloc (.cells #[.int .i64 (f.k : Int), .int .i64 (f.e : Int), .int .i64 (f.a : Int), dv] 67)) base 5) (W.alloc (.cells #[.int .i64 (f.k : Int), .int .i64 (f.e : Int), .int .i64 (f.a : Int), dv] 67)) w' :=
    ⟨hg'.size, fun j hj hB => hg'.block j hj (recOwn_ne h1' (by decide) hB)⟩
  refine h v' w' ⟨rows ++ [saRow f dv], ho', by simp [h2], fun i g hi => ?_⟩ (hal.mono hbase |>.grown hg' (Nat.le_trans hbase (by simp)) fun j hj => (h1.block hj).1)
  by_cases hil : i < l.length
  · rw [List.getElem?_append_left hil] at hi
    obtain ⟨dv', h4, h5⟩ := h3 i g hi
    exact ⟨dv', by rw [List.getElem?_append_left (by omega)]; exact h4, (h5.own (kept_new hal _)).own hk⟩
  · rw [List.getElem?_append_right (by omega)] at hi
    have hi0 : i - l.length = 0 := by
      by_cases h0 : i - l.length = 0
      · exact h0
      · rw [List.getElem?_eq_none (by simp; omega)] at hi; cases hi
    rw [hi0] at hi
    obtain rfl : f = g := by simpa using hi
    refine ⟨dv, ?_, (hdv.own (kept_new hal _)).own hk⟩
    rw [List.getElem?_append_right (by omega), h2, hi0]
    rfl

/-- Acts done, one behind the other: the unit then, and whether all could be done. -/
def sdo : US → List SA → US × Bool
  | U, [] => (U, true)
  | U, f :: r => if (rapply U f.k f.e f.a f.d).2.2 = 0 then sdo (rapply U f.k f.e f.a f.d).2.1 r else ((rapply U f.k f.e f.a f.d).2.1, false)
/-- What acts a disk has from a number on: the acts, an error's number. -/
def SActs (D : DS) (ns : List Nm) : Nat → Nat → List SA → Nat → Prop
  | 0, _, l, c => l = [] ∧ c = 0
  | m + 1, n, l, c => if ns.contains (sname 114 n) = false then l = [] ∧ c = 0 else
      if (sget D (sname 114 n)).2 ≠ 0 then l = [] ∧ c = (sget D (sname 114 n)).2 else
        ∃ k e a d c1, RTake (sget D (sname 114 n)).1 k e a d c1 ∧ if c1 ≠ 0 then l = [] ∧ c = c1 else ∃ l1, SActs D ns m (n + 1) l1 c ∧ l = if c = 0 then ⟨k, e, a, d⟩ :: l1 else []

end Go.Proofs.YtlckadlkgjfjcaaGreatDoor

namespace Go.Proofs.YtlckadlkgjfjcaaGreatDoor
open Go.RowKit

def figs : Nm := [48, 49, 50, 51, 52, 53, 54, 55, 56, 57]
set_option maxRecDepth 100000 in
theorem figs_nat : ∀ n, n < 256 → figs.contains (UInt8.ofNat n) = isDg (UInt8.ofNat n) := by decide
theorem figs_has (b : UInt8) : figs.contains b = isDg b := by
  have h := figs_nat b.toNat b.toNat_lt
  rwa [UInt8.ofNat_toNat] at h
theorem drop_all (p : UInt8 → Bool) : ∀ l : Nm, (l.dropWhile p).all p = true → l.all p = true
  | [], _ => rfl
  | a :: t, h => by
    by_cases hp : p a = true
    · rw [List.dropWhile_cons_of_pos hp] at h
      rw [List.all_cons, hp, drop_all p t h]
      rfl
    · rwa [List.dropWhile_cons_of_neg hp] at h
theorem drop_nil (p : UInt8 → Bool) : ∀ l : Nm, l.all p = true → l.dropWhile p = []
  | [], _ => rfl
  | a :: t, h => by
    rw [List.all_cons, Bool.and_eq_true] at h
    rw [List.dropWhile_cons_of_pos h.1, drop_nil p t h.2]
theorem nil_drop (p : UInt8 → Bool) : ∀ l : Nm, l.dropWhile p = [] → l.all p = true
  | [], _ => rfl
  | a :: t, h => by
    by_cases hp : p a = true
    · rw [List.dropWhile_cons_of_pos hp] at h
      rw [List.all_cons, hp, nil_drop p t h]
      rfl
    · rw [List.dropWhile_cons_of_neg hp] at h; cases h
theorem trim_figs (l : Nm) : Lib.trimS l figs = [] ↔ l.all isDg = true := by
  have hp : (fun b => figs.contains b) = isDg := funext figs_has
  unfold Lib.trimS Lib.trimLeftS Lib.trimRightS
  rw [hp]
  constructor
  · intro h
    have h1 := nil_drop _ _ h
    rw [List.all_reverse] at h1
    have h2 := drop_all _ _ h1
    rwa [List.all_reverse] at h2
  · intro h
    rw [drop_nil _ l.reverse (by rwa [List.all_reverse])]
    rfl
theorem dec_from : ∀ (l : Nm) (a : Nat), l.all isDg = true → Lib.decFrom a l = some (l.foldl (fun a b => a * 10 + (b.toNat - 48)) a)
  | [], _, _ => rfl
  | b :: t, a, h => by
    rw [List.all_cons, Bool.and_eq_true] at h
    have hd : Lib.digitVal b = some (b.toNat - 48) := by
      obtain ⟨d, h1, h2⟩ := isDg_nat h.1
      unfold Lib.digitVal
      rw [if_pos ⟨by omega, by omega⟩]
    unfold Lib.decFrom
    rw [hd]
    exact dec_from t _ h.2
theorem atoi_figs (l : Nm) (h0 : l ≠ []) (h : l.all isDg = true) : Lib.atoi l = some (nval l : Int) := by
  match l, h0 with
  | b :: t, _ =>
    have hb : isDg b = true := by rw [List.all_cons, Bool.and_eq_true] at h; exact h.1
    obtain ⟨d, h1, h2⟩ := isDg_nat hb
    have g1 : (b == 45) = false := by rw [beq_eq_false_iff_ne]; rintro rfl; exact absurd h1 (by show ¬ 45 = 48 + d; omega)
    have g2 : (b == 43) = false := by rw [beq_eq_false_iff_ne]; rintro rfl; exact absurd h1 (by show ¬ 43 = 48 + d; omega)
    have g3 : Lib.decNat (b :: t) = some (nval (b :: t)) := dec_from _ _ h
    show (if b == 45 then (Lib.decNat t).map fun (m : Nat) => -(m : Int) else if b == 43 then (Lib.decNat t).map fun (m : Nat) => (m : Int) else (Lib.decNat (b :: t)).map fun (m : Nat) => (m : Int)) = _
    rw [g1, g2, g3]
    rfl
theorem cut_at (s p : ByteArray) (w : World) : Calls Tryz.prog 188 #[.string s, .string p] w fun e w' => e = .returned (.tuple #[.string ⟨(Lib.trimPrefix s.data.toList p.data.toList).toArray⟩, .bool (Lib.hasPrefix s.data.toList p.data.toList)]) ∧ w' = w := Any.strings_CutPrefix Tryz.cutP s p w
theorem trim_at (s : ByteArray) (hs : s.size ≤ 9223372036854775807) (w : World) : Calls Tryz.prog 189 #[.string s, .string ⟨#[48, 49, 50, 51, 52, 53, 54, 55, 56, 57]⟩] w fun e w' => e = .returned (.string ⟨(Lib.trimS s.data.toList figs).toArray⟩) ∧ Below w.heap.size w w' :=
  Any.strings_Trim_laid Tryz.trimN (by kernel_rfl) s ⟨figs.toArray⟩ w hs (by decide) (ascii_of_all (by decide))
theorem atoi_at (s : ByteArray) (n : Int) (hl : s.size ≤ 18) (h : Lib.atoi s.data.toList = some n) (w : World) : Calls Tryz.prog 190 #[.string s] w fun e w' => e = .returned (.tuple #[.int .i64 n, .nilIface]) ∧ Below w.heap.size w w' :=
  (Any.strconv_Atoi Tryz.atoiN s n hl h w).mono fun _ _ ⟨h1, _, h2⟩ => ⟨h1, h2 ▸ Lib.bytesWorld_below _ _ _⟩

/-- numberOf: the number of an object of that mark, and whether the name is one. -/
def numOf (c : UInt8) (n : Nm) : Value := .tuple #[.int .i64 (((snum c n).getD 0 : Nat) : Int), .bool (snum c n).isSome]
theorem pre_one (c b : UInt8) (t : Nm) : Lib.hasPrefix (b :: t) [c] = (c == b) := by
  show (c == b && true) = _
  rw [Bool.and_true]

set_option maxHeartbeats 1000000 in
set_option maxRecDepth 100000 in
theorem numberOf_any (c : UInt8) (n : Nm) (hn : n.length ≤ 9223372036854775807) (w : World) : Calls Tryz.prog 135 #[.string ⟨[c].toArray⟩, .string ⟨n.toArray⟩] w fun e w' => e = .returned (numOf c n) ∧ Below w.heap.size w w' := by
  have hcut := cut_at ⟨n.toArray⟩ ⟨[c].toArray⟩
  have hpd : (ByteArray.mk [c].toArray).data.toList = [c] := rfl
  have hnd : (ByteArray.mk n.toArray).data.toList = n := by simp
  rw [hpd, hnd] at hcut
  clear hpd hnd
  obtain ⟨sp, hsp⟩ : ∃ s : ByteArray, s = ⟨[c].toArray⟩ := ⟨_, rfl⟩
  obtain ⟨sn, hsn⟩ : ∃ s : ByteArray, s = ⟨n.toArray⟩ := ⟨_, rfl⟩
  rw [← hsp, ← hsn] at hcut ⊢
  clear hsp hsn
  by_cases hpre : Lib.hasPrefix n [c] = true
  rotate_left
  · have hpf : Lib.hasPrefix n [c] = false := by simpa using hpre
    have HZ : Hid (snum c n = none) := Lib.hid (by
      unfold snum
      rw [if_neg]
      rintro ⟨h1, h2, _⟩
      match n, h1 with
      | b :: t, _ =>
        rw [pre_one] at hpf
        have : b = c := h2
        rw [this, beq_self_eq_true] at hpf
        cases hpf)
    rw [hpf] at hcut
    clear hpf hpre
    obtain ⟨tx, htx⟩ : ∃ s : ByteArray, s = ⟨(Lib.trimPrefix n [c]).toArray⟩ := ⟨_, rfl⟩
    rw [← htx] at hcut
    clear htx
    go_enter Tryz.func135, Tryz.ntmps135
    go_wp2_with fail
    refine (hcut _).mono ?_
    rintro e w1 ⟨rfl, rfl⟩
    go_wp2
    go_ret2
    exact ⟨by unfold numOf; rw [HZ.out]; rfl, Below.refl _ _⟩
  match n, hn, hpre, hcut with
  | [], _, hpre, _ => cases hpre
  | b :: t, hn, hpre, hcut =>
  have hbc : b = c := by rw [pre_one, beq_iff_eq] at hpre; exact hpre.symm
  subst hbc
  have htp : Lib.trimPrefix (b :: t) [b] = t := by unfold Lib.trimPrefix; rw [if_pos hpre]; rfl
  rw [htp, hpre] at hcut
  clear htp hpre
  have hsz := size_nmS t
  have htd : (ByteArray.mk t.toArray).data.toList = t := by simp
  have htrim := trim_at ⟨t.toArray⟩ (by rw [hsz]; rw [List.length_cons] at hn; omega)
  have hatoi := fun v h8 h w => atoi_at ⟨t.toArray⟩ v h8 h w
  rw [htd] at htrim hatoi
  obtain ⟨st, hst⟩ : ∃ s : ByteArray, s = ⟨t.toArray⟩ := ⟨_, rfl⟩
  rw [← hst] at hcut hsz htrim hatoi
  clear htd hst
  have HS : Hid (∀ q, snum b (b :: t) = q ↔ (if t.length = 8 ∧ t.all isDg = true then some (nval t) else none) = q) := Lib.hid (fun q => by
    have : snum b (b :: t) = (if t.length = 8 ∧ t.all isDg = true then some (nval t) else none) := by
      unfold snum
      by_cases h : t.length = 8 ∧ t.all isDg = true
      · rw [if_pos h, if_pos ⟨by rw [List.length_cons, h.1], rfl, h.2⟩]; rfl
      · rw [if_neg h, if_neg (fun g => h ⟨by have := g.1; rw [List.length_cons] at this; omega, g.2.2⟩)]
    rw [this])
  by_cases h8 : t.length = 8
  rotate_left
  · have HZ : Hid (snum b (b :: t) = none) := Lib.hid ((HS.out _).2 (if_neg fun h => h8 h.1))
    have q1 : ((t.length : Int) != 8) = true := by simp; omega
    have q2 : ((t.length : Int) == 8) = false := by rw [beq_eq_false_iff_ne]; omega
    clear htrim hatoi h8
    go_enter Tryz.func135, Tryz.ntmps135
    go_wp2_with fail
    refine (hcut _).mono ?_
    rintro e w1 ⟨rfl, rfl⟩
    go_wp2
    go_ret2
    exact ⟨by unfold numOf; rw [HZ.out]; rfl, Below.refl _ _⟩
  have HTF := Lib.hid (trim_figs t)
  by_cases hall : t.all isDg = true
  rotate_left
  · have HZ : Hid (snum b (b :: t) = none) := Lib.hid ((HS.out _).2 (if_neg fun h => hall h.2))
    have hnq : Lib.trimS t figs ≠ [] := fun h => hall (HTF.out.1 h)
    obtain ⟨sq, hsq⟩ : ∃ s : ByteArray, s = ⟨(Lib.trimS t figs).toArray⟩ := ⟨_, rfl⟩
    rw [← hsq] at htrim
    have hne : (sq.toList == (ByteArray.mk #[]).toList) = false := by
      rw [ByteArray.toList_eq, ByteArray.toList_eq, hsq, beq_eq_false_iff_ne]
      simpa using hnq
    have hie : sq.toList.isEmpty = false := by
      rw [ByteArray.toList_eq, hsq]
      cases ht : Lib.trimS t figs with
      | nil => exact absurd ht (by assumption)
      | cons a r => simp
    rw [h8] at hsz
    clear hatoi h8 hsq hall
    go_enter Tryz.func135, Tryz.ntmps135
    go_wp2_with fail
    refine (hcut _).mono ?_
    rintro e w1 ⟨rfl, rfl⟩
    go_wp2_with fail
    refine (htrim _).mono ?_
    rintro e w2 ⟨rfl, hb2⟩
    go_wp2
    go_ret2
    exact ⟨by unfold numOf; rw [HZ.out]; rfl, hb2⟩
  have HZ : Hid (snum b (b :: t) = some (nval t)) := Lib.hid ((HS.out _).2 (if_pos ⟨h8, hall⟩))
  rw [HTF.out.2 hall] at htrim
  have heq : ((ByteArray.mk #[]).toList == (ByteArray.mk #[]).toList) = true := beq_self_eq_true _
  have hat := hatoi _ (by rw [hsz, h8]; decide) (atoi_figs t (by rintro rfl; cases h8) hall)
  rw [h8] at hsz
  clear hatoi h8 hall
  go_enter Tryz.func135, Tryz.ntmps135
  go_wp2_with fail
  refine (hcut _).mono ?_
  rintro e w1 ⟨rfl, rfl⟩
  go_wp2_with fail
  refine (htrim _).mono ?_
  rintro e w2 ⟨rfl, hb2⟩
  have HAT : Hid (∀ w3, Below w2.heap.size w2 w3 → Below w1.heap.size w1 w3) := Lib.hid fun w3 hb3 => hb2.trans (hb3.mono hb2.size)
  clear hb2
  go_upto_region 4 with fail
  go_wp2_with fail
  refine (hat _).mono ?_
  rintro e w3 ⟨rfl, hb3⟩
  replace hb3 := Lib.hid (HAT.out w3 hb3)
  go_wp2_with fail
  go_quiet (fail)
  go_wp2
  go_ret2
  exact ⟨by unfold numOf; rw [HZ.out]; rfl, ⟨hb3.out.os, hb3.out.tape, hb3.out.output, hb3.out.size, hb3.out.block⟩⟩
end Go.Proofs.YtlckadlkgjfjcaaGreatDoor

namespace Go.Proofs.YtlckadlkgjfjcaaGreatDoor
open Go.RowKit

/-- So many figures of a number, the last ones. -/
def figk : Nat → Nat → Nm
  | 0, _ => []
  | k + 1, n => figk k (n / 10) ++ [UInt8.ofNat (48 + n % 10)]
theorem figk_dig (n : Nat) (_h : n ≤ 99999999) : figk 8 n = dig8 n := by
  unfold dig8 dgt
  simp only [figk, Nat.div_div_eq_div_mul, List.nil_append, List.cons_append, Nat.reduceMul, Nat.div_one]
theorem figk_zero : ∀ k, figk k 0 = Lib.repeatL [48] k
  | 0 => rfl
  | k + 1 => by
    have h : ∀ c, Lib.repeatL [48] c ++ [48] = (48 : UInt8) :: Lib.repeatL [48] c := fun c => by
      induction c with
      | zero => rfl
      | succ c ih => show ([48] ++ Lib.repeatL [48] c) ++ [48] = _; rw [List.append_assoc, ih]; rfl
    show figk k (0 / 10) ++ [UInt8.ofNat (48 + 0 % 10)] = [48] ++ Lib.repeatL [48] k
    rw [Nat.zero_div, figk_zero k]
    exact h k
theorem figk_pad : ∀ (k n : Nat), n < 10 ^ (k + 1) → (Lib.decDigits n).length ≤ k + 1 ∧ Lib.repeatL [48] (k + 1 - (Lib.decDigits n).length) ++ Lib.decDigits n = figk (k + 1) n
  | k, n, h => by
    by_cases h10 : n < 10
    · rw [Lib.decDigits_one h10]
      refine ⟨by simp, ?_⟩
      show Lib.repeatL [48] k ++ _ = figk k (n / 10) ++ _
      rw [show n / 10 = 0 from by omega, figk_zero, show n % 10 = n from by omega]
    · match k with
      | 0 => exact absurd h (by omega)
      | k + 1 =>
        obtain ⟨h1, h2⟩ := figk_pad k (n / 10) (by rw [Nat.pow_succ] at h; omega)
        rw [Lib.decDigits, dif_neg h10]
        rw [List.length_append, List.length_cons, List.length_nil, Nat.zero_add]
        refine ⟨by omega, ?_⟩
        show _ = figk (k + 1) (n / 10) ++ _
        rw [← h2, show k + 1 + 1 - ((Lib.decDigits (n / 10)).length + 1) = k + 1 - (Lib.decDigits (n / 10)).length from by omega, List.append_assoc]

theorem Tryz.repX : Builder.Extra Tryz.prog Tryz.repN_ren where
  sizeBuilder := by kernel_rfl
  liesBuilder := by kernel_rfl
  t5 := Tryz.underlying5
  a5 := Tryz.isAgg5
  z5 := Tryz.sizeOf5
  v5 := Tryz.zeroValue5
  infoByte := by kernel_rfl
  cellsByte := by kernel_rfl
  sizeByte := by kernel_rfl
  neB5 := by decide
/-- The table of tens, as it is laid. -/
def Tens (w : World) : Prop := Lib.TabIs Tryz.prog w "internal/strconv.uint64pow10" .u64 Lib.pow10Tab
theorem itoa_at (n : Nat) (hn : n ≤ 9223372036854775807) (w : World) (ht : Tens w) : Calls Tryz.prog 151 #[.int .i64 (n : Int)] w fun e w' => e = .returned (.string ⟨(Lib.decDigits n).toArray⟩) ∧ Below w.heap.size w w' :=
  (Any.strconv_Itoa Tryz.itoaN (n : Int) (by omega) (by omega) w ht).mono fun _ _ ⟨h1, k, os, h2⟩ => ⟨by rw [h1]; unfold Lib.itoa; rw [if_neg (by omega)]; rfl, h2 ▸ Lib.below_grow _ _ (Nat.le_refl _) k os⟩
theorem rep_at (c : Nat) (hc : c ≤ 8) (w : World) : Calls Tryz.prog 152 #[.string ⟨#[48]⟩, .int .i64 (c : Int)] w fun e w' => e = .returned (.string ⟨(Lib.repeatL [48] c).toArray⟩) ∧ Below w.heap.size w w' :=
  Any.strings_Repeat Tryz.repN Tryz.repX ⟨#[48]⟩ c w (by omega) (by show 1 * c ≤ _; omega)

set_option maxHeartbeats 1000000 in
set_option maxRecDepth 100000 in
theorem nameOf_any (m : Nm) (hm : m.length ≤ 100) (n : Nat) (hn : n ≤ 99999999) (w : World) (ht : Tens w) : Calls Tryz.prog 102 #[.string ⟨m.toArray⟩, .int .i64 (n : Int)] w fun e w' => e = .returned (.string ⟨(m ++ dig8 n).toArray⟩) ∧ Below w.heap.size w w' := by
  obtain ⟨hdl, hde⟩ := figk_pad 7 n (by omega)
  rw [figk_dig n hn] at hde
  have hit := itoa_at n (by omega) w ht
  have hrp := rep_at (8 - (Lib.decDigits n).length) (Nat.sub_le _ _)
  have hsm := size_nmS m
  have hsd := size_nmS (Lib.decDigits n)
  have hsr := size_nmS (Lib.repeatL [48] (8 - (Lib.decDigits n).length))
  have hrl : (Lib.repeatL [48] (8 - (Lib.decDigits n).length)).length ≤ 8 := by rw [Lib.repeatL_length, List.length_singleton]; omega
  have HE : Hid ((⟨m.toArray⟩ : ByteArray) ++ ⟨(Lib.repeatL [48] (8 - (Lib.decDigits n).length)).toArray⟩ ++ ⟨(Lib.decDigits n).toArray⟩ = ⟨(m ++ dig8 n).toArray⟩) := Lib.hid (by rw [nm_append, nm_append, List.append_assoc, hde])
  have hc : (8 : Int) - ((Lib.decDigits n).length : Int) = ((8 - (Lib.decDigits n).length : Nat) : Int) := by omega
  obtain ⟨ra, hra⟩ : ∃ s : ByteArray, s = ⟨(m ++ dig8 n).toArray⟩ := ⟨_, rfl⟩
  rw [← hra] at HE ⊢
  obtain ⟨sd, hsd'⟩ : ∃ s : ByteArray, s = ⟨(Lib.decDigits n).toArray⟩ := ⟨_, rfl⟩
  obtain ⟨sr, hsr'⟩ : ∃ s : ByteArray, s = ⟨(Lib.repeatL [48] (8 - (Lib.decDigits n).length)).toArray⟩ := ⟨_, rfl⟩
  obtain ⟨sm, hsm'⟩ : ∃ s : ByteArray, s = ⟨m.toArray⟩ := ⟨_, rfl⟩
  rw [← hsd'] at hit hsd HE
  rw [← hsr'] at hrp hsr HE
  rw [← hsm'] at hsm HE ⊢
  clear hra hsd' hsr' hsm'
  obtain ⟨c, hcc⟩ : ∃ c, c = 8 - (Lib.decDigits n).length := ⟨_, rfl⟩
  rw [← hcc] at hrp hc
  rw [← hsd] at hc
  have b1 : sm.size ≤ 100 := by omega
  have b2 : sr.size ≤ 8 := by omega
  have b3 : sd.size ≤ 8 := by omega
  clear hsm hsd hsr hrl hcc hde hdl
  go_enter Tryz.func102, Tryz.ntmps102
  go_wp2_with fail
  refine hit.mono ?_
  rintro e w1 ⟨rfl, hb1⟩
  have HB1 := Lib.hid hb1
  clear hb1 hit
  go_wp2_with fail
  refine (hrp _).mono ?_
  rintro e w2 ⟨rfl, hb2⟩
  have HB : Hid (Below w.heap.size w w2) := Lib.hid (HB1.out.trans (hb2.mono HB1.out.size))
  clear hb2 hrp
  go_wp2
  go_ret
  exact ⟨by rw [← HE.out]; rfl, HB.out⟩
end Go.Proofs.YtlckadlkgjfjcaaGreatDoor

namespace Go.Proofs.YtlckadlkgjfjcaaGreatDoor
open Go.RowKit

/-- A package's variable lies where it lay. -/
theorem var_below {P : Program} {name : String} {cs : Array Value} {w w' : World} (h : w.var? P name = some cs) (hb : Below w.heap.size w w') : w'.var? P name = some cs := by
  unfold World.var? at h ⊢
  cases hg : P.globalNamed name with
  | none => rw [hg] at h; cases h
  | some g =>
    rw [hg] at h
    rw [Option.bind_some] at h ⊢
    have hlt : g < w.heap.size := by
      apply Classical.byContradiction
      intro hge
      rw [Array.getElem?_eq_none (Nat.le_of_not_lt hge)] at h
      cases h
    rw [hb.block g hlt]
    exact h
theorem Tens.below {w w' : World} (h : Tens w) (hb : Below w.heap.size w w') : Tens w' := var_below h hb
/-- A base's name or an act's. -/
def isNum (n : Nm) : Bool := (snum 98 n).isSome || (snum 114 n).isSome

set_option maxHeartbeats 1000000 in
set_option maxRecDepth 100000 in
theorem numbered_any (n : Nm) (hn : n.length ≤ 9223372036854775807) (w : World) : Calls Tryz.prog 149 #[.string ⟨n.toArray⟩] w fun e w' => e = .returned (.bool (isNum n)) ∧ Below w.heap.size w w' := by
  have h1 := numberOf_any 98 n hn w
  have h2 := fun w => numberOf_any 114 n hn w
  have HD : Hid (isNum n = ((snum 98 n).isSome || (snum 114 n).isSome)) := Lib.hid rfl
  obtain ⟨sn, hsn⟩ : ∃ s : ByteArray, s = ⟨n.toArray⟩ := ⟨_, rfl⟩
  unfold numOf at h1 h2
  have hb : (⟨[98].toArray⟩ : ByteArray) = ⟨#[98]⟩ := rfl
  rw [hb, ← hsn] at h1
  simp only [← hsn] at h2
  rw [← hsn]
  obtain ⟨o1, ho1⟩ : ∃ o, o = (snum 98 n).isSome := ⟨_, rfl⟩
  obtain ⟨o2, ho2⟩ : ∃ o, o = (snum 114 n).isSome := ⟨_, rfl⟩
  rw [← ho1] at h1 HD
  simp only [← ho2] at h2 HD
  clear ho1 ho2 hsn hb
  go_enter Tryz.func149, Tryz.ntmps149
  go_wp2_with fail
  refine h1.mono ?_
  rintro e w1 ⟨rfl, hb1⟩
  have HB1 := Lib.hid hb1
  clear hb1 h1
  go_upto_region 2 with fail
  go_wp2_with fail
  refine (h2 _).mono ?_
  rintro e w2 ⟨rfl, hb2⟩
  have HB : Hid (Below w.heap.size w w2) := Lib.hid (HB1.out.trans (hb2.mono HB1.out.size))
  clear hb2 h2
  cases o1
  · go_wp2
    go_ret
    exact ⟨by rw [HD.out]; rfl, HB.out⟩
  · go_wp2
    go_ret
    exact ⟨by rw [HD.out]; rfl, HB.out⟩
end Go.Proofs.YtlckadlkgjfjcaaGreatDoor

namespace Go.Proofs.YtlckadlkgjfjcaaGreatDoor
open Go.RowKit

/-- What a store answers of its objects, from a world on. -/
structure Gets (w : World) (q : Nat) (D : DS) : Prop where
  get : ∀ W, Below w.heap.size w W → ∀ n : Nm, n.length ≤ 1000 → Calls Tryz.prog 137 #[.pointer (some ⟨q, 0, none⟩), nmV n] W (ReadDPost (sget D n) W)
  small : ∀ n : Nm, (sget D n).1.length ≤ 65536 ∧ ∀ y ∈ (sget D n).1, y < 256
theorem Gets.more {w W : World} {q : Nat} {D : DS} (h : Gets w q D) (hb : Below w.heap.size w W) : Gets W q D := ⟨fun W2 hb2 n hn => h.get W2 (hb.trans (hb2.mono hb.size)) n hn, h.small⟩

/-- What takeBase answers. -/
def TBasePost (D : DS) (ns : List Nm) (w : World) (r : Ending) (w' : World) : Prop :=
  Below w.heap.size w w' ∧ ∃ (U : US) (n c : Nat), RBase D ns U n c ∧ ((c ≠ 0 ∧ r = .returned (.tuple #[.pointer none, .int .i64 0, errV c])) ∨
    (c = 0 ∧ ∃ u m B, r = .returned (.tuple #[.pointer (some ⟨u, 0, none⟩), .int .i64 (n : Int), .nilIface]) ∧ Un w' B u m U ∧ w.heap.size ≤ u ∧ w.heap.size ≤ m ∧ ∀ j, B j → w.heap.size ≤ j))

set_option maxHeartbeats 4000000 in
set_option maxRecDepth 100000 in
theorem takeBase_any {w : World} {q base : Nat} {D : DS} (h : Gets w q D) {v : Value} {ns : List Nm} (hn : NmsO w base v ns) (hsn : ∀ x ∈ ns, x.length ≤ 1000) (hl : ns.length ≤ 500000) (ht : Tens w) :
    Calls Tryz.prog 95 #[.pointer (some ⟨q, 0, none⟩), v] w (TBasePost D ns w) := by
  obtain ⟨ao, cap, rfl⟩ := hn.val
  have HG := Lib.hid h
  have HN := Lib.hid hn
  have HSN := Lib.hid hsn
  have HT := Lib.hid ht
  obtain ⟨nn, hnn⟩ : ∃ n, n = ns.length := ⟨_, rfl⟩
  rw [← hnn] at hl ⊢
  have HNN := Lib.hid hnn
  have hnl : (nn : Int) ≤ 500000 := by omega
  clear h hn hsn ht hnn hl
  go_enter Tryz.func95, Tryz.ntmps95
  go_wp2
  go_loopw [7, 9, 10, 11, 17] (fun gv _ _ _ i wr => ∃ k : Nat, k ≤ nn ∧ i = .int .i64 (k : Int) ∧ gv = .int .i64 (gI (ns.take k)) ∧ Below w.heap.size w wr)
    (fun _ _ _ _ i _ => nn - (intOf i).toNat)
  case atStart => exact ⟨0, Nat.zero_le _, rfl, by rw [List.take_zero]; rfl, Below.refl _ _⟩
  case round =>
    obtain ⟨k, hk, rfl, rfl, hb⟩ := hrel
    have HB := Lib.hid hb
    by_cases hlt : k < nn
    · obtain ⟨x, hx⟩ : ∃ x, ns[k]? = some x := ⟨_, List.getElem?_eq_getElem (by rw [← HNN.out]; exact hlt)⟩
      obtain ⟨g, rfl, _, hgl, e0⟩ := HN.out.at hx
      have e0 := (hb.cell (p := ⟨g, k, none⟩) hgl).trans e0
      have hxl := HSN.out x (List.mem_of_getElem? hx)
      have hnf := numberOf_any 98 x (by omega) wr
      have HTK : Hid (gI (ns.take (k + 1)) = gStep (gI (ns.take k)) x) := Lib.hid (by rw [List.take_add_one, hx]; exact gI_snoc _ _)
      obtain ⟨s, hs⟩ : ∃ s : ByteArray, s = ⟨x.toArray⟩ := ⟨_, rfl⟩
      rw [show nmV x = .string s by rw [hs]; rfl] at e0
      rw [← hs] at hnf
      have hlti : (k : Int) < (nn : Int) := by omega
      obtain ⟨G, hG⟩ : ∃ G, G = gI (ns.take k) := ⟨_, rfl⟩
      rw [← hG] at HTK ⊢
      clear hb hgl hxl hs hG
      cases hsn : snum 98 x with
      | none =>
        have HG2 : Hid (gI (ns.take (k + 1)) = G) := Lib.hid (by rw [HTK.out]; unfold gStep; rw [hsn])
        unfold numOf at hnf
        rw [hsn] at hnf
        have HNF : Hid (Calls Tryz.prog 135 #[.string ⟨#[98]⟩, .string s] wr fun e w' => e = .returned (.tuple #[.int .i64 0, .bool false]) ∧ Below wr.heap.size wr w') := Lib.hid hnf
        clear hnf hsn hx
        go_wp2_with fail
        refine HNF.out.mono ?_
        rintro r w2 ⟨rfl, hb2⟩
        have HB2 : Hid (Below w.heap.size w w2) := Lib.hid (HB.out.trans (hb2.mono HB.out.size))
        clear hb2
        go_wp2
        go_roundw
        case rel => exact ⟨k + 1, by omega, by go_num, by rw [HG2.out], HB2.out⟩
        case measure => simp [intOf]; omega
      | some j =>
        have HG2 : Hid (gI (ns.take (k + 1)) = max G (j : Int)) := Lib.hid (by rw [HTK.out]; unfold gStep; rw [hsn])
        unfold numOf at hnf
        rw [hsn] at hnf
        have HNF : Hid (Calls Tryz.prog 135 #[.string ⟨#[98]⟩, .string s] wr fun e w' => e = .returned (.tuple #[.int .i64 (j : Int), .bool true]) ∧ Below wr.heap.size wr w') := Lib.hid hnf
        clear hnf hsn hx
        by_cases hgj : G < (j : Int)
        · have HM : Hid (max G (j : Int) = (j : Int)) := Lib.hid (Int.max_eq_right (by omega))
          go_wp2_with fail
          refine HNF.out.mono ?_
          rintro r w2 ⟨rfl, hb2⟩
          have HB2 : Hid (Below w.heap.size w w2) := Lib.hid (HB.out.trans (hb2.mono HB.out.size))
          clear hb2
          go_wp2
          go_roundw
          case rel => exact ⟨k + 1, by omega, by go_num, by rw [HG2.out, HM.out], HB2.out⟩
          case measure => simp [intOf]; omega
        · have HM : Hid (max G (j : Int) = G) := Lib.hid (Int.max_eq_left (by omega))
          go_wp2_with fail
          refine HNF.out.mono ?_
          rintro r w2 ⟨rfl, hb2⟩
          have HB2 : Hid (Below w.heap.size w w2) := Lib.hid (HB.out.trans (hb2.mono HB.out.size))
          clear hb2
          go_wp2
          go_roundw
          case rel => exact ⟨k + 1, by omega, by go_num, by rw [HG2.out, HM.out], HB2.out⟩
          case measure => simp [intOf]; omega
    · have hke : ns.take k = ns := by
        have : k = ns.length := by have := HNN.out; omega
        rw [this, List.take_length]
      rw [hke]
      obtain ⟨G, hG⟩ : ∃ G, G = gI ns := ⟨_, rfl⟩
      have hle := gI_le ns
      rw [← hG] at hle ⊢
      have HGG := Lib.hid hG
      have HNU := Lib.hid (new_unit wr)
      have hlti : ¬ (k : Int) < (nn : Int) := by omega
      clear hb hke hG
      by_cases hneg : G < 0
      · have HRB : Hid (RBase D ns unew 0 0) := Lib.hid (by unfold RBase; rw [← HGG.out, if_pos hneg]; exact ⟨rfl, rfl, rfl⟩)
        go_wp2_with fail
        refine HNU.out.mono ?_
        rintro r w2 ⟨rfl, hun, hb2⟩
        have HB2 : Hid (Below w.heap.size w w2) := Lib.hid (HB.out.trans (hb2.mono HB.out.size))
        have HUN := Lib.hid hun
        have HS : Hid (w.heap.size ≤ wr.heap.size) := Lib.hid HB.out.size
        clear hb2 hun
        go_wp2
        go_ret3
        exact ⟨HB2.out, unew, 0, 0, HRB.out, .inr ⟨rfl, _, _, _, rfl, HUN.out, by have := HS.out; omega, HS.out, fun j hj => hj.elim⟩⟩
      · obtain ⟨gn, hgn⟩ : ∃ gn : Nat, G = (gn : Int) := ⟨G.toNat, by omega⟩
        have HRN : Hid (gI ns = (gn : Int)) := Lib.hid (by rw [← HGG.out, hgn])
        have hgn9 : gn ≤ 99999999 := by omega
        have hno := nameOf_any [98] (by decide) gn hgn9 wr (HT.out.below HB.out)
        have HNO : Hid (Calls Tryz.prog 102 #[.string ⟨#[98]⟩, .int .i64 (gn : Int)] wr fun e w' => e = .returned (nmV (sname 98 gn)) ∧ Below wr.heap.size wr w') := Lib.hid hno
        subst hgn
        clear hno hgn9 hle hneg
        go_wp2_with fail
        refine HNO.out.mono ?_
        rintro r w2 ⟨rfl, hb2⟩
        have HB2 : Hid (Below w.heap.size w w2) := Lib.hid (HB.out.trans (hb2.mono HB.out.size))
        have HGE := Lib.hid (HG.out.get w2 HB2.out (sname 98 gn) (by rw [sname_len]; decide))
        obtain ⟨s, hs⟩ : ∃ s : ByteArray, nmV (sname 98 gn) = .string s := ⟨_, rfl⟩
        rw [hs] at HGE ⊢
        clear hb2 hs
        go_wp2_with fail
        refine HGE.out.mono ?_
        rintro r w3 ⟨v3, rfl, ho3, hb3⟩
        have hsm := HG.out.small (sname 98 gn)
        have HRB : Hid (∀ U n c, RBase D ns U n c ↔ if (sget D (sname 98 gn)).2 ≠ 0 then c = (sget D (sname 98 gn)).2 else RUnit (sget D (sname 98 gn)).1 U c ∧ (c = 0 → n = gn)) := Lib.hid fun U n c => by
          unfold RBase
          rw [HRN.out, if_neg (by omega), Int.toNat_natCast]
        obtain ⟨bs, hbs⟩ : ∃ bs, bs = (sget D (sname 98 gn)).1 := ⟨_, rfl⟩
        obtain ⟨cs, hcs⟩ : ∃ cs, cs = (sget D (sname 98 gn)).2 := ⟨_, rfl⟩
        rw [← hbs] at hsm ho3 HRB
        rw [← hcs] at HRB ⊢
        have HB3 : Hid (Below w.heap.size w w3) := Lib.hid (HB2.out.trans (hb3.mono HB2.out.size))
        obtain ⟨ao3, cap3, rfl, _, _, _⟩ := ho3.reads.val
        have HTU := Lib.hid (takeUnit_any _ bs w3 ho3.reads hsm.2 (by omega))
        obtain ⟨n3, hn3⟩ : ∃ n, n = bs.length := ⟨_, rfl⟩
        rw [← hn3] at HTU ⊢
        clear ho3 hb3 hsm hbs hcs hn3
        by_cases hz : cs = 0
        rotate_left
        · have HZ := Lib.hid hz
          rw [errV_pos hz]
          clear hz
          go_wp2
          go_ret3
          exact ⟨HB3.out, unew, 0, cs, (HRB.out _ _ _).2 (by rw [if_pos HZ.out]), .inl ⟨HZ.out, by rw [errV_pos HZ.out]; rfl⟩⟩
        have HZ := Lib.hid hz
        rw [hz, errV_zero]
        clear hz
        go_wp2_with fail
        refine HTU.out.mono ?_
        rintro r w4 ⟨hb4, U, c, hru, hcase⟩
        have HB4 : Hid (Below w.heap.size w w4) := Lib.hid (HB3.out.trans (hb4.mono HB3.out.size))
        have HS3 : Hid (w.heap.size ≤ w3.heap.size) := Lib.hid HB3.out.size
        have HRU := Lib.hid hru
        clear hb4 hru
        rcases hcase with ⟨hc, rfl⟩ | ⟨hc, u, m, B, rfl, hun, hu, hm, hB⟩
        · have HC := Lib.hid hc
          rw [errV_pos hc]
          clear hc
          go_wp2
          go_ret3
          exact ⟨HB4.out, U, 0, c, (HRB.out _ _ _).2 (by rw [if_neg (by simp [HZ.out])]; exact ⟨HRU.out, fun h => absurd h HC.out⟩), .inl ⟨HC.out, by rw [errV_pos HC.out]; rfl⟩⟩
        · have HC := Lib.hid hc
          have HUN := Lib.hid hun
          have HUM := Lib.hid (And.intro hu (And.intro hm hB))
          clear hc hun hu hm hB
          go_wp2
          go_ret3
          have h3 := HS3.out
          exact ⟨HB4.out, U, gn, c, (HRB.out _ _ _).2 (by rw [if_neg (by simp [HZ.out])]; exact ⟨HRU.out, fun _ => rfl⟩), .inr ⟨HC.out, u, m, B, rfl, HUN.out, Nat.le_trans h3 HUM.out.1, Nat.le_trans h3 HUM.out.2.1, fun j hj => Nat.le_trans h3 (HUM.out.2.2 j hj)⟩⟩

end Go.Proofs.YtlckadlkgjfjcaaGreatDoor

namespace Go.Proofs.YtlckadlkgjfjcaaGreatDoor
open Go.RowKit

set_option maxHeartbeats 1000000 in
set_option maxRecDepth 100000 in
theorem less_any (x y : Nm) (w : World) : Calls Tryz.prog 199 #[.string ⟨x.toArray⟩, .string ⟨y.toArray⟩] w fun e w' => e = .returned (.bool (decide (x < y))) ∧ w' = w := by
  have HL : Hid (Op.bytesLess (⟨x.toArray⟩ : ByteArray).toList (⟨y.toArray⟩ : ByteArray).toList = decide (x < y)) := Lib.hid (by rw [ByteArray.toList_eq, ByteArray.toList_eq, bytesLess_eq])
  obtain ⟨sx, hsx⟩ : ∃ s : ByteArray, s = ⟨x.toArray⟩ := ⟨_, rfl⟩
  obtain ⟨sy, hsy⟩ : ∃ s : ByteArray, s = ⟨y.toArray⟩ := ⟨_, rfl⟩
  rw [← hsx, ← hsy] at HL ⊢
  clear hsx hsy
  go_enter Tryz.func199, Tryz.ntmps199
  go_wp2
  go_ret
  exact ⟨by rw [← HL.out]; rfl, rfl⟩

/-- A name's place in a row: below it the row's names are smaller. -/
def sml (ns : List Nm) (x : Nm) (k : Nat) : Bool := decide (ns.getD k [] < x)
theorem found_iff (ns : List Nm) (x : Nm) (i : Nat) (hk : ∀ k, ns[k]? = some x → ∀ a, a < k → sml ns x a = true) (h1 : ∀ k, k < i → sml ns x k = true) (h2 : ∀ k, i ≤ k → k < ns.length → sml ns x k = false) : (decide (i < ns.length) && (ns.getD i [] == x)) = ns.contains x := by
  rw [Bool.eq_iff_iff, Bool.and_eq_true, decide_eq_true_iff, beq_iff_eq, List.contains_iff_mem]
  constructor
  · rintro ⟨hl, rfl⟩
    rw [List.getD, List.getElem?_eq_getElem hl]
    exact List.getElem_mem hl
  · intro hm
    obtain ⟨k, hkl, hkx⟩ := List.mem_iff_getElem.1 hm
    have hke : ns[k]? = some x := by rw [List.getElem?_eq_getElem hkl, hkx]
    have hns : sml ns x k = false := by
      unfold sml
      rw [List.getD, hke]
      exact decide_eq_false (List.lt_irrefl x)
    have hge : i ≤ k := by
      apply Classical.byContradiction
      intro h
      rw [h1 k (by omega)] at hns
      cases hns
    have hle : k ≤ i := by
      apply Classical.byContradiction
      intro h
      have := hk k hke i (by omega)
      rw [h2 i (Nat.le_refl _) (by omega)] at this
      cases this
    obtain rfl : k = i := by omega
    exact ⟨hkl, by rw [List.getD, hke]; rfl⟩

set_option maxHeartbeats 2000000 in
set_option maxRecDepth 100000 in
theorem search_any (ao : Option Addr) (cap : Nat) (ns : List Nm) (x : Nm) (w : World) (hl : ns.length ≤ 1000000)
    (hc : ∀ k y, ns[k]? = some y → ∃ b off, ao = some ⟨b, off, none⟩ ∧ w.cell? ⟨b, off + k, none⟩ = some (.string ⟨y.toArray⟩))
    (hm : ∀ a b, a ≤ b → b < ns.length → sml ns x b = true → sml ns x a = true)
    (hk : ∀ k, ns[k]? = some x → ∀ a, a < k → sml ns x a = true) :
    Calls Tryz.prog 139 #[.slice ao ns.length cap, .string ⟨x.toArray⟩] w fun e w' => ∃ i : Nat, e = .returned (.tuple #[.int .i64 (i : Int), .bool (ns.contains x)]) ∧ w' = w := by
  have HC := Lib.hid hc
  have HM := Lib.hid hm
  obtain ⟨ct, hct⟩ : ∃ c, c = ns.contains x := ⟨_, rfl⟩
  have HF := Lib.hid (fun i h1 h2 => (found_iff ns x i hk h1 h2).trans hct.symm)
  rw [← hct]
  have hll : (ns.length : Int) ≤ 1000000 := by omega
  obtain ⟨sx, hsx⟩ : ∃ s : ByteArray, s = ⟨x.toArray⟩ := ⟨_, rfl⟩
  rw [← hsx]
  have HLS : Hid (∀ (y : Nm) (sy : ByteArray), sy = ⟨y.toArray⟩ → ∀ w, Calls Tryz.prog 199 #[.string sy, .string sx] w fun e w' => e = .returned (.bool (decide (y < x))) ∧ w' = w) := Lib.hid fun y sy hsy w => by rw [hsy, hsx]; exact less_any y x w
  have HEQ : Hid (∀ (y : Nm) (sy : ByteArray), sy = ⟨y.toArray⟩ → (sy.toList == sx.toList) = (y == x)) := Lib.hid fun y sy hsy => by rw [hsy, hsx, ByteArray.toList_eq, ByteArray.toList_eq]
  clear hc hm hk hsx hct
  go_enter Tryz.func139, Tryz.ntmps139
  go_wp2
  go_loopw [7, 8, 9] (fun iv jv _ wr => ∃ i j : Nat, i ≤ j ∧ j ≤ ns.length ∧ iv = .int .i64 (i : Int) ∧ jv = .int .i64 (j : Int) ∧ (∀ k, k < i → sml ns x k = true) ∧ (∀ k, j ≤ k → k < ns.length → sml ns x k = false) ∧ wr = w)
    (fun iv jv _ _ => (intOf jv).toNat - (intOf iv).toNat)
  case atStart => exact ⟨0, ns.length, Nat.zero_le _, Nat.le_refl _, rfl, rfl, fun _ h => absurd h (Nat.not_lt_zero _), fun k h1 h2 => absurd h2 (by omega), rfl⟩
  case round =>
    obtain ⟨i, j, hij, hjn, rfl, rfl, h1, h2, rfl⟩ := hrel
    have H1 := Lib.hid h1
    have H2 := Lib.hid h2
    clear h1 h2
    by_cases hlt : i < j
    · have hlti : (i : Int) < j := by omega
      have hji : (j : Int) ≤ 1000000 := by omega
      go_upto_region 5 with fail
      obtain ⟨h, hh⟩ : ∃ h, h = (i + j) / 2 := ⟨_, rfl⟩
      have hhi : ((i : Int) + (j : Int)) / 2 = (h : Int) := by omega
      have hih : i ≤ h := by omega
      have hhj : h < j := by omega
      have hhn : h < ns.length := by omega
      obtain ⟨y, hy⟩ : ∃ y, ns[h]? = some y := ⟨_, List.getElem?_eq_getElem hhn⟩
      obtain ⟨b, off, rfl, e0⟩ := HC.out h y hy
      obtain ⟨sy, hsy⟩ : ∃ s : ByteArray, s = ⟨y.toArray⟩ := ⟨_, rfl⟩
      have hls := HLS.out y sy hsy wr
      rw [← hsy] at e0
      have HSM : Hid (sml ns x h = decide (y < x)) := Lib.hid (by unfold sml; rw [List.getD, hy]; rfl)
      obtain ⟨lt, hlt2⟩ : ∃ l, l = decide (y < x) := ⟨_, rfl⟩
      rw [← hlt2] at hls HSM
      have hhni : (h : Int) < ns.length := by omega
      have HIH := Lib.hid (And.intro hih hhj)
      have HJN := Lib.hid hjn
      rw [hhi]
      clear hlt2 hsy hy hh hih hhj hjn hij
      go_wp2_with fail
      refine hls.mono ?_
      rintro e w1 ⟨rfl, rfl⟩
      have hhm : (h : Int) ≤ 1000000 := by omega
      cases lt
      · go_wp2
        go_roundw
        case rel =>
          refine ⟨i, h, HIH.out.1, Nat.le_trans (Nat.le_of_lt HIH.out.2) HJN.out, rfl, rfl, H1.out, fun k h1 h2 => ?_, by first | rfl | trivial⟩
          cases hs : sml ns x k with
          | false => rfl
          | true =>
            have := HM.out h k h1 h2 hs
            rw [HSM.out] at this
            cases this
        case measure => have := HIH.out; simp [intOf]; omega
      · go_wp2
        go_roundw
        case rel =>
          refine ⟨h + 1, j, HIH.out.2, HJN.out, by first | rfl | (congr 1; omega), rfl, fun k hk => ?_, H2.out, by first | rfl | trivial⟩
          exact HM.out k h (by omega) (Nat.lt_of_lt_of_le HIH.out.2 HJN.out) HSM.out
        case measure => have := HIH.out; simp [intOf]; omega
    · obtain rfl : i = j := by omega
      have HFF := Lib.hid (HF.out i H1.out H2.out)
      clear hij
      by_cases hin : i < ns.length
      · obtain ⟨y, hy⟩ : ∃ y, ns[i]? = some y := ⟨_, List.getElem?_eq_getElem hin⟩
        obtain ⟨b, off, rfl, e0⟩ := HC.out i y hy
        obtain ⟨sy, hsy⟩ : ∃ s : ByteArray, s = ⟨y.toArray⟩ := ⟨_, rfl⟩
        have heq := HEQ.out y sy hsy
        rw [← hsy] at e0
        have HR : Hid (ct = (y == x)) := Lib.hid (by rw [← HFF.out, decide_eq_true hin, Bool.true_and, List.getD, hy]; rfl)
        obtain ⟨q, hq⟩ : ∃ q, q = (y == x) := ⟨_, rfl⟩
        rw [← hq] at heq HR
        have hini : (i : Int) < ns.length := by omega
        clear hq hsy hy hlt hjn
        cases q
        · go_wp2
          go_ret2
          exact ⟨i, by rw [HR.out]; rfl, rfl⟩
        · go_wp2
          go_ret2
          exact ⟨i, by rw [HR.out]; rfl, rfl⟩
      · have HR : Hid (ct = false) := Lib.hid (by rw [← HFF.out, decide_eq_false hin, Bool.false_and])
        have hini : ¬ (i : Int) < ns.length := by omega
        clear hlt hjn
        go_wp2
        go_ret2
        first
          | exact ⟨i, by rw [HR.out]; rfl, rfl⟩
          | exact ⟨⟨i, by rw [HR.out]; rfl⟩, rfl⟩
end Go.Proofs.YtlckadlkgjfjcaaGreatDoor

namespace Go.Proofs.YtlckadlkgjfjcaaGreatDoor

theorem nm_trans {a b c : Nm} (h1 : a < b) (h2 : b < c) : a < c := List.lt_trans h1 h2
theorem sml_down {ns : List Nm} (hp : ns.Pairwise (· < ·)) (x : Nm) (a b : Nat) (hab : a ≤ b) (hb : b < ns.length) (h : sml ns x b = true) : sml ns x a = true := by
  unfold sml at h ⊢
  rw [decide_eq_true_iff] at h ⊢
  rcases Nat.lt_or_ge a b with hl | hg
  · have := List.pairwise_iff_getElem.1 hp a b (by omega) hb hl
    rw [List.getD, List.getElem?_eq_getElem hb, Option.getD_some] at h
    rw [List.getD, List.getElem?_eq_getElem (by omega), Option.getD_some]
    exact nm_trans this h
  · obtain rfl : a = b := by omega
    exact h
theorem sml_below {ns : List Nm} (hp : ns.Pairwise (· < ·)) (x : Nm) (k : Nat) (hk : ns[k]? = some x) (a : Nat) (ha : a < k) : sml ns x a = true := by
  unfold sml
  rw [decide_eq_true_iff]
  obtain ⟨hkl, hkx⟩ := List.getElem?_eq_some_iff.1 hk
  have := List.pairwise_iff_getElem.1 hp a k (by omega) hkl ha
  rw [hkx] at this
  rwa [List.getD, List.getElem?_eq_getElem (by omega), Option.getD_some]
/-- Whether a name is in a row of names that rises. -/
theorem search_rising (ao : Option Addr) (cap : Nat) (ns : List Nm) (x : Nm) (w : World) (hl : ns.length ≤ 1000000) (hp : ns.Pairwise (· < ·))
    (hc : ∀ k y, ns[k]? = some y → ∃ b off, ao = some ⟨b, off, none⟩ ∧ w.cell? ⟨b, off + k, none⟩ = some (.string ⟨y.toArray⟩)) :
    Calls Tryz.prog 139 #[.slice ao ns.length cap, .string ⟨x.toArray⟩] w fun e w' => ∃ i : Nat, e = .returned (.tuple #[.int .i64 (i : Int), .bool (ns.contains x)]) ∧ w' = w :=
  search_any ao cap ns x w hl hc (sml_down hp x) (sml_below hp x)
end Go.Proofs.YtlckadlkgjfjcaaGreatDoor

namespace Go.Proofs.YtlckadlkgjfjcaaGreatDoor
open Go.RowKit

theorem nodup_le : ∀ {l ns : List Nm}, l.Nodup → (∀ x ∈ l, x ∈ ns) → l.length ≤ ns.length
  | [], _, _, _ => by simp
  | a :: r, ns, hn, hs => by
    have h1 := List.nodup_cons.1 hn
    have ha : a ∈ ns := hs a (by simp)
    have h2 := nodup_le (l := r) (ns := ns.erase a) h1.2 fun x hx => by
      have hne : x ≠ a := fun e => h1.1 (e ▸ hx)
      exact (List.mem_erase_of_ne hne).2 (hs x (by simp [hx]))
    have h3 := List.length_erase_of_mem ha
    have h4 := List.length_pos_of_mem ha
    rw [List.length_cons]
    omega
theorem sname_inj {c : UInt8} {a b : Nat} (ha : a ≤ 99999999) (hb : b ≤ 99999999) (h : sname c a = sname c b) : a = b := by
  have h1 := snum_sname c ha
  rw [h, snum_sname c hb] at h1
  simpa using h1.symm
/-- As many numbers that follow one another as have names among these. -/
theorem names_le {ns : List Nm} {first j : Nat} (hj : first + j ≤ 100000000) (h : ∀ i, i < j → ns.contains (sname 114 (first + i)) = true) : j ≤ ns.length := by
  have h1 : ((List.range j).map fun i => sname 114 (first + i)).Nodup := by
    refine List.pairwise_map.2 ((List.nodup_range).imp_of_mem fun {a b} ha hb hne he => hne ?_)
    have ha := List.mem_range.1 ha
    have hb := List.mem_range.1 hb
    have := sname_inj (c := 114) (by omega) (by omega) he
    omega
  have h2 := nodup_le h1 (ns := ns) fun x hx => by
    obtain ⟨i, hi, rfl⟩ := List.mem_map.1 hx
    exact List.contains_iff_mem.1 (h i (List.mem_range.1 hi))
  simpa using h2

/-- What takeActs answers. -/
def TActsPost (D : DS) (ns : List Nm) (first : Nat) (w : World) (r : Ending) (w' : World) : Prop :=
  Below w.heap.size w w' ∧ ∃ (l : List SA) (c : Nat), SActs D ns (100000000 - first) first l c ∧ ((c ≠ 0 ∧ r = .returned (.tuple #[.slice none 0 0, errV c])) ∨ (c = 0 ∧ ∃ v, r = .returned (.tuple #[v, .nilIface]) ∧ ActO w' w.heap.size v l))
/-- How far takeActs has come. -/
structure TAI (D : DS) (ns : List Nm) (first : Nat) (w wr : World) (av : Value) (j : Nat) (l : List SA) : Prop where
  len : l.length = j
  top : first + j ≤ 100000000
  own : ActO wr w.heap.size av l
  low : Below w.heap.size w wr
  has : ∀ i, i < j → ns.contains (sname 114 (first + i)) = true
  go : ∀ l2 c, SActs D ns (100000000 - first - j) (first + j) l2 c → SActs D ns (100000000 - first) first (if c = 0 then l ++ l2 else []) c
theorem tai_start {D : DS} {ns : List Nm} {first : Nat} {w : World} (h : first ≤ 99999999) : TAI D ns first w w (.slice none 0 0) 0 [] :=
  ⟨rfl, by omega, actO_nil _ _, Below.refl _ _, by simp, fun l2 c hs => by
    rw [Nat.sub_zero, Nat.add_zero] at hs
    by_cases hc : c = 0
    · rw [if_pos hc]; exact hs
    · rw [if_neg hc]
      have : l2 = [] := by
        cases hm : 100000000 - first with
        | zero => omega
        | succ m =>
          rw [hm] at hs
          unfold SActs at hs
          split at hs
          · exact hs.1
          · split at hs
            · exact hs.1
            · obtain ⟨k, e, a, d, c1, _, hs⟩ := hs
              split at hs
              · exact hs.1
              · obtain ⟨l1, _, h2⟩ := hs
                exact h2
      rw [← this]
      exact hs⟩
section
variable {D : DS} {ns : List Nm} {first j : Nat} {w wr : World} {av : Value} {l : List SA}
theorem TAI.stop (h : TAI D ns first w wr av j l) (hn : ns.contains (sname 114 (first + j)) = false) (hj : first + j ≤ 99999999) : SActs D ns (100000000 - first) first l 0 := by
  have := h.go [] 0 (by
    rw [show 100000000 - first - j = (100000000 - first - j - 1) + 1 by omega]
    unfold SActs
    rw [if_pos hn]
    exact ⟨rfl, rfl⟩)
  rw [if_pos rfl, List.append_nil] at this
  exact this
theorem TAI.full (h : TAI D ns first w wr av j l) (hj : ¬ first + j ≤ 99999999) : SActs D ns (100000000 - first) first l 0 := by
  have := h.go [] 0 (by
    rw [show 100000000 - first - j = 0 by omega]
    exact ⟨rfl, rfl⟩)
  rw [if_pos rfl, List.append_nil] at this
  exact this
theorem TAI.noget (h : TAI D ns first w wr av j l) (hn : ns.contains (sname 114 (first + j)) = true) (hj : first + j ≤ 99999999) {c : Nat} (hc : c = (sget D (sname 114 (first + j))).2) (hz : c ≠ 0) : SActs D ns (100000000 - first) first [] c := by
  have := h.go [] c (by
    rw [show 100000000 - first - j = (100000000 - first - j - 1) + 1 by omega]
    unfold SActs
    rw [if_neg (by rw [hn]; decide), if_pos (by rw [← hc]; exact hz)]
    exact ⟨rfl, hc⟩)
  rw [if_neg hz] at this
  exact this
theorem TAI.notake (h : TAI D ns first w wr av j l) (hn : ns.contains (sname 114 (first + j)) = true) (hj : first + j ≤ 99999999) (hg : (sget D (sname 114 (first + j))).2 = 0) {k e a c : Nat} {d : List Nat} (ht : RTake (sget D (sname 114 (first + j))).1 k e a d c) (hz : c ≠ 0) : SActs D ns (100000000 - first) first [] c := by
  have := h.go [] c (by
    rw [show 100000000 - first - j = (100000000 - first - j - 1) + 1 by omega]
    unfold SActs
    rw [if_neg (by rw [hn]; decide), if_neg (by simp [hg])]
    exact ⟨k, e, a, d, c, ht, by rw [if_pos hz]; exact ⟨rfl, rfl⟩⟩)
  rw [if_neg hz] at this
  exact this
theorem TAI.next (h : TAI D ns first w wr av j l) (hn : ns.contains (sname 114 (first + j)) = true) (hj : first + j ≤ 99999999) (hg : (sget D (sname 114 (first + j))).2 = 0) {k e a : Nat} {d : List Nat} (ht : RTake (sget D (sname 114 (first + j))).1 k e a d 0)
    {W : World} {av' : Value} (ho : ActO W w.heap.size av' (l ++ [⟨k, e, a, d⟩])) (hb : Below w.heap.size w W) : TAI D ns first w W av' (j + 1) (l ++ [⟨k, e, a, d⟩]) :=
  ⟨by rw [List.length_append, h.len]; rfl, by omega, ho, hb, fun i hi => by
    by_cases hij : i = j
    · rw [hij]; exact hn
    · exact h.has i (by omega), fun l2 c hs => by
    have h3 := h.go (if c = 0 then ⟨k, e, a, d⟩ :: l2 else []) c (by
      rw [show 100000000 - first - j = (100000000 - first - (j + 1)) + 1 by omega]
      unfold SActs
      rw [if_neg (by rw [hn]; decide), if_neg (by simp [hg])]
      exact ⟨k, e, a, d, 0, ht, by rw [if_neg (by decide)]; exact ⟨l2, by rw [show first + j + 1 = first + (j + 1) by omega]; exact hs, rfl⟩⟩)
    by_cases hc : c = 0
    · rw [if_pos hc] at h3 ⊢
      rw [if_pos hc] at h3
      rw [List.append_assoc]
      exact h3
    · rw [if_neg hc] at h3 ⊢
      exact h3⟩
end

theorem rtake_d8 {b d : List Nat} {k e a : Nat} (h8 : ∀ y ∈ b, y < 256) (h : RTake b k e a d 0) : (∀ y ∈ d, y < 256) ∧ a ≤ 1048576 := by
  obtain ⟨h1, h2⟩ := rtake_back h
  obtain ⟨_, _, _, _, _, ha, _, _, hk, _⟩ := rchk_zero h2
  refine ⟨fun y hy => ?_, by omega⟩
  by_cases h2k : (k : Int) = 2
  · refine h8 y ?_
    rw [h1]
    unfold fr fbody rtext
    have hk2 : k = 2 := by omega
    subst hk2
    simp [hy]
  · have := hk h2k
    have h0 : d = [] := List.length_eq_zero_iff.1 (by omega)
    rw [h0] at hy
    cases hy

set_option maxHeartbeats 4000000 in
set_option maxRecDepth 100000 in
theorem takeActs_any {w : World} {q base : Nat} {D : DS} (h : Gets w q D) {v : Value} {ns : List Nm} (hn : NmsO w base v ns) (hp : ns.Pairwise (· < ·)) (hl : ns.length ≤ 500000) (ht : Tens w) (first : Nat) (hf : first ≤ 99999999) :
    Calls Tryz.prog 96 #[.pointer (some ⟨q, 0, none⟩), v, .int .i64 (first : Int)] w (TActsPost D ns first w) := by
  obtain ⟨ao, cap, rfl⟩ := hn.val
  have HG := Lib.hid h
  have HN := Lib.hid hn
  have HP := Lib.hid hp
  have HL := Lib.hid hl
  have HT := Lib.hid ht
  have HS := Lib.hid (tai_start (D := D) (ns := ns) (w := w) hf)
  have HF := Lib.hid hf
  obtain ⟨nn, hnn⟩ : ∃ n, n = ns.length := ⟨_, rfl⟩
  rw [← hnn]
  have HNN := Lib.hid hnn
  clear h hn hp hl ht hf hnn
  go_enter Tryz.func96, Tryz.ntmps96
  go_wp2
  go_loopw [8, 9, 10, 11, 12, 13, 14, 15] (fun av nv _ _ _ _ _ _ wr => ∃ (j : Nat) (l : List SA), nv = .int .i64 ((first + j : Nat) : Int) ∧ TAI D ns first w wr av j l)
    (fun _ nv _ _ _ _ _ _ _ => 100000000 - (intOf nv).toNat)
  case atStart => exact ⟨0, [], rfl, HS.out⟩
  case round =>
    obtain ⟨j, l, rfl, hti⟩ := hrel
    have HTI := Lib.hid hti
    obtain ⟨ao8, cap8, rfl⟩ := hti.own.val
    obtain ⟨n8, hn8⟩ : ∃ n, n = l.length := ⟨_, rfl⟩
    rw [← hn8] at HTI ⊢
    obtain ⟨num, hnum⟩ : ∃ n, n = first + j := ⟨_, rfl⟩
    rw [← hnum]
    have HNM := Lib.hid hnum
    by_cases hle : num ≤ 99999999
    rotate_left
    · have hle2 : ¬ (num : Int) ≤ 99999999 := by omega
      have HFU := Lib.hid (hti.full (by rw [← hnum]; exact hle))
      clear hti hn8 hnum hle
      go_wp2
      go_ret2
      exact ⟨HTI.out.low, l, 0, HFU.out, .inr ⟨rfl, _, rfl, HTI.out.own⟩⟩
    have hle2 : (num : Int) ≤ 99999999 := by omega
    have HLE := Lib.hid hle
    have hno := nameOf_any [114] (by decide) num hle wr (HT.out.below hti.low)
    have HNO : Hid (Calls Tryz.prog 102 #[.string ⟨#[114]⟩, .int .i64 (num : Int)] wr fun e w' => e = .returned (nmV (sname 114 num)) ∧ Below wr.heap.size wr w') := Lib.hid hno
    clear hti hn8 hnum hle hno
    go_wp2_with fail
    refine HNO.out.mono ?_
    rintro r w2 ⟨rfl, hb2⟩
    have HB2 : Hid (Below w.heap.size w w2) := Lib.hid (HTI.out.low.trans (hb2.mono HTI.out.low.size))
    have HB2r := Lib.hid hb2
    have hse := search_rising ao cap ns (sname 114 num) w2 (by have := HL.out; omega) HP.out (fun k y hy => by
      obtain ⟨g, ha, _, hgl, e0⟩ := HN.out.at hy
      exact ⟨g, 0, ha, by rw [Nat.zero_add]; exact (HB2.out.cell (p := ⟨g, k, none⟩) hgl).trans e0⟩)
    rw [← HNN.out] at hse
    have hge := HG.out.get w2 HB2.out (sname 114 num) (by rw [sname_len]; decide)
    obtain ⟨s, hs⟩ : ∃ s : ByteArray, s = ⟨(sname 114 num).toArray⟩ := ⟨_, rfl⟩
    rw [show nmV (sname 114 num) = .string s by rw [hs]; rfl] at hge ⊢
    rw [← hs] at hse
    have HGE := Lib.hid hge
    obtain ⟨bt, hbt⟩ : ∃ b, b = ns.contains (sname 114 num) := ⟨_, rfl⟩
    rw [← hbt] at hse
    have HBT := Lib.hid hbt
    have HSE := Lib.hid hse
    clear hb2 hse hge hs hbt
    go_wp2_with fail
    refine HSE.out.mono ?_
    rintro r w3 ⟨i, rfl, rfl⟩
    cases bt
    · have HST := Lib.hid (HTI.out.stop (by rw [← HNM.out]; exact HBT.out.symm) (by rw [← HNM.out]; exact HLE.out))
      have HOW := Lib.hid (HTI.out.own.grown HB2r.out)
      go_wp2
      go_ret2
      exact ⟨HB2.out, l, 0, HST.out, .inr ⟨rfl, _, rfl, HOW.out⟩⟩
    go_wp2_with fail
    refine HGE.out.mono ?_
    rintro r w4 ⟨v4, rfl, ho4, hb4⟩
    have hsm := HG.out.small (sname 114 num)
    have HBTT : Hid (ns.contains (sname 114 (first + j)) = true) := Lib.hid (by rw [← HNM.out]; exact HBT.out.symm)
    have HLEE : Hid (first + j ≤ 99999999) := Lib.hid (by rw [← HNM.out]; exact HLE.out)
    obtain ⟨bs, hbs⟩ : ∃ bs, bs = (sget D (sname 114 num)).1 := ⟨_, rfl⟩
    obtain ⟨cs, hcs⟩ : ∃ cs, cs = (sget D (sname 114 num)).2 := ⟨_, rfl⟩
    rw [← hbs] at hsm ho4
    rw [← hcs]
    have HBS : Hid (bs = (sget D (sname 114 (first + j))).1) := Lib.hid (by rw [hbs, HNM.out])
    have HCS : Hid (cs = (sget D (sname 114 (first + j))).2) := Lib.hid (by rw [hcs, HNM.out])
    have HSM := Lib.hid hsm
    have HB4 : Hid (Below w.heap.size w w4) := Lib.hid (HB2.out.trans (hb4.mono HB2.out.size))
    have HB4r : Hid (Below wr.heap.size wr w4) := Lib.hid (HB2r.out.trans (hb4.mono HB2r.out.size))
    obtain ⟨ao4, cap4, rfl, _, _, _⟩ := ho4.reads.val
    have HTK := Lib.hid (rtake_any _ bs w4 ho4.reads hsm.2 (by omega))
    obtain ⟨n4, hn4⟩ : ∃ n, n = bs.length := ⟨_, rfl⟩
    rw [← hn4] at HTK ⊢
    clear ho4 hb4 hsm hbs hcs hn4
    by_cases hz : cs = 0
    rotate_left
    · have HZ := Lib.hid hz
      have HNG := Lib.hid (HTI.out.noget HBTT.out HLEE.out HCS.out hz)
      rw [errV_pos hz]
      clear hz
      go_wp2
      go_ret2
      exact ⟨HB4.out, [], cs, HNG.out, .inl ⟨HZ.out, by rw [errV_pos HZ.out]; rfl⟩⟩
    have HZ : Hid ((sget D (sname 114 (first + j))).2 = 0) := Lib.hid (by rw [← HCS.out, hz])
    rw [hz, errV_zero]
    clear hz
    go_wp2_with fail
    refine HTK.out.mono ?_
    rintro r w5 ⟨ka, ea, aa, v5, d5, c5, rfl, hrt, ho5, hb5⟩
    have HRT : Hid (RTake (sget D (sname 114 (first + j))).1 ka ea aa d5 c5) := Lib.hid (by rw [← HBS.out]; exact hrt)
    obtain ⟨ao5, cap5, rfl, _, _, _⟩ := ho5.reads.val
    have HB5 : Hid (Below w.heap.size w w5) := Lib.hid (HB4.out.trans (hb5.mono HB4.out.size))
    have HB5r : Hid (Below wr.heap.size wr w5) := Lib.hid (HB4r.out.trans (hb5.mono HB4r.out.size))
    have HO5 := Lib.hid (ho5.mono HB4.out.size)
    obtain ⟨n5, hn5⟩ : ∃ n, n = d5.length := ⟨_, rfl⟩
    rw [← hn5] at HO5 ⊢
    clear hrt ho5 hb5 hn5
    by_cases hz5 : c5 = 0
    rotate_left
    · have HZ5 := Lib.hid hz5
      have HNT := Lib.hid (HTI.out.notake HBTT.out HLEE.out HZ.out HRT.out hz5)
      rw [errV_pos hz5]
      clear hz5
      go_wp2
      go_ret2
      exact ⟨HB5.out.alloc HB5.out.size _, [], c5, HNT.out, .inl ⟨HZ5.out, by rw [errV_pos HZ5.out]; rfl⟩⟩
    subst hz5
    obtain ⟨W6, hW6⟩ : ∃ W, W = w5.alloc (.cells #[.int .i64 (ka : Int), .int .i64 (ea : Int), .int .i64 (aa : Int), .slice ao5 n5 cap5] 67) := ⟨_, rfl⟩
    have hb6 : Below w5.heap.size w5 W6 := by rw [hW6]; exact (Below.refl _ _).alloc (Nat.le_refl _) _
    have hx6 : W6.heap[w5.heap.size]? = some (.cells #[.int .i64 (ka : Int), .int .i64 (ea : Int), .int .i64 (aa : Int), .slice ao5 n5 cap5] 67 (0, 0)) := by rw [hW6]; exact heap_alloc_new _ _
    have HB6 : Hid (Below w.heap.size w W6) := Lib.hid (HB5.out.trans (hb6.mono HB5.out.size))
    have HOW6 := Lib.hid (HTI.out.own.grown (HB5r.out.trans (hb6.mono HB5r.out.size)))
    have HD6 : Hid (At W6 (Own W6 w.heap.size 5) .u8 (.slice ao5 n5 cap5) d5) := Lib.hid (HO5.out.below hb6 (Nat.le_refl _)).at'
    have hlen : l.length ≤ 500000 := by
      have h1 := names_le (ns := ns) (first := first) (j := j) HTI.out.top HTI.out.has
      have h2 := HTI.out.len
      have h3 := HL.out
      omega
    have HLEN := Lib.hid hlen
    obtain ⟨x0, x1, x2, x3, _⟩ := four_cells9 hx6
    rw [hW6] at x0 x1 x2 x3
    have HS6 : Hid (W6.heap.size = w5.heap.size + 1) := Lib.hid (by rw [hW6]; simp)
    have HW6 := Lib.hid hW6
    rw [errV_zero]
    clear hb6 hx6 hlen hW6
    go_wp2_with (at_builtin; go_must (rw [← HW6.out]; refine wpList_appSA _ rfl _ _ rfl w.heap.size _ l rfl W6 ⟨ka, ea, aa, d5⟩ (.slice ao5 n5 cap5) rfl rfl HOW6.out HD6.out (by rw [HS6.out]; rfl) (by have := HLEN.out; omega) HB6.out.size ?_))
    intro v7 w7 ho7 hb7
    have HN7 := Lib.hid (HTI.out.next HBTT.out HLEE.out HZ.out HRT.out ho7 (HB6.out.trans hb7))
    clear ho7 hb7 x0 x1 x2 x3
    go_wp2
    go_roundw
    case rel => exact ⟨j + 1, _, by first | exact congrArg (Value.int .i64) (by have := HNM.out; omega) | (simp only [wrap64]; exact congrArg (Value.int .i64) (by have := HNM.out; omega)), HN7.out⟩
    case measure => simp [intOf]; omega

end Go.Proofs.YtlckadlkgjfjcaaGreatDoor

namespace Go.Proofs.YtlckadlkgjfjcaaGreatDoor
open Go.RowKit

theorem sdo_next {U : US} {f : SA} {r : List SA} (h : (rapply U f.k f.e f.a f.d).2.2 = 0) : sdo U (f :: r) = sdo (rapply U f.k f.e f.a f.d).2.1 r := by rw [sdo, if_pos h]
theorem sdo_stop {U : US} {f : SA} {r : List SA} (h : (rapply U f.k f.e f.a f.d).2.2 ≠ 0) : sdo U (f :: r) = ((rapply U f.k f.e f.a f.d).2.1, false) := by rw [sdo, if_neg h]

set_option maxHeartbeats 4000000 in
set_option maxRecDepth 100000 in
theorem doAll_any {w : World} {B : Nat → Prop} {u m base : Nat} {U : US} (h : Un w B u m U) {v : Value} {l : List SA} (ho : ActO w base v l) (hu : u < base) (hm : m < base) (hl : l.length ≤ 1000000) (h8 : ∀ f ∈ l, (∀ y ∈ f.d, y < 256) ∧ f.a ≤ 1048576) :
    Calls Tryz.prog 97 #[.pointer (some ⟨u, 0, none⟩), v] w fun r w' => r = .returned (.bool (sdo U l).2) ∧ UPost w B u m (sdo U l).1 w' := by
  obtain ⟨ao, cap, rfl⟩ := ho.val
  have HO := Lib.hid ho
  have H8 := Lib.hid h8
  have HUM : Hid (u < base ∧ m < base) := Lib.hid ⟨hu, hm⟩
  have HS : Hid (UPost w B u m U w) := Lib.hid (UPost.same h (Below.refl _ _))
  obtain ⟨n, hn⟩ : ∃ n, n = l.length := ⟨_, rfl⟩
  rw [← hn] at hl ⊢
  have HN := Lib.hid hn
  have hnl : (n : Int) ≤ 1000000 := by omega
  clear h ho hu hm h8 hn hl
  go_enter Tryz.func97, Tryz.ntmps97
  go_wp2
  go_loopw [6, 7, 8, 11] (fun _ _ _ i wr => ∃ (k : Nat) (V : US), k ≤ n ∧ i = .int .i64 (k : Int) ∧ sdo U l = sdo V (l.drop k) ∧ UPost w B u m V wr)
    (fun _ _ _ i _ => n - (intOf i).toNat)
  case atStart => exact ⟨0, U, Nat.zero_le _, rfl, by first | rfl | simp, HS.out⟩
  case round =>
    obtain ⟨k, V, hk, rfl, hdo, hp⟩ := hrel
    have HDO := Lib.hid hdo
    have HP := Lib.hid hp
    by_cases hlt : k < n
    rotate_left
    · have hke : k = l.length := by have := HN.out; omega
      have HE : Hid (sdo U l = (V, true)) := Lib.hid (by rw [HDO.out, hke, List.drop_length]; rfl)
      have hlti : ¬ (k : Int) < (n : Int) := by omega
      clear hdo hp hke
      go_wp2
      go_ret
      rw [HE.out]
      exact ⟨rfl, HP.out⟩
    obtain ⟨f, hf⟩ : ∃ f, l[k]? = some f := ⟨_, List.getElem?_eq_getElem (by rw [← HN.out]; exact hlt)⟩
    have how : ActO wr base (.slice ao n cap) l := by
      have := HO.out.keepB (hp.2.size) fun j hj hj2 => hp.2.block j hj2 (by have := HUM.out; omega)
      rwa [← HN.out] at this
    obtain ⟨b, off, dv, rfl, _, _, c0, c1, c2, c3, hat⟩ := how.at hf
    obtain ⟨f8, fa⟩ := H8.out f (List.mem_of_getElem? hf)
    have hdr : l.drop k = f :: l.drop (k + 1) := by
      have h1 := List.getElem?_eq_some_iff.1 hf
      rw [← h1.2, List.getElem_cons_drop]
    obtain ⟨ao6, cap6, rfl, _, _, _⟩ := hat.reads.val
    obtain ⟨nd, hnd⟩ : ∃ n, n = f.d.length := ⟨_, rfl⟩
    obtain ⟨W6, hW6⟩ : ∃ W, W = wr.alloc (.cells #[.int .i64 (f.k : Int), .int .i64 (f.e : Int), .int .i64 (f.a : Int), .slice ao6 f.d.length cap6] 67) := ⟨_, rfl⟩
    have hb6 : Below wr.heap.size wr W6 := by rw [hW6]; exact (Below.refl _ _).alloc (Nat.le_refl _) _
    have hx6 : W6.heap[wr.heap.size]? = some (.cells #[.int .i64 (f.k : Int), .int .i64 (f.e : Int), .int .i64 (f.a : Int), .slice ao6 f.d.length cap6] 67 (0, 0)) := by rw [hW6]; exact heap_alloc_new _ _
    have HAP := Lib.hid (rapply_any (hp.1.old hb6) (f.k : Int) (f.e : Int) (a := (f.a : Int)) ⟨by omega, by omega⟩ (hat.reads.new hb6) f8)
    have HFR : Hid (Fr (fun j => j = u ∨ j = m) w W6) := Lib.hid (hp.2.trans (fr_below hb6 (fun _ => False)) (fun _ _ h => h) (fun _ _ h => h.elim))
    have HSZ : Hid (w.heap.size ≤ W6.heap.size) := Lib.hid (Nat.le_trans hp.2.size hb6.size)
    obtain ⟨x0, x1, x2, x3, _⟩ := four_cells9 hx6
    rw [hW6] at x0 x1 x2 x3
    have HDR := Lib.hid hdr
    have hlti : (k : Int) < (n : Int) := by omega
    obtain ⟨R, hR⟩ : ∃ R, R = rapply V f.k f.e f.a f.d := ⟨_, rfl⟩
    rw [← hR] at HAP
    have HRR := Lib.hid hR
    have HW6 := Lib.hid hW6
    rw [← hnd] at HAP hW6 x0 x1 x2 x3 c3
    have HW6 := Lib.hid hW6
    have HNU : Hid (¬ B u ∧ u < w.heap.size ∧ ¬ B m ∧ m < w.heap.size) := Lib.hid ⟨fun h => hp.1.nu (.inl h), Nat.lt_of_not_le fun h => hp.1.nu (.inr h), fun h => hp.1.nm (.inl h), Nat.lt_of_not_le fun h => hp.1.nm (.inr h)⟩
    clear hdo hp how hat hdr f8 fa hf hnd hb6 hx6 hR hW6
    go_wp2_with fail
    rw [← HW6.out]
    refine HAP.out.mono ?_
    rintro r w7 ⟨rfl, hp7⟩
    have HP7 : Hid (UPost w B u m R.2.1 w7) := Lib.hid ⟨hp7.1.more (fun j hj hB => by
        rcases hB with (hB | hB) | hB
        · exact .inl hB
        · exact .inr hB
        · exact .inr (Nat.le_trans HSZ.out hB)) (fun hc => hc.elim HNU.out.1 (by have := HNU.out; omega)) (fun hc => hc.elim HNU.out.2.2.1 (by have := HNU.out; omega)), HFR.out.trans hp7.2 (fun _ _ h => h) (fun _ _ h => h)⟩
    clear hp7 x0 x1 x2 x3
    by_cases hz : R.2.2 = 0
    · have HD2 : Hid (sdo U l = sdo R.2.1 (l.drop (k + 1))) := Lib.hid (by rw [HDO.out, HDR.out, sdo_next (by rw [← HRR.out]; exact hz), ← HRR.out])
      rw [hz, errV_zero]
      clear hz
      go_wp2
      go_roundw
      case rel => exact ⟨k + 1, R.2.1, by omega, by go_num, HD2.out, HP7.out⟩
      case measure => simp [intOf]; omega
    · have HD2 : Hid (sdo U l = (R.2.1, false)) := Lib.hid (by rw [HDO.out, HDR.out, sdo_stop (by rw [← HRR.out]; exact hz), ← HRR.out])
      rw [errV_pos hz]
      clear hz
      go_wp2
      go_ret
      rw [HD2.out]
      exact ⟨rfl, HP7.out⟩

end Go.Proofs.YtlckadlkgjfjcaaGreatDoor

namespace Go.Proofs.YtlckadlkgjfjcaaGreatDoor
open Go.RowKit

theorem nm_le_lt {x y : Nm} (h : decide (x ≤ y) = true) (hne : x ≠ y) : x < y := by
  have h1 : x ≤ y := of_decide_eq_true h
  rcases List.le_iff_lt_or_eq.1 h1 with h2 | h2
  · exact h2
  · exact absurd h2 hne
theorem srt_rises {l : List Nm} (hn : l.Nodup) : (srt l).Pairwise (· < ·) := by
  have h1 : (srt l).Pairwise fun a b => decide (a ≤ b) = true := by
    refine List.pairwise_mergeSort (fun a b c hab hbc => ?_) (fun a b => ?_) l
    · exact decide_eq_true (List.le_trans (of_decide_eq_true hab) (of_decide_eq_true hbc))
    · rw [Bool.or_eq_true, decide_eq_true_iff, decide_eq_true_iff]
      exact List.le_total a b
  have h2 : (srt l).Nodup := (List.mergeSort_perm l _).nodup_iff.2 hn
  exact (h1.and h2).imp fun {a b} h => nm_le_lt h.1 h.2
/-- The objects' names of a disk: short, few, and they rise. -/
theorem slist_names {w : World} {S : Nat → Prop} {p : Nat} {d : DS} (h : Dk w S p d) (b : Nm) : (∀ x ∈ (slist d b).1, x.length ≤ 1000) ∧ (slist d b).1.length ≤ d.sz ∧ (slist d b).1.Pairwise (· < ·) := by
  have hd := dlist_length d
  have hap : Apart d.shown := by
    obtain ⟨m1, m2, cv, h⟩ := h
    exact h.shown.apart
  have hp : (dlist d).1.Pairwise (· < ·) := by
    unfold dlist
    split
    · exact List.Pairwise.nil
    · refine srt_rises ?_
      exact List.pairwise_map.2 (hap.imp fun h => h)
  unfold slist
  split
  · exact ⟨by simp, by simp, List.Pairwise.nil⟩
  · refine ⟨fun x hx => ?_, Nat.le_trans (List.length_filter_le _ _) hd, hp.filter _⟩
    have h1 := (List.mem_filter.1 hx).2
    unfold listP at h1
    rw [Bool.and_eq_true] at h1
    have h2 := h1.1
    unfold snamed at h2
    simp only [Bool.and_eq_true, decide_eq_true_eq] at h2
    omega

/-- What opening a disk comes to: the disk then, the unit, the next number; an error's number. -/
def ROpen (d D : DS) (U : US) (next c : Nat) : Prop :=
  D = (sopen d).1 ∧ if (sopen d).2 ≠ 0 then c = (sopen d).2 else if (slist D []).2 ≠ 0 then c = (slist D []).2 else
    ∃ U0 n c1, RBase D (slist D []).1 U0 n c1 ∧ if c1 ≠ 0 then c = c1 else
      ∃ l c2, SActs D (slist D []).1 (100000000 - n) n l c2 ∧ if c2 ≠ 0 then c = c2 else if (sdo U0 l).2 = false then c = 13 else c = 0 ∧ U = (sdo U0 l).1 ∧ next = n + l.length
section
variable {d D : DS} {ns : List Nm}
theorem ropen_bad {c : Nat} (h : sopen d = (D, c)) (hc : c ≠ 0) : ROpen d D unew 0 c := by
  unfold ROpen
  rw [h]
  exact ⟨rfl, (if_pos hc).mpr rfl⟩
theorem ropen_list {c : Nat} (h : sopen d = (D, 0)) (h1 : slist D [] = (ns, c)) (hc : c ≠ 0) : ROpen d D unew 0 c := by
  unfold ROpen
  rw [h]
  refine ⟨rfl, ?_⟩
  rw [if_neg (fun h : (0 : Nat) ≠ 0 => h rfl), h1, if_pos hc]
theorem ropen_base {U0 : US} {n c : Nat} (h : sopen d = (D, 0)) (h1 : slist D [] = (ns, 0)) (h2 : RBase D ns U0 n c) (hc : c ≠ 0) : ROpen d D unew 0 c := by
  unfold ROpen
  rw [h]
  refine ⟨rfl, ?_⟩
  rw [if_neg (fun h : (0 : Nat) ≠ 0 => h rfl), h1, if_neg (fun h : (0 : Nat) ≠ 0 => h rfl)]
  exact ⟨U0, n, c, h2, by rw [if_pos hc]⟩
theorem ropen_acts {U0 : US} {n c : Nat} {l : List SA} (h : sopen d = (D, 0)) (h1 : slist D [] = (ns, 0)) (h2 : RBase D ns U0 n 0) (h3 : SActs D ns (100000000 - n) n l c) (hc : c ≠ 0) : ROpen d D unew 0 c := by
  unfold ROpen
  rw [h]
  refine ⟨rfl, ?_⟩
  rw [if_neg (fun h : (0 : Nat) ≠ 0 => h rfl), h1, if_neg (fun h : (0 : Nat) ≠ 0 => h rfl)]
  refine ⟨U0, n, 0, h2, ?_⟩
  rw [if_neg (fun h : (0 : Nat) ≠ 0 => h rfl)]
  exact ⟨l, c, h3, by rw [if_pos hc]⟩
theorem ropen_state {U0 : US} {n : Nat} {l : List SA} (h : sopen d = (D, 0)) (h1 : slist D [] = (ns, 0)) (h2 : RBase D ns U0 n 0) (h3 : SActs D ns (100000000 - n) n l 0) (h4 : (sdo U0 l).2 = false) : ROpen d D unew 0 13 := by
  unfold ROpen
  rw [h]
  refine ⟨rfl, ?_⟩
  rw [if_neg (fun h : (0 : Nat) ≠ 0 => h rfl), h1, if_neg (fun h : (0 : Nat) ≠ 0 => h rfl)]
  refine ⟨U0, n, 0, h2, ?_⟩
  rw [if_neg (fun h : (0 : Nat) ≠ 0 => h rfl)]
  refine ⟨l, 0, h3, ?_⟩
  rw [if_neg (fun h : (0 : Nat) ≠ 0 => h rfl), if_pos h4]
theorem ropen_ok {U0 U : US} {n : Nat} {l : List SA} (h : sopen d = (D, 0)) (h1 : slist D [] = (ns, 0)) (h2 : RBase D ns U0 n 0) (h3 : SActs D ns (100000000 - n) n l 0) (h4 : sdo U0 l = (U, true)) : ROpen d D U (n + l.length) 0 := by
  unfold ROpen
  rw [h]
  refine ⟨rfl, ?_⟩
  rw [if_neg (fun h : (0 : Nat) ≠ 0 => h rfl), h1, if_neg (fun h : (0 : Nat) ≠ 0 => h rfl)]
  refine ⟨U0, n, 0, h2, ?_⟩
  rw [if_neg (fun h : (0 : Nat) ≠ 0 => h rfl)]
  refine ⟨l, 0, h3, ?_⟩
  rw [if_neg (fun h : (0 : Nat) ≠ 0 => h rfl), h4, if_neg (fun h : true = false => Bool.noConfusion h)]
  exact ⟨rfl, rfl, rfl⟩
end
/-- A shelf at a block, beside its disk's blocks. -/
structure ShelfAt (w : World) (S : Nat → Prop) (h p q u m : Nat) (B : Nat → Prop) (U : US) (next : Nat) (br : Bool) : Prop where
  box : w.heap[h]? = some (.cells #[.pointer (some ⟨q, 0, none⟩), .pointer (some ⟨u, 0, none⟩), .int .i64 (next : Int), .bool br] 150 (0, 0))
  st : AtS w q p
  un : Un w B u m U
  sh : ¬ S h ∧ ¬ S q ∧ ¬ S u ∧ ¬ S m ∧ ∀ j, B j → ¬ S j
  hne : h ≠ q ∧ h ≠ u ∧ h ≠ m ∧ ¬ B h
  qne : q ≠ u ∧ q ≠ m ∧ ¬ B q
theorem rbase_le {D : DS} {ns : List Nm} {U : US} {n c : Nat} (h : RBase D ns U n c) (hc : c = 0) : n ≤ 99999999 := by
  have hg := gI_le ns
  unfold RBase at h
  split at h
  · omega
  · split at h
    · omega
    · have := h.2 hc
      omega
theorem sacts_ok {D : DS} {ns : List Nm} (h8 : ∀ n : Nm, ∀ y ∈ (sget D n).1, y < 256) : ∀ {m n : Nat} {l : List SA} {c : Nat}, SActs D ns m n l c → ∀ f ∈ l, (∀ y ∈ f.d, y < 256) ∧ f.a ≤ 1048576
  | 0, _, _, _, h => by
    rw [h.1]
    simp
  | m + 1, n, l, c, h => by
    unfold SActs at h
    split at h
    · rw [h.1]; simp
    · split at h
      · rw [h.1]; simp
      · obtain ⟨k, e, a, d, c1, ht, h⟩ := h
        split at h
        · rw [h.1]; simp
        · rename_i hz
          obtain rfl : c1 = 0 := Classical.not_not.1 hz
          obtain ⟨l1, h1, h2⟩ := h
          intro f hf
          rw [h2] at hf
          split at hf
          · rcases List.mem_cons.1 hf with rfl | hf
            · exact rtake_d8 (h8 _) ht
            · exact sacts_ok h8 h1 f hf
          · cases hf
theorem sacts_len {D : DS} {ns : List Nm} : ∀ {m n : Nat} {l : List SA} {c : Nat}, SActs D ns m n l c → l.length ≤ m ∧ ∀ i, i < l.length → ns.contains (sname 114 (n + i)) = true
  | 0, _, _, _, h => by
    rw [h.1]
    simp
  | m + 1, n, l, c, h => by
    unfold SActs at h
    split at h
    · rw [h.1]; simp
    · rename_i hn
      split at h
      · rw [h.1]; simp
      · obtain ⟨k, e, a, d, c1, ht, h⟩ := h
        split at h
        · rw [h.1]; simp
        · obtain ⟨l1, h1, h2⟩ := h
          obtain ⟨i1, i2⟩ := sacts_len h1
          rw [h2]
          split
          · refine ⟨by rw [List.length_cons]; omega, fun i hi => ?_⟩
            cases i with
            | zero => simpa using hn
            | succ i =>
              have := i2 i (by rw [List.length_cons] at hi; omega)
              rw [show n + 1 + i = n + (i + 1) by omega] at this
              exact this
          · simp
theorem sacts_few {D : DS} {ns : List Nm} {n : Nat} {l : List SA} {c : Nat} (h : SActs D ns (100000000 - n) n l c) (hn : n ≤ 99999999) : l.length ≤ ns.length := by
  obtain ⟨h1, h2⟩ := sacts_len h
  exact names_le (by omega) h2

theorem AtS.old {w w' : World} {q p : Nat} (h : AtS w q p) (hb : Below w.heap.size w w') : AtS w' q p := ⟨(hb.cell (p := ⟨q, 0, none⟩) h.2).trans h.1, Nat.lt_of_lt_of_le h.2 hb.size⟩
theorem gets_of {w : World} {S : Nat → Prop} {p q : Nat} {D : DS} (h : Dk w S p D) (hs : AtS w q p) : Gets w q D :=
  ⟨fun _ hb _ hn => get_store (h.keep (kept_new hb S)) (hs.old hb) hn, fun n => sget_small h n⟩
/-- What Open answers. -/
def HOpenPost (S : Nat → Prop) (p : Nat) (w : World) (d : DS) (r : Ending) (w' : World) : Prop :=
  ∃ (D : DS) (U : US) (next c : Nat), ROpen d D U next c ∧ ((c ≠ 0 ∧ r = .returned (.tuple #[.pointer none, errV c]) ∧ DPost S p w w' D) ∨
    (c = 0 ∧ ∃ (S1 : Nat → Prop) (hb q u m : Nat) (B : Nat → Prop), r = .returned (.tuple #[.pointer (some ⟨hb, 0, none⟩), .nilIface]) ∧ Dk w' S1 p D ∧ Fr S w w' ∧ (∀ j, S j → S1 j) ∧ (∀ j, S1 j → S j ∨ w.heap.size ≤ j) ∧
      ShelfAt w' S1 hb p q u m B U next false ∧ (w.heap.size ≤ hb ∧ w.heap.size ≤ q ∧ w.heap.size ≤ u ∧ w.heap.size ≤ m ∧ ∀ j, B j → w.heap.size ≤ j)))

set_option maxHeartbeats 8000000 in
set_option maxRecDepth 100000 in
theorem hopen_any {w : World} {S : Nat → Prop} {p : Nat} {d : DS} (h : Dk w S p d) (hsz : d.sz ≤ 400000) (hsz2 : (sopen d).1.sz ≤ 400000) (ht : ∀ W, Fr S w W → Tens W) :
    Calls Tryz.prog 52 #[.pointer (some ⟨p, 0, none⟩)] w (HOpenPost S p w d) := by
  have HOP := Lib.hid (open_store h (by omega))
  have HT := Lib.hid ht
  have HSZ2 := Lib.hid hsz2
  obtain ⟨D, hD⟩ : ∃ D, D = (sopen d).1 := ⟨_, rfl⟩
  obtain ⟨c0, hc0⟩ : ∃ c, c = (sopen d).2 := ⟨_, rfl⟩
  have hso : sopen d = (D, c0) := by rw [hD, hc0]
  rw [hso] at HOP HSZ2
  have HSO := Lib.hid hso
  clear h hsz hsz2 ht hD hc0 hso
  go_enter Tryz.func52, Tryz.ntmps52
  go_wp2_with fail
  refine HOP.out.mono ?_
  rintro r w1 hpost
  rcases hpost with ⟨hz, rfl, hdp⟩ | ⟨hz, q, w0, rfl, hdp, hq, hb1, hat⟩
  · simp only at hz hdp
    have HZ := Lib.hid hz
    have HDP := Lib.hid hdp
    simp only []
    rw [errV_pos hz]
    clear hz hdp
    go_wp2
    go_ret2
    exact ⟨D, unew, 0, c0, ropen_bad HSO.out HZ.out, .inl ⟨HZ.out, by rw [errV_pos HZ.out]; rfl, HDP.out⟩⟩
  simp only at hz hdp
  subst hz
  obtain ⟨S1, hd0, hf0, hs0, ht0⟩ := hdp
  have hd1 := hd0.keep (kept_new hb1 S1)
  have HQ : Hid (¬ S1 q ∧ w.heap.size ≤ q ∧ q < w1.heap.size ∧ ∀ j, S1 j → j < w1.heap.size) := Lib.hid ⟨fun hS => by have := hd0.lt hS; omega, by have := hf0.size; omega, hat.2, fun j hj => hd1.lt hj⟩
  have HF1 : Hid (Fr S w w1) := Lib.hid (hf0.trans (fr_below hb1 fun _ => False) (fun _ _ h => h) (fun _ _ h => h.elim))
  have HS1 : Hid ((∀ j, S j → S1 j) ∧ ∀ j, S1 j → S j ∨ w.heap.size ≤ j) := Lib.hid ⟨hs0, ht0⟩
  have HD1 := Lib.hid hd1
  have HAT1 := Lib.hid hat
  have HLI := Lib.hid (list_store hd1 hat (by have := HSZ2.out; omega) [])
  have HNS := Lib.hid (slist_names hd1 [])
  have HDZ : Hid (D.sz ≤ 400000) := Lib.hid HSZ2.out
  have HTW1 : Hid (∀ j, j < w.heap.size → ¬ S j → w1.heap[j]? = w.heap[j]?) := Lib.hid fun j hj hS => HF1.out.block j hj hS
  obtain ⟨ns, hns⟩ : ∃ ns, ns = (slist D []).1 := ⟨_, rfl⟩
  obtain ⟨c1, hc1⟩ : ∃ c, c = (slist D []).2 := ⟨_, rfl⟩
  have hsl : slist D [] = (ns, c1) := by rw [hns, hc1]
  rw [hsl, show nmV [] = Value.string ⟨#[]⟩ from rfl] at HLI
  rw [hsl] at HNS
  replace HNS : Hid ((∀ x ∈ ns, x.length ≤ 1000) ∧ ns.length ≤ D.sz ∧ ns.Pairwise (· < ·)) := HNS
  have HSL := Lib.hid hsl
  clear hd0 hf0 hs0 ht0 hb1 hat hd1 hns hc1 hsl hq
  go_wp2_with fail
  refine HLI.out.mono ?_
  rintro r w2 ⟨v2, rfl, ho2, hb2⟩
  simp only at ho2
  obtain ⟨ao2, cap2, rfl⟩ := ho2.val
  have HO2 := Lib.hid ho2
  have HB2 := Lib.hid hb2
  have HD2 := Lib.hid (HD1.out.keep (kept_new hb2 S1))
  have HF2 : Hid (Fr S w w2) := Lib.hid (HF1.out.trans (fr_below hb2 fun _ => False) (fun _ _ h => h) (fun _ _ h => h.elim))
  have HG2 := Lib.hid (gets_of (HD1.out.keep (kept_new hb2 S1)) (HAT1.out.old hb2))
  have HT2 : Hid (Tens w2) := Lib.hid (HT.out w2 HF2.out)
  clear ho2 hb2
  by_cases hz1 : c1 = 0
  rotate_left
  · have HZ := Lib.hid hz1
    rw [errV_pos hz1]
    clear hz1
    go_wp2
    go_ret2
    exact ⟨D, unew, 0, c1, ropen_list HSO.out HSL.out HZ.out, .inl ⟨HZ.out, by rw [errV_pos HZ.out]; rfl, S1, HD2.out, HF2.out, HS1.out.1, HS1.out.2⟩⟩
  subst hz1
  have htb := takeBase_any HG2.out HO2.out HNS.out.1 (by have := HNS.out.2.1; have := HDZ.out; omega) HT2.out
  have HTB := Lib.hid htb
  rw [errV_zero]
  clear htb
  go_wp2_with fail
  refine HTB.out.mono ?_
  rintro r w3 ⟨hb3, U0, nb, c2, hrb, hcase⟩
  have HD3 := Lib.hid (HD2.out.keep (kept_new hb3 S1))
  have HF3 : Hid (Fr S w w3) := Lib.hid (HF2.out.trans (fr_below hb3 fun _ => False) (fun _ _ h => h) (fun _ _ h => h.elim))
  have HG3 := Lib.hid (HG2.out.more hb3)
  have HT3 : Hid (Tens w3) := Lib.hid (HT.out w3 HF3.out)
  have HO3 := Lib.hid (HO2.out.below hb3)
  have HB3 := Lib.hid hb3
  have HRB := Lib.hid hrb
  have HW2 : Hid (w.heap.size ≤ w2.heap.size ∧ (∀ j, S1 j → j < w2.heap.size) ∧ q < w2.heap.size) := Lib.hid ⟨HF2.out.size, fun j hj => Nat.lt_of_lt_of_le (HQ.out.2.2.2 j hj) HB2.out.size, Nat.lt_of_lt_of_le HQ.out.2.2.1 HB2.out.size⟩
  clear hb3 hrb
  rcases hcase with ⟨hz2, rfl⟩ | ⟨hz2, u, m, B, rfl, hun, hu, hm, hB⟩
  · have HZ := Lib.hid hz2
    rw [errV_pos hz2]
    clear hz2
    go_wp2
    go_ret2
    exact ⟨D, unew, 0, c2, ropen_base HSO.out HSL.out HRB.out HZ.out, .inl ⟨HZ.out, by rw [errV_pos HZ.out]; rfl, S1, HD3.out, HF3.out, HS1.out.1, HS1.out.2⟩⟩
  subst hz2
  have HNB := Lib.hid (rbase_le HRB.out rfl)
  have HUN := Lib.hid hun
  have HUM : Hid (w2.heap.size ≤ u ∧ w2.heap.size ≤ m ∧ (∀ j, B j → w2.heap.size ≤ j) ∧ u < w3.heap.size ∧ m < w3.heap.size) := Lib.hid ⟨hu, hm, hB, hun.ult, hun.mlt⟩
  have HTA := Lib.hid (takeActs_any HG3.out HO3.out HNS.out.2.2 (by have := HNS.out.2.1; have := HDZ.out; omega) HT3.out nb HNB.out)
  clear hun hu hm hB
  go_wp2_with fail
  refine HTA.out.mono ?_
  rintro r w4 ⟨hb4, l, c3, hsa, hcase⟩
  have HD4 := Lib.hid (HD3.out.keep (kept_new hb4 S1))
  have HF4 : Hid (Fr S w w4) := Lib.hid (HF3.out.trans (fr_below hb4 fun _ => False) (fun _ _ h => h) (fun _ _ h => h.elim))
  have HUN4 := Lib.hid (HUN.out.old hb4)
  have HB4 := Lib.hid hb4
  have HSA := Lib.hid hsa
  clear hb4 hsa
  rcases hcase with ⟨hz3, rfl⟩ | ⟨hz3, v4, rfl, ho4⟩
  · have HZ := Lib.hid hz3
    rw [errV_pos hz3]
    clear hz3
    go_wp2
    go_ret2
    exact ⟨D, unew, 0, c3, ropen_acts HSO.out HSL.out HRB.out HSA.out HZ.out, .inl ⟨HZ.out, by rw [errV_pos HZ.out]; rfl, S1, HD4.out, HF4.out, HS1.out.1, HS1.out.2⟩⟩
  subst hz3
  obtain ⟨ao4, cap4, rfl⟩ := ho4.val
  have hfew : l.length ≤ 400000 := by
    have h1 := sacts_few HSA.out HNB.out
    have h2 := HNS.out.2.1
    have h3 := HDZ.out
    omega
  have HFEW := Lib.hid hfew
  have hda := doAll_any HUN4.out ho4 HUM.out.2.2.2.1 HUM.out.2.2.2.2 (by omega) (sacts_ok (fun n => (HG3.out.small n).2) HSA.out)
  obtain ⟨R, hR⟩ : ∃ R, R = sdo U0 l := ⟨_, rfl⟩
  rw [← hR] at hda
  have HRR := Lib.hid hR
  have HDA := Lib.hid hda
  obtain ⟨nl, hnl⟩ : ∃ n, n = l.length := ⟨_, rfl⟩
  rw [← hnl] at HDA ⊢
  have HNL := Lib.hid hnl
  clear ho4 hfew hda hR hnl
  go_wp2_with fail
  refine HDA.out.mono ?_
  rintro r w5 ⟨rfl, hp5⟩
  have HFR : Hid (Fr (fun j => j = u ∨ j = m) w4 w5) := Lib.hid hp5.2
  have HU5 := Lib.hid hp5.1
  have HK5 : Hid (Kept S1 w4 w5) := Lib.hid (hp5.2.kept S1 fun j _ hS => by
    have h1 := HW2.out.2.1 j hS
    have h2 := HUM.out
    rintro (rfl | rfl) <;> omega)
  have HD5 := Lib.hid (HD4.out.keep HK5.out)
  have HF5 : Hid (Fr S w w5) := Lib.hid (HF4.out.trans hp5.2 (fun _ _ h => h) (fun j hj e => by
    have h1 := HW2.out.1
    have h2 := HUM.out
    rcases e with rfl | rfl <;> omega))
  have HW4 : Hid (w3.heap.size ≤ w4.heap.size) := Lib.hid HB4.out.size
  obtain ⟨R1, R2⟩ := R
  clear hp5
  cases R2
  · have HZ : Hid ((sdo U0 l).2 = false) := Lib.hid (by rw [← HRR.out])
    go_wp2
    go_ret2
    exact ⟨D, unew, 0, 13, ropen_state HSO.out HSL.out HRB.out HSA.out HZ.out, .inl ⟨by decide, rfl, S1, HD5.out, HF5.out, HS1.out.1, HS1.out.2⟩⟩
  · have HZ : Hid (sdo U0 l = (R1, true)) := Lib.hid HRR.out.symm
    have hsum : wrap64 ((nb : Int) + (nl : Int)) = ((nb + nl : Nat) : Int) := by
      have h1 := HNB.out
      have h2 := HFEW.out
      have h3 := HNL.out
      simp only [wrap64]
      omega
    have hat5 : AtS w5 q p := ⟨(World.cell?_of_block (a := ⟨q, 0, none⟩) (HFR.out.block q (by have h1 := HW2.out; have h2 := HB3.out.size; have h3 := HW4.out; omega) (by have h1 := HW2.out; have h2 := HUM.out; rintro (rfl | rfl) <;> omega))).trans ((HAT1.out.old ((HB2.out.trans (HB3.out.mono HB2.out.size)).trans (HB4.out.mono (Nat.le_trans HB2.out.size HB3.out.size)))).1), by have h1 := HW2.out; have h2 := HB3.out.size; have h3 := HW4.out; have h4 := HFR.out.size; omega⟩
    have HAT5 := Lib.hid hat5
    clear hat5
    go_wp2
    go_ret2
    have hal : ∀ o, Below w5.heap.size w5 (w5.alloc o) := fun o => (Below.refl _ _).alloc (Nat.le_refl _) o
    have z1 := HW2.out
    have z2 := HUM.out
    have z3 := HB3.out.size
    have z4 := HW4.out
    have z5 := HFR.out.size
    have z6 := HQ.out
    have hun5 : Un w5 (fun j => (B j ∨ w4.heap.size ≤ j) ∧ j < w5.heap.size) u m R1 := HU5.out.more (fun j hj hB => ⟨hB, hj⟩) (fun hc => HU5.out.nu hc.1) (fun hc => HU5.out.nm hc.1)
    refine ⟨D, R1, nb + nl, 0, by rw [HNL.out]; exact ropen_ok HSO.out HSL.out HRB.out HSA.out HZ.out, .inr ⟨rfl, S1, w5.heap.size, q, u, m, _, rfl, HD5.out.keep (kept_new (hal _) S1), HF5.out.trans (fr_below (hal _) fun _ => False) (fun _ _ h => h) (fun _ _ h => h.elim), HS1.out.1, HS1.out.2, ⟨?_, HAT5.out.old (hal _), hun5.old (hal _), ⟨?_, ?_, ?_, ?_, ?_⟩, ⟨?_, ?_, ?_, ?_⟩, ⟨?_, ?_, ?_⟩⟩, ⟨?_, ?_, ?_, ?_, ?_⟩⟩⟩
    · first | exact heap_alloc_new _ _ | (rw [← hsum]; exact heap_alloc_new _ _)
    · intro hS; have := z1.2.1 _ hS; omega
    · exact z6.1
    · intro hS; have := z1.2.1 _ hS; omega
    · intro hS; have := z1.2.1 _ hS; omega
    · rintro j ⟨hj | hj, _⟩ hS
      · have h1 := z1.2.1 j hS; have h2 := z2.2.2.1 j hj; omega
      · have h1 := z1.2.1 j hS; omega
    · omega
    · omega
    · omega
    · rintro ⟨_, h⟩; omega
    · omega
    · omega
    · rintro ⟨hj | hj, _⟩
      · have h2 := z2.2.2.1 q hj; omega
      · omega
    · omega
    · omega
    · omega
    · omega
    · rintro j ⟨hj | hj, _⟩
      · have h2 := z2.2.2.1 j hj; omega
      · omega

end Go.Proofs.YtlckadlkgjfjcaaGreatDoor
