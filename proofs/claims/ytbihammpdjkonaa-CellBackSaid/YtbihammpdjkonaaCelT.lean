/- The contract of package cell's PutRun, whatever the run; an append of one cell. -/
import Derived.Test.YtbihammpdjkonaaCelS
namespace Go.Proofs.Ytbihammpdjkonaa
open Go.RowKit

set_option maxHeartbeats 1000000 in
set_option maxRecDepth 100000 in
theorem putRun_bad (bv v : Value) (b : List Nat) (cs : List IC) (w : World) (B : Nat → Prop) (hb : Reads w .u8 bv b) (hr : CellsAt w B v cs) (hc : chkRun cs ≠ 0) :
    Calls Try.prog 24 #[bv, v] w fun e w' => e = .returned (.tuple #[.slice none 0 0, errV (chkRun cs)]) ∧ Below w.heap.size w w' := by
  obtain ⟨ao, cap, rfl, h1, h2, h3⟩ := hr.val
  obtain ⟨aob, capb, rfl, _, _, _⟩ := hb.val
  have he := errV_pos hc
  have HE := Lib.hid he
  clear he
  go_enter Try.func24, Try.ntmps24
  go_wp2_with fail
  refine (checkRun_any _ cs w _ hr).mono ?_
  rintro e w1 ⟨rfl, hb1⟩
  rw [HE.out]
  have HB1 := Lib.hid hb1
  clear hb1 hc hr hb
  go_wp2
  go_ret2
  exact ⟨by rw [HE.out]; rfl, HB1.out⟩

/-- What PutRun answers. -/
def RunPost (b : List Nat) (cs : List IC) (w : World) (e : Ending) (w' : World) : Prop :=
  ∃ v' out, e = .returned (.tuple #[v', errV (chkRun cs)]) ∧ Owns w' w.heap.size 5 .u8 v' out ∧ out = (if chkRun cs = 0 then b ++ rbytes (cs.map toCC) else []) ∧ Below w.heap.size w w'

theorem putRun_any (bv v : Value) (b : List Nat) (cs : List IC) (w : World) (B : Nat → Prop) (hb : Reads w .u8 bv b) (hr : CellsAt w B v cs) (h8 : ∀ c ∈ cs, ∀ y ∈ c.2, y < 256) (hx : b.length ≤ 60000000000000) :
    Calls Try.prog 24 #[bv, v] w (RunPost b cs w) := by
  by_cases hc : chkRun cs = 0
  · obtain ⟨hl, hok⟩ := chkRun_zero hc
    have hcs := run_toCC hok
    have hr2 : CellsAt w B v ((cs.map toCC).map toIC) := by rw [← hcs]; exact hr
    refine (putRun_good bv v b (cs.map toCC) w B hb hr2 (fun c hcm => ?_) (by rw [List.length_map]; exact hl) hx).mono ?_
    · obtain ⟨x, hxm, rfl⟩ := List.mem_map.1 hcm
      exact okC_toCC (hok x hxm) (h8 x hxm)
    · rintro e w' ⟨v', rfl, ho, hbl⟩
      exact ⟨v', _, by rw [hc]; rfl, ho, by rw [if_pos hc], hbl⟩
  · refine (putRun_bad bv v b cs w B hb hr hc).mono ?_
    rintro e w' ⟨rfl, hbl⟩
    exact ⟨_, [], rfl, owns_nil _ _ _ _, by rw [if_neg hc], hbl⟩

/-- Cells' values as the program has them, one behind the other. -/
def ivals (l : List (Int × Value)) : List Value := l.flatMap fun x => [.int .i64 x.1, x.2]
theorem ivals_length (l : List (Int × Value)) : (ivals l).length = l.length * 2 := by
  induction l with
  | nil => rfl
  | cons c l ih => show (([.int .i64 c.1, c.2] : List Value) ++ ivals l).length = _; rw [List.length_append, ih, List.length_cons]; simp; omega
theorem ivals_append (a b : List (Int × Value)) : ivals (a ++ b) = ivals a ++ ivals b := by simp [ivals]
theorem ivals_get (l : List (Int × Value)) (i : Nat) (hi : i < l.length) : (ivals l)[i * 2]? = some (.int .i64 l[i].1) ∧ (ivals l)[i * 2 + 1]? = some l[i].2 := by
  induction l generalizing i with
  | nil => simp at hi
  | cons x l ih =>
    match i with
    | 0 => simp [ivals]
    | i + 1 =>
      obtain ⟨h1, h2⟩ := ih i (by simpa using hi)
      simp only [ivals, List.flatMap_cons, List.cons_append, List.nil_append, List.getElem_cons_succ] at *
      rw [show (i + 1) * 2 = i * 2 + 1 + 1 by omega]
      simp only [List.getElem?_cons_succ]
      exact ⟨h1, h2⟩

theorem Try.infoIC : (Try.prog.info? 24).map (fun i => (i.zero, i.size, i.bytes)) = some (some (.agg #[.int .i64 0, .slice none 0 0]), 2, 32) := by kernel_rfl

/-- A row of cells of the call's own. -/
def OwnsI (w : World) (base : Nat) (v : Value) (l : List (Int × Value)) : Prop := w.ownsRow base 24 2 v l.length (ivals l)

theorem ownsI_nil (w : World) (base : Nat) : OwnsI w base (.slice none 0 0) [] := World.ownsRow_nil _ _ _ _
theorem ownsI_empty (w : World) (base : Nat) (hb : base ≤ w.heap.size) : OwnsI (w.alloc (.cells #[] 24)) base (.slice (some ⟨w.heap.size, 0, none⟩) 0 0) [] :=
  World.ownsRow_lit w #[] 0 hb (by simp [maxLen]) rfl
theorem OwnsI.below {w w' : World} {base : Nat} {v : Value} {l : List (Int × Value)} (h : OwnsI w base v l) (hb : Below w.heap.size w w') : OwnsI w' base v l :=
  h.kept (row := none) ⟨hb.os, hb.tape, hb.output, hb.size, fun j hj _ => hb.block j hj⟩ (by cases v.ownBlock <;> simp)
theorem OwnsI.grown {w w' : World} {base : Nat} {v : Value} {l : List (Int × Value)} {row : Option Nat} (h : OwnsI w base v l) (hg : w.grownBy w' row) (hne : v.ownBlock = none ∨ v.ownBlock ≠ row) : OwnsI w' base v l := World.ownsRow.kept h hg hne
theorem OwnsI.form {w : World} {base : Nat} {v : Value} {l : List (Int × Value)} (h : OwnsI w base v l) : ∃ ao cap, v = .slice ao l.length cap := by
  rcases h.2 with ⟨rfl, h2⟩ | ⟨g, cap, cur, rfl, _⟩
  · exact ⟨none, 0, by rw [h2]⟩
  · exact ⟨_, cap, rfl⟩
theorem OwnsI.lt {w : World} {base : Nat} {v : Value} {l : List (Int × Value)} (h : OwnsI w base v l) : ∀ j, v.ownBlock = some j → base ≤ j ∧ j < w.heap.size := World.ownsRow.lt h

/-- What is owned reads as cells, if their bytes do. -/
theorem OwnsI.cells {w : World} {base : Nat} {v : Value} {l : List (Int × Value)} (h : OwnsI w base v l) (cs : List IC) (B : Nat → Prop) (hlen : cs.length = l.length)
    (hB : ∀ j, v.ownBlock = some j → B j) (hc : ∀ i, (hi : i < l.length) → l[i].1 = (cs.getD i (0, [])).1 ∧ At w B .u8 l[i].2 (cs.getD i (0, [])).2) : CellsAt w B v cs := by
  have h0 := h
  unfold OwnsI at h0
  rcases h.2 with ⟨rfl, hn⟩ | ⟨g, cap, cur, rfl, hb, hg, hnc, hm, hs, ht⟩
  · exact ⟨none, 0, by rw [hlen, hn], by omega, by simp [maxLen], fun _ => rfl, .inl (List.length_eq_zero_iff.1 (by omega))⟩
  · refine ⟨_, cap, by rw [hlen], by omega, hm, by simp, .inr ⟨g, 0, rfl, (Array.getElem?_eq_some_iff.1 hg).1, hB g rfl, fun i hi => ?_⟩⟩
    have hil : i < l.length := by omega
    obtain ⟨g1, g2⟩ := ivals_get l i hil
    obtain ⟨c1, c2⟩ := hc i hil
    refine ⟨l[i].2, ?_, ?_, c2⟩
    · rw [Nat.zero_add, h0.cellAt (i * 2) (by omega), g1, c1]
    · rw [Nat.zero_add, h0.cellAt (i * 2 + 1) (by omega), g2]

/-- An append of one cell that is written out. -/
theorem wpList_appI (w : World) {ops : Array Oper} {rest : List Oper} {o : Oper} {a : Act} {Q : Exit → Act → World → Prop} (hgd : o.guard = none) (s x : Operand)
    (ho : o.op = .call { callee := .builtin .append, args := #[s, x], argTypes := #[27, 27] })
    (base : Nat) (v : Value) (xs : List (Int × Value)) (hs : a.eval s = v) (hown : OwnsI w base v xs) (k : Int) (u : Value) (hu1 : u.oneCell' = true)
    (W : World) (hW : w = W.alloc (.cells #[.int .i64 k, u] 24)) (hx : a.eval x = .slice (some ⟨W.heap.size, 0, none⟩) 1 1)
    (hbytes : xs.length ≤ 1000000) (hbase : base ≤ w.heap.size)
    (h : ∀ v' w', OwnsI w' base v' (xs ++ [(k, u)]) → w.grownBy w' v.ownBlock → wpList Try.prog ops Q rest (a.put o.dst v') w') : wpList Try.prog ops Q (o :: rest) a w := by
  obtain ⟨i, hi, hz, hsz, hby⟩ := info_parts Try.infoIC
  refine wpList_append_own w hgd s x 27 ho base 24 i _ 2 32 Try.underlying27 hi hz hsz hby rfl (by decide) v xs.length (ivals xs) hs hown ⟨W.heap.size, 0, none⟩ 1 1 [.int .i64 k, u] hx rfl ?_ ?_ (by simp only [maxLen]; omega) (by omega) hbase ?_
  · intro j y hu
    subst hW
    rw [Addr.add_lit, Nat.zero_add, World.cell?_alloc_mark]
    match j with
    | 0 => simpa using hu
    | 1 => simpa using hu
    | j + 2 => simp at hu
  · intro y hu
    simp only [List.mem_cons, List.not_mem_nil, or_false] at hu
    rcases hu with rfl | rfl
    · rfl
    · exact hu1
  · intro v' w' hown' hg _
    refine h v' w' ?_ hg
    unfold OwnsI
    rw [List.length_append, ivals_append]
    exact hown'

end Go.Proofs.Ytbihammpdjkonaa
