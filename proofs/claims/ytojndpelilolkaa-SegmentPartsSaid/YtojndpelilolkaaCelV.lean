/- Rows of the document's own cells, whatever their kinds; the law's own Documents. -/
import Derived.Test.YtojndpelilolkaaUvQ
namespace Go.Proofs.Ytojndpelilolkaa
open Go.RowKit

/-- The document's cells' values, one behind the other. -/
def dvals (l : List IC) : List Value := l.flatMap fun c => [.int .i64 c.1, .string (S8 c.2)]
theorem dvals_length (l : List IC) : (dvals l).length = l.length * 2 := by
  induction l with
  | nil => rfl
  | cons c l ih => show (([.int .i64 c.1, .string (S8 c.2)] : List Value) ++ dvals l).length = _; rw [List.length_append, ih, List.length_cons]; simp; omega
theorem dvals_append (a b : List IC) : dvals (a ++ b) = dvals a ++ dvals b := by simp [dvals]
theorem dvals_get (l : List IC) (i : Nat) (hi : i < l.length) : (dvals l)[i * 2]? = some (.int .i64 (l.getD i (0, [])).1) ∧ (dvals l)[i * 2 + 1]? = some (.string (S8 (l.getD i (0, [])).2)) := by
  induction l generalizing i with
  | nil => simp at hi
  | cons x l ih =>
    match i with
    | 0 => simp [dvals]
    | i + 1 =>
      obtain ⟨h1, h2⟩ := ih i (by simpa using hi)
      simp only [dvals, List.flatMap_cons, List.cons_append, List.nil_append, List.getD_cons_succ] at *
      rw [show (i + 1) * 2 = i * 2 + 1 + 1 by omega]
      simp only [List.getElem?_cons_succ]
      exact ⟨h1, h2⟩
theorem cvals_dvals (l : List CC) : cvals l = dvals (l.map toIC) := by
  induction l with
  | nil => rfl
  | cons c l ih => show cval c ++ cvals l = _; rw [ih]; rfl

/-- A row of the document's cells, of the call's own. -/
def OwnsD (w : World) (base : Nat) (v : Value) (l : List IC) : Prop := w.ownsRow base 45 2 v l.length (dvals l)
theorem OwnsC.toD {w : World} {base : Nat} {v : Value} {l : List CC} (h : OwnsC w base v l) : OwnsD w base v (l.map toIC) := by
  unfold OwnsD
  rw [List.length_map, ← cvals_dvals]
  exact h
theorem OwnsD.below {w w' : World} {base : Nat} {v : Value} {l : List IC} (h : OwnsD w base v l) (hb : Below w.heap.size w w') : OwnsD w' base v l :=
  h.kept (row := none) ⟨hb.os, hb.tape, hb.output, hb.size, fun j hj _ => hb.block j hj⟩ (by cases v.ownBlock <;> simp)
theorem OwnsD.form {w : World} {base : Nat} {v : Value} {l : List IC} (h : OwnsD w base v l) : ∃ ao cap, v = .slice ao l.length cap := by
  rcases h.2 with ⟨rfl, h2⟩ | ⟨g, cap, cur, rfl, _⟩
  · exact ⟨none, 0, by rw [h2]⟩
  · exact ⟨_, cap, rfl⟩
theorem OwnsD.lt {w : World} {base : Nat} {v : Value} {l : List IC} (h : OwnsD w base v l) : ∀ j, v.ownBlock = some j → base ≤ j ∧ j < w.heap.size := World.ownsRow.lt h
theorem OwnsD.grown {w w' : World} {base : Nat} {v : Value} {l : List IC} {row : Option Nat} (h : OwnsD w base v l) (hg : w.grownBy w' row) (hne : v.ownBlock = none ∨ v.ownBlock ≠ row) : OwnsD w' base v l := World.ownsRow.kept h hg hne
theorem OwnsD.mono {w : World} {base base' : Nat} {v : Value} {l : List IC} (h : OwnsD w base v l) (hb : base' ≤ base) : OwnsD w base' v l := by
  refine ⟨h.1, ?_⟩
  rcases h.2 with h2 | ⟨g, cap, cur, h1, h2, r⟩
  · exact .inl h2
  · exact .inr ⟨g, cap, cur, h1, Nat.le_trans hb h2, r⟩
theorem ownsD_empty (w : World) (base : Nat) (hb : base ≤ w.heap.size) : OwnsD (w.alloc (.cells #[] 45)) base (.slice (some ⟨w.heap.size, 0, none⟩) 0 0) [] :=
  World.ownsRow_lit w #[] 0 hb (by simp [maxLen]) rfl
/-- The cells of what is owned. -/
theorem OwnsD.at {w : World} {base : Nat} {ao : Option Addr} {n cap : Nat} {l : List IC} (h : OwnsD w base (.slice ao n cap) l) {i : Nat} (hi : i < l.length) :
    ∃ g, ao = some ⟨g, 0, none⟩ ∧ g < w.heap.size ∧ w.cell? ⟨g, i * 2, none⟩ = some (.int .i64 (l.getD i (0, [])).1) ∧ w.cell? ⟨g, i * 2 + 1, none⟩ = some (.string (S8 (l.getD i (0, [])).2)) := by
  have h0 := h
  unfold OwnsD at h0
  rcases h.2 with ⟨_, hn⟩ | ⟨g, cap', cur, hv, hb, hg, _⟩
  · omega
  · cases hv
    obtain ⟨g1, g2⟩ := dvals_get l i hi
    exact ⟨g, rfl, (Array.getElem?_eq_some_iff.1 hg).1, by rw [h0.cellAt (i * 2) (by omega), g1], by rw [h0.cellAt (i * 2 + 1) (by omega), g2]⟩

/-- An append of one cell of the document's that is written out. -/
theorem wpList_appD (w : World) {ops : Array Oper} {rest : List Oper} {o : Oper} {a : Act} {Q : Exit → Act → World → Prop} (hgd : o.guard = none) (s x : Operand)
    (ho : o.op = .call { callee := .builtin .append, args := #[s, x], argTypes := #[27, 27] })
    (base : Nat) (v : Value) (xs : List IC) (hs : a.eval s = v) (hown : OwnsD w base v xs) (c : IC)
    (W : World) (hW : w = W.alloc (.cells #[.int .i64 c.1, .string (S8 c.2)] 45)) (hx : a.eval x = .slice (some ⟨W.heap.size, 0, none⟩) 1 1)
    (hbytes : xs.length ≤ 1000000) (hbase : base ≤ w.heap.size)
    (h : ∀ v' w', OwnsD w' base v' (xs ++ [c]) → w.grownBy w' v.ownBlock → wpList Try.prog ops Q rest (a.put o.dst v') w') : wpList Try.prog ops Q (o :: rest) a w := by
  obtain ⟨i, hi, hz, hsz, hby⟩ := info_parts Try.infoC
  refine wpList_append_own w hgd s x 27 ho base 45 i _ 2 24 Try.underlying27 hi hz hsz hby rfl (by decide) v xs.length (dvals xs) hs hown ⟨W.heap.size, 0, none⟩ 1 1 [.int .i64 c.1, .string (S8 c.2)] hx rfl ?_ ?_ (by simp only [maxLen]; omega) (by omega) hbase ?_
  · intro j u hu
    subst hW
    rw [Addr.add_lit, Nat.zero_add, World.cell?_alloc_mark]
    match j with
    | 0 => simpa using hu
    | 1 => simpa using hu
    | j + 2 => simp at hu
  · intro u hu
    simp only [List.mem_cons, List.not_mem_nil, or_false] at hu
    rcases hu with rfl | rfl <;> rfl
  · intro v' w' hown' hg _
    refine h v' w' ?_ hg
    unfold OwnsD
    rw [List.length_append, dvals_append]
    exact hown'

theorem take_snocI (l : List IC) (k : Nat) (h : k < l.length) : l.take (k + 1) = l.take k ++ [l.getD k (0, [])] := by
  rw [List.take_add_one, List.getElem?_eq_getElem h]; simp [List.getD, List.getElem?_eq_getElem h]

set_option maxHeartbeats 1000000 in
set_option maxRecDepth 100000 in
theorem documents_any (v : Value) (cs : List IC) (w : World) (B : Nat → Prop) (hr : CellsAt w B v cs) (hl : cs.length ≤ 1000000) :
    Calls Try.prog 26 #[v] w fun e w' => ∃ v', e = .returned v' ∧ OwnsD w' w.heap.size v' cs ∧ Below w.heap.size w w' := by
  obtain ⟨ao, cap, rfl, h1, h2, h3⟩ := hr.val
  have HR := Lib.hid (hr.mono (C := fun j => j < w.heap.size) fun j hj _ => hj)
  have HE := Lib.hid (ownsD_empty w w.heap.size (Nat.le_refl _))
  clear hr
  go_enter Try.func26, Try.ntmps26
  go_wp2
  go_loopw [3, 5, 9] (fun rv _ i wr => ∃ k : Nat, k ≤ cs.length ∧ i = .int .i64 (k : Int) ∧ OwnsD wr w.heap.size rv (cs.take k) ∧ Below w.heap.size w wr)
    (fun _ _ i _ => cs.length - (intOf i).toNat)
  case atStart => exact ⟨0, Nat.zero_le _, rfl, HE.out, (Below.refl _ _).alloc (Nat.le_refl _) _⟩
  case round =>
    clear HE
    obtain ⟨k, hk, rfl, hown, hb⟩ := hrel
    have HB := Lib.hid hb
    have HOW := Lib.hid hown
    clear hb hown
    by_cases hlt : k < cs.length
    · obtain ⟨b, off, x, rfl, hbb, _, c0, c1, hat⟩ := HR.out.at hlt
      have d0 := (HB.out.cell (p := ⟨b, off + k * 2, none⟩) hbb).trans c0
      have d1 := (HB.out.cell (p := ⟨b, off + k * 2 + 1, none⟩) hbb).trans c1
      have HTK := Lib.hid (take_snocI cs k hlt)
      generalize hg : cs.getD k (0, []) = g at d0 d1 hat
      rw [hg] at HTK
      obtain ⟨kk, d⟩ := g
      simp only at d0 hat
      obtain ⟨aot, capt, rfl, _, _, _⟩ := hat.reads.val
      have HAT := Lib.hid (hat.keep (kept_below HB.out))
      clear hg hat c0 c1
      have hlti : (k : Int) < cs.length := by omega
      have hal : Below wr.heap.size wr (wr.alloc (.cells #[.int .i64 kk, .slice aot d.length capt] 41)) := (Below.refl _ _).alloc (Nat.le_refl _) _
      have HAL := Lib.hid hal
      clear hal
      go_wp2_with fail
      refine (document_any kk _ d _ (HAT.out.old HAL.out).reads).mono ?_
      rintro e w1 ⟨rfl, hb1⟩
      have hb01 := HAL.out.trans (hb1.mono HAL.out.size)
      have HB1 := Lib.hid (HB.out.trans (hb01.mono HB.out.size))
      have HO1 := Lib.hid (HOW.out.below hb01)
      have hal2 : Below w1.heap.size w1 (w1.alloc (.cells #[.int .i64 kk, .string (S8 d)] 45)) := (Below.refl _ _).alloc (Nat.le_refl _) _
      have HO2 := Lib.hid (HO1.out.below hal2)
      have HB2 := Lib.hid (HB1.out.trans (hal2.mono HB1.out.size))
      clear hb1 hb01 hal2 HB HOW HAL HAT d0 d1 HO1
      obtain ⟨aor, capr, hv⟩ := HO2.out.form
      have hmk : (cs.take k).length = k := by rw [List.length_take]; omega
      rw [hmk] at hv
      subst hv
      go_wp2_with (at_builtin; go_must (refine wpList_appD _ rfl _ _ rfl w.heap.size _ (cs.take k) rfl HO2.out (kk, d) w1 rfl rfl ?c1 ?c3 ?_))
      case c1 => omega
      case c3 => exact HB2.out.size
      rw [← HTK.out]
      intro v3 w3 ho3 hg3
      have HO3 := Lib.hid ho3
      have HB3 := Lib.hid (HB2.out.grown hg3 HB2.out.size (fun j hj => (HO2.out.lt _ hj).1))
      clear ho3 hg3 HO2 HB2
      go_wp2
      go_roundw
      case rel => exact ⟨k + 1, by omega, by go_num, HO3.out, HB3.out⟩
      case measure => simp [intOf]; omega
    · obtain rfl : k = cs.length := by omega
      rw [List.take_length] at HOW
      go_wp2
      go_ret
      exact ⟨_, rfl, HOW.out, HB.out⟩

end Go.Proofs.Ytojndpelilolkaa
