/- Package segment: Copy, At, Same. -/
import Derived.Test.YtojndpelilolkaaSgA
namespace Go.Proofs.Ytojndpelilolkaa
open Go.RowKit

/-- A row of cells of the call's own, that reads. -/
structure OCs (w : World) (base : Nat) (v : Value) (cs : List IC) : Prop where
  ex : ∃ l : List (Int × Value), OwnsI w base v l ∧ l.length = cs.length ∧ ∀ i, (hi : i < l.length) → l[i].1 = (cs.getD i (0, [])).1 ∧ At w (Own w base 5) .u8 l[i].2 (cs.getD i (0, [])).2
theorem ocs_nil (w : World) (base : Nat) : OCs w base (.slice none 0 0) [] := ⟨[], ownsI_nil _ _, rfl, fun i hi => by simp at hi⟩
theorem OCs.below {w w' : World} {base : Nat} {v : Value} {cs : List IC} (h : OCs w base v cs) (hb : Below w.heap.size w w') : OCs w' base v cs := by
  obtain ⟨l, h1, h2, h3⟩ := h.ex
  exact ⟨l, h1.below hb, h2, fun i hi => ⟨(h3 i hi).1, (h3 i hi).2.own (kept_new hb _)⟩⟩
theorem OCs.lt {w : World} {base : Nat} {v : Value} {cs : List IC} (h : OCs w base v cs) : ∀ j, v.ownBlock = some j → base ≤ j ∧ j < w.heap.size := by
  obtain ⟨l, h1, _⟩ := h.ex
  exact h1.lt
theorem OCs.form {w : World} {base : Nat} {v : Value} {cs : List IC} (h : OCs w base v cs) : ∃ ao cap, v = .slice ao cs.length cap := by
  obtain ⟨l, h1, h2, _⟩ := h.ex
  rw [← h2]
  exact h1.form
theorem OCs.cells {w : World} {base : Nat} {v : Value} {cs : List IC} (h : OCs w base v cs) : CellsAt w (fun j => base ≤ j) v cs := by
  obtain ⟨l, h1, h2, h3⟩ := h.ex
  exact h1.cells cs _ h2.symm (fun j hj => (h1.lt j hj).1) fun i hi => ⟨(h3 i hi).1, (h3 i hi).2.mono fun j _ hB => hB.1⟩
theorem OCs.mono {w : World} {base base' : Nat} {v : Value} {cs : List IC} (h : OCs w base v cs) (hb : base' ≤ base) : OCs w base' v cs := by
  obtain ⟨l, h1, h2, h3⟩ := h.ex
  refine ⟨l, ?_, h2, fun i hi => ⟨(h3 i hi).1, (h3 i hi).2.mono fun j _ hB => ⟨Nat.le_trans hb hB.1, hB.2⟩⟩⟩
  refine ⟨h1.1, ?_⟩
  rcases h1.2 with h2 | ⟨g, cap, cur, e1, e2, r⟩
  · exact .inl h2
  · exact .inr ⟨g, cap, cur, e1, Nat.le_trans hb e2, r⟩
/-- One more. -/
theorem OCs.push {w w' : World} {base : Nat} {v v' u : Value} {k : Int} {d : List Nat} {cs : List IC} {l : List (Int × Value)} (h1 : OwnsI w base v l) (h2 : l.length = cs.length)
    (h3 : ∀ i, (hi : i < l.length) → l[i].1 = (cs.getD i (0, [])).1 ∧ At w (Own w base 5) .u8 l[i].2 (cs.getD i (0, [])).2)
    (hg : w.grownBy w' v.ownBlock) (ho : OwnsI w' base v' (l ++ [(k, u)])) (hu : At w (Own w base 5) .u8 u d) : OCs w' base v' (cs ++ [(k, d)]) := by
  have hk := kept_u8 (base := base) hg (fun j hj => by
    obtain ⟨c1, e1⟩ := h1.ty hj
    rintro ⟨c2, e2⟩
    have := e1.symm.trans e2
    cases this)
  refine ⟨_, ho, by simp [h2], fun i hi => ?_⟩
  rw [List.length_append] at hi
  by_cases hil : i < l.length
  · have e1 : (l ++ [(k, u)])[i] = l[i] := List.getElem_append_left hil
    have e2 : (cs ++ [(k, d)]).getD i (0, []) = cs.getD i (0, []) := by
      rw [List.getD_eq_getElem?_getD, List.getElem?_append_left (by rw [← h2]; exact hil), ← List.getD_eq_getElem?_getD]
    rw [e1, e2]
    exact ⟨(h3 i hil).1, (h3 i hil).2.own hk⟩
  · obtain rfl : i = l.length := by simp at hi; omega
    have e1 : (l ++ [(k, u)])[l.length] = (k, u) := by simp
    have e2 : (cs ++ [(k, d)]).getD l.length (0, []) = (k, d) := by
      rw [h2, List.getD_eq_getElem?_getD, List.getElem?_append_right (Nat.le_refl _)]
      simp
    rw [e1, e2]
    exact ⟨rfl, hu.own hk⟩
/-- A block ahead of what is owned is written. -/
theorem OCs.set {w : World} {base : Nat} {v : Value} {cs : List IC} (h : OCs w base v cs) {q : Nat} (hq : q < base) (i : Nat) (x : Value) : OCs (w.setCell ⟨q, i, none⟩ x) base v cs := by
  obtain ⟨l, h1, h2, h3⟩ := h.ex
  refine ⟨l, h1.grown (grown_set w q i x) ?_, h2, fun j hj => ⟨(h3 j hj).1, (h3 j hj).2.own ⟨by simp, fun b hb hB => heap_setCell_other w ⟨q, i, none⟩ b x (fun e => by have := hB.1; simp only at e; omega)⟩⟩⟩
  cases hv : v.ownBlock with
  | none => exact .inl rfl
  | some j => exact .inr fun e => by have := (h1.lt j hv).1; cases e; omega
theorem owns_at8 {w : World} {base : Nat} {v : Value} {d : List Nat} (h : Owns w base 5 .u8 v d) : At w (Own w base 5) .u8 v d := h.at'

set_option maxHeartbeats 2000000 in
set_option maxRecDepth 100000 in
theorem sgcopy_any (f : Int) (v : Value) (cs : List IC) (w : World) (B : Nat → Prop) (h : CellsAt w B v cs) (hl : cs.length ≤ 100000) (hd : ∀ c ∈ cs, c.2.length ≤ 100) :
    Calls Try.prog 16 #[.agg #[.int .i64 f, v]] w fun e w' => ∃ v', e = .returned (.agg #[.int .i64 f, v']) ∧ OCs w' w.heap.size v' cs ∧ Below w.heap.size w w' := by
  obtain ⟨ao, cap, rfl, l1, m1, _⟩ := h.val
  obtain ⟨W1, hW1⟩ : ∃ W1, W1 = (w.alloc (.cells #[.int .i64 f, .slice ao cs.length cap] 24)).alloc (.cells #[.int .i64 0, .slice none 0 0] 24) := ⟨_, rfl⟩
  have hb1 : Below w.heap.size w W1 := by rw [hW1]; exact ((Below.refl _ _).alloc (Nat.le_refl _) _).alloc (by simp) _
  have hx1 : SgB W1 w.heap.size (.int .i64 f) (.slice ao cs.length cap) := by rw [hW1]; exact (sgb_new _ _ _).old ((Below.refl _ _).alloc (Nat.le_refl _) _)
  have hy1 : SgB W1 (w.heap.size + 1) (.int .i64 0) (.slice none 0 0) := by
    have := sgb_new (w.alloc (.cells #[.int .i64 f, .slice ao cs.length cap] 24)) (.int .i64 0) (.slice none 0 0)
    rw [hW1]; simpa using this
  have HX1 := Lib.hid hx1
  have HY1 := Lib.hid hy1
  have HB1 := Lib.hid hb1
  have HR := Lib.hid (h.old hb1)
  have HD := Lib.hid hd
  obtain ⟨n, hn⟩ : ∃ n, n = cs.length := ⟨_, rfl⟩
  rw [← hn] at HX1 HR hW1 hl ⊢
  have HN := Lib.hid hn
  have HSZ : Hid (W1.heap.size = w.heap.size + 2) := Lib.hid (by rw [hW1]; simp)
  have HW1 := Lib.hid hW1
  have HL := Lib.hid hl
  clear h hb1 l1 m1 hx1 hy1 hn hW1 hd
  go_enter Try.func16, Try.ntmps16
  go_wp2_with fail
  go_loopw [3, 5, 9] (fun rv _ i wr => ∃ k : Nat, k ≤ n ∧ i = .int .i64 (k : Int) ∧ OCs wr W1.heap.size rv (cs.take k) ∧ Below W1.heap.size W1 wr)
    (fun _ _ i _ => n - (intOf i).toNat)
  case atStart => exact ⟨0, Nat.zero_le _, rfl, ocs_nil _ _, by rw [← HW1.out]; exact Below.refl _ _⟩
  case round =>
    obtain ⟨k, hk, rfl, ho, hb⟩ := hrel
    have HB := Lib.hid hb
    have HO := Lib.hid ho
    clear hb ho
    by_cases hlt : k < n
    · have hltc : k < cs.length := by rw [← HN.out]; exact hlt
      obtain ⟨b, off, x, rfl, _, _, c0, c1, hat⟩ := (HR.out.old HB.out).at hltc
      have HTK := Lib.hid (take_snocI cs k hltc)
      have hd100 : (cs.getD k (0, [])).2.length ≤ 100 := HD.out _ (by rw [List.getD_eq_getElem?_getD, List.getElem?_eq_getElem hltc]; exact List.getElem_mem hltc)
      generalize hg : cs.getD k (0, []) = g at c0 c1 hat hd100
      rw [hg] at HTK
      obtain ⟨kk, d⟩ := g
      simp only at c0 hat hd100
      obtain ⟨aot, capt, rfl, _, _, _⟩ := hat.reads.val
      have hlti : (k : Int) < (n : Int) := by omega
      have hal : Below wr.heap.size wr (wr.alloc (.cells #[.int .i64 kk, .slice aot d.length capt] 41)) := (Below.refl _ _).alloc (Nat.le_refl _) _
      have HCP := Lib.hid (copy_any kk _ d _ (hat.reads.new hal) (by omega))
      have HAL := Lib.hid hal
      have HO2 := Lib.hid (HO.out.below hal)
      have HKL : Hid ((cs.take k).length = k) := Lib.hid (by rw [List.length_take]; omega)
      generalize d.length = nd at *
      clear hg hat hltc hd100 hal
      go_wp2_with fail
      refine HCP.out.mono ?_
      rintro e w3 ⟨v3, rfl, ho3, hb3⟩
      obtain ⟨ao3, cap3, rfl, _, _, _⟩ := ho3.reads.val
      obtain ⟨l, q1, q2, q3⟩ := (HO2.out.below hb3).ex
      have q2' : l.length = k := by rw [q2, HKL.out]
      obtain ⟨aor, capr, hrv⟩ := q1.form
      rw [q2'] at hrv
      subst hrv
      have HQ1 := Lib.hid q1
      have HQ2 := Lib.hid q2
      have HQ3 := Lib.hid q3
      have HU := Lib.hid ((owns_at8 ho3).mono fun j _ hB => (⟨Nat.le_trans (by have := HB.out.size; have := HAL.out.size; omega) hB.1, hB.2⟩ : Own w3 W1.heap.size 5 j))
      have HLK : Hid (l.length = k) := Lib.hid q2'
      have HB3 := Lib.hid ((HB.out.trans (HAL.out.mono HB.out.size)).trans (hb3.mono (by have := HB.out.size; have := HAL.out.size; omega)))
      clear q1 q2 q3 q2' ho3 hb3 c0 c1
      go_wp2_with (at_builtin; go_must (refine wpList_appI _ rfl _ _ rfl W1.heap.size _ l rfl (HQ1.out.below ((Below.refl _ _).alloc (Nat.le_refl _) _)) kk _ rfl w3 rfl rfl ?c1 ?c3 ?_))
      case c1 => rw [HLK.out]; have := HL.out; omega
      case c3 => have := HB3.out.size; simp; omega
      intro v4 w4 ho4 hg4
      have hal3 : Below w3.heap.size w3 (w3.alloc (.cells #[.int .i64 kk, .slice ao3 d.length cap3] 41)) := (Below.refl _ _).alloc (Nat.le_refl _) _
      have HB4 : Hid (Below W1.heap.size W1 w4) := Lib.hid ((HB3.out.trans (hal3.mono HB3.out.size)).grown hg4 (HB3.out.trans (hal3.mono HB3.out.size)).size (fun j hj => (HQ1.out.lt j hj).1))
      have HO4 : Hid (OCs w4 W1.heap.size v4 (cs.take (k + 1))) := Lib.hid (by
        rw [HTK.out]
        exact OCs.push (HQ1.out.below hal3) HQ2.out (fun i hi => ⟨(HQ3.out i hi).1, (HQ3.out i hi).2.own (kept_new hal3 _)⟩) hg4 ho4 (HU.out.own (kept_new hal3 _)))
      clear ho4 hg4 hal3
      go_wp2
      go_roundw
      case rel => exact ⟨k + 1, by omega, by go_num, HO4.out, HB4.out⟩
      case measure => simp [intOf]; omega
    · obtain rfl : k = n := by omega
      rw [HN.out, List.take_length] at HO
      obtain ⟨aor, capr, hrv⟩ := HO.out.form
      rw [← HN.out] at hrv
      subst hrv
      obtain ⟨c0, c1, _, _⟩ := (HX1.out.old HB.out).x
      obtain ⟨d0, d1, f0, f1⟩ := (HY1.out.old HB.out).x
      have HF : Hid (Below w.heap.size w wr) := Lib.hid (HB1.out.trans (HB.out.mono HB1.out.size))
      go_wp2
      refine bodyPost_ret (v := .agg #[.int .i64 f, .slice aor k capr]) (by simp [results, Try.results16, go_sem, d0, d1]) rfl ⟨_, rfl, ?_, ?_⟩
      · exact ((HO.out.set (by have := HSZ.out; omega) _ _).set (by have := HSZ.out; omega) _ _).mono HB1.out.size
      · exact (HF.out.setCell (by simp) _).setCell (by simp) _

end Go.Proofs.Ytojndpelilolkaa
