/- Package proj's Next: the spares, dealt out to chains of the call's own. -/
import Derived.Test.YtjbodokligpcaaaGreatPjJ
namespace Go.Proofs.YtjbodokligpcaaaGreat
open Go.RowKit

theorem IRow.head {w : World} {B : Nat → Prop} {ao : Option Addr} {n cap : Nat} {l : List Int} (h : IRow w B (.slice ao n cap) l) {m : Nat} (hm : m ≤ l.length) : IRow w B (.slice ao m cap) (l.take m) := by
  obtain ⟨ao', cap', hv, h1, h2, h3, h4⟩ := h
  rw [iv_length] at hv h1
  simp only [Value.slice.injEq] at hv
  obtain ⟨rfl, rfl, rfl⟩ := hv
  have hlen : (iv (l.take m)).length = m := by rw [iv_length, List.length_take]; omega
  refine ⟨ao, cap, by rw [hlen], by omega, h2, h3, ?_⟩
  rcases h4 with h4 | ⟨b, off, ha, hb, hB, hc⟩
  · left
    rw [← iv_take, h4]; simp
  · refine .inr ⟨b, off, ha, hb, hB, fun i hi => ?_⟩
    rw [hlen] at hi
    rw [hc i (by rw [iv_length]; omega), ← iv_take, List.getElem?_take, if_pos hi]
theorem IRow.tail {w : World} {B : Nat → Prop} {ao : Option Addr} {n cap : Nat} {l : List Int} (h : IRow w B (.slice ao n cap) l) {m : Nat} (hm : m ≤ l.length) : IRow w B (.slice (if cap = m then ao else ao.map fun x => x.add m) (n - m) (cap - m)) (l.drop m) := by
  obtain ⟨ao', cap', hv, h1, h2, h3, h4⟩ := h
  rw [iv_length] at hv h1
  simp only [Value.slice.injEq] at hv
  obtain ⟨rfl, rfl, rfl⟩ := hv
  have hlen : (iv (l.drop m)).length = l.length - m := by rw [iv_length, List.length_drop]
  refine ⟨_, _, by rw [hlen], by rw [hlen]; omega, by omega, fun hn => ?_, ?_⟩
  · split at hn
    · omega
    · have := h3 (by simpa using hn); omega
  · by_cases hc : cap = m
    · left
      rw [List.drop_eq_nil_of_le (by omega)]; rfl
    · rw [if_neg hc]
      rcases h4 with h4 | ⟨b, off, rfl, hb, hB, hcell⟩
      · left
        have : l = [] := by
          have := congrArg List.length h4
          rw [iv_length] at this
          exact List.length_eq_zero_iff.1 this
        rw [this]; simp [iv]
      · refine .inr ⟨b, off + m, by simp [Addr.add], hb, hB, fun i hi => ?_⟩
        rw [hlen] at hi
        rw [Nat.add_assoc, hcell (m + i) (by rw [iv_length]; omega)]
        simp [iv]

/-- Behind an append onto a row that is not nil the row's block is the same, or new. -/
theorem append_block {w w' : World} {base g n cap m c : Nat} {xs : List Value} {a : Addr} {news : List Value} {ty : TypeId} {v' : Value} (hown : w.ownsRow base 3 1 (.slice (some ⟨g, 0, none⟩) n cap) n xs) (hl : news.length = m) (hnews : ∀ j u, news[j]? = some u → w.cell? (a.add j) = some u) (h1 : ∀ u ∈ news, u.oneCell' = true)
    (hsm : n + m ≤ 1000000000) (hr : (Builtin.append_ #[40, 40] ty #[.slice (some ⟨g, 0, none⟩) n cap, .slice (some a) m c]).run Tryz.prog w = .ok v' w') : v'.ownBlock = some g ∨ v'.ownBlock = some w.heap.size := by
  obtain ⟨i, hi, hz, hsz, hby⟩ := info_parts Tryz.infoI
  rcases hown.2 with ⟨h0, _⟩ | ⟨g', cap', cur, hv, hb, hg, hnc, hcm, hcs, ht⟩
  · cases h0
  simp only [Value.slice.injEq, Option.some.injEq, Addr.mk.injEq, and_true, true_and] at hv
  obtain ⟨rfl, rfl⟩ := hv
  by_cases hroom : n + m ≤ cap
  · have hx := run_append_room (P := Tryz.prog) w 40 ty 3 i Tryz.underlying40 hi g n cap cur hg a m c news (by rw [hl, hsz, Nat.mul_one]) hnews h1 hroom (by rw [hsz, hl]; omega)
    rw [hr] at hx
    injection hx with hx _
    left; rw [hx]; rfl
  · have holds : ∀ j u, xs[j]? = some u → w.cell? ((⟨g, 0, none⟩ : Addr).add j) = some u := hown.cells (g := g) rfl
    have hx := run_append_grow (P := Tryz.prog) w 40 ty 3 i (.int .i64 0) Tryz.underlying40 hi hz ⟨g, 0, none⟩ n cap xs (by rw [hsz]; exact hown.1) holds a m c news (by rw [hl, hsz, Nat.mul_one]) hnews (by omega) (by omega) (growslice_fits (by omega) (by rw [hby]; omega))
    rw [hr] at hx
    injection hx with hx _
    right; rw [hx]; rfl

/-- A walk of an append of a row of numbers onto a row that is not nil, of which it is told where it lies. -/
theorem wpList_appB (w : World) {ops : Array Oper} {rest : List Oper} {o : Oper} {a : Act} {Q : Exit → Act → World → Prop} (hgd : o.guard = none) (s x : Operand)
    (ho : o.op = .call { callee := .builtin .append, args := #[s, x], argTypes := #[40, 40] })
    (base g n cap : Nat) (xs : List Int) (hn : n = xs.length) (hs : a.eval s = .slice (some ⟨g, 0, none⟩) n cap) (hown : IOwn w base (.slice (some ⟨g, 0, none⟩) n cap) xs)
    (sv : Value) (B : Nat → Prop) (l : List Int) (hx : a.eval x = sv) (hr : IRow w B sv l)
    (hbytes : xs.length + l.length ≤ 1000000000) (hbase : base ≤ w.heap.size)
    (h : ∀ (go : Option Addr) (cap' g' : Nat) w', go = some ⟨g', 0, none⟩ → IOwn w' base (.slice go (xs.length + l.length) cap') (xs ++ l) → w.grownBy w' (some g) → (g' = g ∨ g' = w.heap.size) → wpList Tryz.prog ops Q rest (a.put o.dst (.slice go (xs.length + l.length) cap')) w') : wpList Tryz.prog ops Q (o :: rest) a w := by
  subst hn
  obtain ⟨i, hi, hz, hsz, hby⟩ := info_parts Tryz.infoI
  have form : ∀ (v' : Value) (w' : World), w'.ownsRow base 3 1 v' (xs.length + l.length) (iv xs ++ iv l) → (v'.ownBlock = some g ∨ v'.ownBlock = some w.heap.size) → w.grownBy w' (some g) → wpList Tryz.prog ops Q rest (a.put o.dst v') w' := by
    intro v' w' h2 h4 h3
    rcases h2.2 with ⟨h0, _⟩ | ⟨g', cap', cur, hv, hb, hg, hnc, hcm, hcs, ht⟩
    · rw [h0] at h4
      rcases h4 with h4 | h4 <;> cases h4
    · subst hv
      refine h _ cap' g' w' rfl ?_ h3 ?_
      · unfold IOwn
        rw [iv_append, List.length_append]
        exact h2
      · rcases h4 with h4 | h4
        · left; simpa [Value.ownBlock] using h4
        · right; simpa [Value.ownBlock] using h4
  obtain ⟨ao, cp, rfl, hl1, hl2, hl3⟩ := hr.val
  cases ao with
  | none =>
    have hl : l = [] := List.length_eq_zero_iff.1 (by have := hl3 rfl; omega)
    subst hl
    have hc := hl3 rfl
    subst hc
    refine wpList_append_own_none hgd s x 40 ho base 3 i 1 Tryz.underlying40 hi _ xs.length (iv xs) hs hown hx ?_
    exact form _ w (by show w.ownsRow base _ 1 _ (xs.length + 0) (iv xs ++ []); rw [Nat.add_zero, List.append_nil]; exact hown) (.inl rfl) (World.grownBy.refl _ _)
  | some ad =>
    have hnews : ∀ j u, (iv l)[j]? = some u → w.cell? (ad.add j) = some u := by
      intro j u hu
      have hj : j < (iv l).length := (List.getElem?_eq_some_iff.1 hu).1
      obtain ⟨ao', cap', hv, _, _, _, h4⟩ := hr
      simp only [Value.slice.injEq] at hv
      obtain ⟨rfl, _, _⟩ := hv
      rcases h4 with h4 | ⟨b, off, ha, _, _, hc⟩
      · rw [h4] at hj; simp at hj
      · obtain rfl := Option.some.inj ha
        rw [Addr.add_lit, hc j hj]
        exact hu
    refine wpList_plain hgd fun K hK => ?_
    obtain ⟨v', w', hrun, h2, h3, _⟩ := run_append_own (P := Tryz.prog) w base 40 o.type 3 i (.int .i64 0) 1 8 Tryz.underlying40 hi hz hsz hby rfl (by decide) _ xs.length (iv xs) hown ad l.length cp (iv l) (by rw [iv_length, Nat.mul_one]) hnews (iv_one l) (by simp only [maxLen]; omega) (by omega) hbase
    have h4 := append_block hown (iv_length l) hnews (iv_one l) (by omega) hrun
    unfold Oper.wp execOp
    simp only [ho, resolve, invoke, builtin, Sem.run_bind, Sem.run_pure, Result.andThen_ok, List.map_toArray, List.map_cons, List.map_nil, hs, hx, hrun]
    exact hK _ _ (form v' w' h2 h4 h3)

/-- Chains of the call's own, and what is free, in a block of its own. -/
def Dlt (w : World) (base : Nat) (v : Value) (ls : List (List Int)) (fv : Value) (fl : List Int) : Prop :=
  ∃ (us : List Value) (fb : Nat), us.length = ls.length ∧ w.ownsRow base 40 1 v us.length us ∧ (∀ i, i < ls.length → IOwn w base (us.getD i .nilIface) (ls.getD i [])) ∧
    (∀ i j, i ≠ j → i < ls.length → j < ls.length → ∀ b, (us.getD i .nilIface).ownBlock = some b → (us.getD j .nilIface).ownBlock ≠ some b) ∧
    (∀ i, i < ls.length → (us.getD i .nilIface).ownBlock ≠ some fb) ∧ v.ownBlock ≠ some fb ∧ fb < w.heap.size ∧ IRow w (fun j => j = fb) fv fl

theorem Dlt.chs {w : World} {base : Nat} {v fv : Value} {ls : List (List Int)} {fl : List Int} (h : Dlt w base v ls fv fl) : Chs w (fun j => base ≤ j) v ls := by
  obtain ⟨us, _, h1, h2, h3, _⟩ := h
  exact ⟨us, h1, (owned_row h2).mono fun j _ hj => hj.1, Rows1.one h1 h3, fun i hi => (h3 i hi).row.mono fun j _ hj => hj.1⟩

theorem dlt_start {w w1 : World} {base p : Nat} {v fv : Value} {ls : List (List Int)} {fl : List Int} (h : Rows1 w base v ls) (hb : Below w.heap.size w w1) (hf : IOwn w1 w.heap.size fv fl) (hp : p < base) (hpw : p < w.heap.size) : Dlt w1 base v ls fv fl := by
  have h1 := h.below hb
  obtain ⟨us0, a1, a2, a3, a4⟩ := h
  have lt : ∀ i, i < ls.length → ∀ b, (us0.getD i .nilIface).ownBlock = some b → base ≤ b ∧ b < w.heap.size := fun i hi => (a3 i hi).lt
  have ltv : ∀ b, v.ownBlock = some b → base ≤ b ∧ b < w.heap.size := World.ownsRow.lt a2
  have b2 : w1.ownsRow base 40 1 v us0.length us0 := by
    refine ⟨a2.1, ?_⟩
    rcases a2.2 with h5 | ⟨g, cap, cur, e1, e2, e3, r⟩
    · exact .inl h5
    · exact .inr ⟨g, cap, cur, e1, e2, (hb.block g (Array.getElem?_eq_some_iff.1 e3).1).trans e3, r⟩
  have b3 : ∀ i, i < ls.length → IOwn w1 base (us0.getD i .nilIface) (ls.getD i []) := fun i hi => (a3 i hi).below hb (Nat.le_refl _)
  have b4 : ∀ i j, i ≠ j → i < ls.length → j < ls.length → ∀ b, (us0.getD i .nilIface).ownBlock = some b → (us0.getD j .nilIface).ownBlock ≠ some b := by
    intro i j hij hi hj b hb
    by_cases hlt : i < j
    · exact a4 i j hlt hj b hb
    · intro hb2
      exact a4 j i (by omega) hi b hb2 hb
  by_cases hfl : fl = []
  · subst hfl
    refine ⟨us0, p, a1, b2, b3, b4, fun i hi e => ?_, fun e => ?_, Nat.lt_of_lt_of_le hpw hb.size, ?_⟩
    · have := lt i hi p e; omega
    · have := ltv p e; omega
    · obtain ⟨ao, cap, hv, c1, c2, c3, c4⟩ := hf.row
      exact ⟨ao, cap, hv, c1, c2, c3, .inl rfl⟩
  · obtain ⟨g, cap, hv, hg1, hg2, hg3, hg4⟩ := hf.form hfl
    refine ⟨us0, g, a1, b2, b3, b4, fun i hi e => ?_, fun e => ?_, hg2, ?_⟩
    · have := lt i hi g e; omega
    · have := ltv g e; omega
    · subst hv
      obtain ⟨ao, cap', hv, c1, c2, c3, c4⟩ := hf.row
      refine ⟨ao, cap', hv, c1, c2, c3, ?_⟩
      rcases c4 with c4 | ⟨b, off, ha, hb, hB, hc⟩
      · exact .inl c4
      · refine .inr ⟨b, off, ha, hb, ?_, hc⟩
        rw [ha] at hv
        simp only [Value.slice.injEq, Option.some.injEq, Addr.mk.injEq, and_true] at hv
        exact hv.1.1.symm

theorem getD_setL {α : Type} (us : List α) (k i : Nat) (u d : α) (hk : k < us.length) : (us.set k u).getD i d = if i = k then u else us.getD i d := by
  rw [List.getD_eq_getElem?_getD, List.getElem?_set]
  by_cases h : k = i
  · subst h
    rw [if_pos rfl, if_pos hk, if_pos rfl]; rfl
  · rw [if_neg h, if_neg (fun e => h e.symm), List.getD_eq_getElem?_getD]

/-- One chain more has its spares. -/
theorem dlt_step {w w1 : World} {base k og g n cap nv capv g' cap' : Nat} {fv : Value} {ls : List (List Int)} {fl add : List Int} {us : List Value} {fb : Nat} (hk : k < ls.length) (h1 : us.length = ls.length)
    (h2 : w.ownsRow base 40 1 (.slice (some ⟨og, 0, none⟩) nv capv) us.length us) (h3 : ∀ i, i < ls.length → IOwn w base (us.getD i .nilIface) (ls.getD i []))
    (h4 : ∀ i j, i ≠ j → i < ls.length → j < ls.length → ∀ b, (us.getD i .nilIface).ownBlock = some b → (us.getD j .nilIface).ownBlock ≠ some b)
    (h5 : ∀ i, i < ls.length → (us.getD i .nilIface).ownBlock ≠ some fb) (h6 : og ≠ fb) (h7 : fb < w.heap.size) (h8 : IRow w (fun j => j = fb) fv fl)
    (hu : us.getD k .nilIface = .slice (some ⟨g, 0, none⟩) n cap) (ho : IOwn w1 base (.slice (some ⟨g', 0, none⟩) ((ls.getD k []).length + add.length) cap') (ls.getD k [] ++ add)) (hg : w.grownBy w1 (some g)) (hgg : g' = g ∨ g' = w.heap.size) :
    Dlt (w1.setCell ⟨og, k, none⟩ (.slice (some ⟨g', 0, none⟩) ((ls.getD k []).length + add.length) cap')) base (.slice (some ⟨og, 0, none⟩) nv capv) (ls.set k (ls.getD k [] ++ add)) fv fl := by
  have hbk : (us.getD k .nilIface).ownBlock = some g := by rw [hu]; rfl
  have hne : og ≠ g := by
    have := iown_ne (h3 k hk) h2
    rw [hu] at this
    rcases this with h | h
    · cases h
    · intro e; apply h; rw [e]; rfl
  have hlen : us.length = nv := by
    rcases h2.2 with ⟨h0, _⟩ | ⟨_, _, _, hv, _⟩
    · cases h0
    · simp only [Value.slice.injEq] at hv; exact hv.2.1.symm
  have o1 : w1.ownsRow base 40 1 (.slice (some ⟨og, 0, none⟩) nv capv) us.length us := World.ownsRow.kept h2 hg (.inr (by simp [Value.ownBlock]; exact hne))
  have o2 := World.ownsRow.stored (hlen ▸ o1 : w1.ownsRow base 40 1 (.slice (some ⟨og, 0, none⟩) nv capv) nv us) k (.slice (some ⟨g', 0, none⟩) ((ls.getD k []).length + add.length) cap')
  have hgs : w1.grownBy (w1.setCell ⟨og, k, none⟩ (.slice (some ⟨g', 0, none⟩) ((ls.getD k []).length + add.length) cap')) (some og) := o2.2
  have kint : ∀ (x : Value) (t : List Int), IOwn w1 base x t → IOwn (w1.setCell ⟨og, k, none⟩ (.slice (some ⟨g', 0, none⟩) ((ls.getD k []).length + add.length) cap')) base x t := fun x t hx => hx.grown hgs (iown_ne hx o1)
  have hlt : ∀ i, i < ls.length → ∀ b, (us.getD i .nilIface).ownBlock = some b → b < w.heap.size := fun i hi b e => ((h3 i hi).lt b e).2
  refine ⟨us.set k (.slice (some ⟨g', 0, none⟩) ((ls.getD k []).length + add.length) cap'), fb, by simp [h1], ?_, fun i hi => ?_, fun i j hij hi hj b hb => ?_, fun i hi => ?_, ?_, ?_, ?_⟩
  · rw [List.length_set, hlen]; exact o2.1
  · rw [List.length_set] at hi
    rw [getD_setL _ _ _ _ _ (by omega), getD_setL _ _ _ _ _ hk]
    by_cases e : i = k
    · rw [if_pos e, if_pos e]
      exact kint _ _ ho
    · rw [if_neg e, if_neg e]
      refine kint _ _ ((h3 i hi).grown hg ?_)
      cases hb : (us.getD i .nilIface).ownBlock with
      | none => exact .inl rfl
      | some b =>
        right
        intro hb2
        exact h4 i k e hi hk b hb (by rw [hbk, ← hb2])
  · rw [List.length_set] at hi hj
    rw [getD_setL _ _ _ _ _ (by omega)] at hb ⊢
    by_cases ei : i = k
    · rw [if_pos ei] at hb
      rw [if_neg (by omega)]
      simp only [Value.ownBlock, Option.some.injEq] at hb
      intro hj2
      rcases hgg with e | e
      · exact h4 k j (by omega) hk hj g hbk (by rw [hj2, ← hb, e])
      · have := hlt j hj b hj2; omega
    · rw [if_neg ei] at hb
      by_cases ej : j = k
      · rw [if_pos ej]
        simp only [Value.ownBlock, ne_eq, Option.some.injEq]
        intro e2
        rcases hgg with e | e
        · exact h4 i k ei hi hk b hb (by rw [hbk, ← e, e2])
        · have := hlt i hi b hb; omega
      · rw [if_neg ej]
        exact h4 i j hij hi hj b hb
  · rw [List.length_set] at hi
    rw [getD_setL _ _ _ _ _ (by omega)]
    by_cases ei : i = k
    · rw [if_pos ei]
      simp only [Value.ownBlock, ne_eq, Option.some.injEq]
      intro e2
      rcases hgg with e | e
      · exact h5 k hk (by rw [hbk, ← e, e2])
      · omega
    · rw [if_neg ei]; exact h5 i hi
  · simp only [Value.ownBlock, ne_eq, Option.some.injEq]; exact h6
  · have := hg.size; have := hgs.size; omega
  · refine h8.keep ⟨Nat.le_trans hg.size hgs.size, fun j hj e => ?_⟩
    subst e
    rw [hgs.block j (Nat.lt_of_lt_of_le hj hg.size) (fun e => h6 (Option.some.inj e).symm)]
    exact hg.block j hj (fun e => h5 k hk (by rw [hbk]; exact e.symm))

theorem Dlt.tail {w : World} {base : Nat} {v : Value} {ls : List (List Int)} {ao : Option Addr} {n cap m : Nat} {fl : List Int} (h : Dlt w base v ls (.slice ao n cap) fl) (hm : m ≤ fl.length) : Dlt w base v ls (.slice (if cap = m then ao else ao.map fun x => x.add m) (n - m) (cap - m)) (fl.drop m) := by
  obtain ⟨us, fb, h1, h2, h3, h4, h5, h6, h7, h8⟩ := h
  exact ⟨us, fb, h1, h2, h3, h4, h5, h6, h7, h8.tail hm⟩
theorem dealt_zero (cs ls : List (List Int)) : dealt cs ls 0 = 0 := by cases cs <;> cases ls <;> rfl
theorem set_dealt {D L : List (List Int)} {k : Nat} (hk : k < L.length) (hl : D.length = L.length) : (D.take k ++ L.drop k).set k (D.getD k []) = D.take (k + 1) ++ L.drop (k + 1) := by
  rw [chains_take k (by omega), List.set_append_right _ _ (by rw [List.length_take]; omega), List.length_take, Nat.min_eq_left (by omega), Nat.sub_self, List.drop_eq_getElem_cons hk, List.set_cons_zero, List.append_assoc]
  rfl
theorem getD_dealt {D L : List (List Int)} {k : Nat} (hk : k < L.length) (hl : D.length = L.length) : (D.take k ++ L.drop k).getD k [] = L.getD k [] := by
  rw [List.getD_eq_getElem?_getD, List.getElem?_append_right (by rw [List.length_take]; omega), List.length_take, Nat.min_eq_left (by omega), Nat.sub_self, List.getElem?_drop, Nat.add_zero, List.getD_eq_getElem?_getD]
theorem any_none {L : List (List Int)} : (L.any fun c => (fun n => decide (n = 0)) c.length) = !L.all fun c => !c.isEmpty := by
  rw [List.not_all_eq_any_not]
  congr 1
  funext c
  cases c <;> simp

end Go.Proofs.YtjbodokligpcaaaGreat
