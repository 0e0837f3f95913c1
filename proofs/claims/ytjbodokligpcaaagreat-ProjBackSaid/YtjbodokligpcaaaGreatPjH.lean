/- Package proj: without, Copy, eachOnce. -/
import Derived.Test.YtjbodokligpcaaaGreatPjG
namespace Go.Proofs.YtjbodokligpcaaaGreat
open Go.RowKit

/-- Rows of the call's own, each in a block of its own. -/
def Rows1 (w : World) (base : Nat) (v : Value) (ls : List (List Int)) : Prop :=
  ∃ us : List Value, us.length = ls.length ∧ w.ownsRow base 40 1 v us.length us ∧ (∀ i, i < ls.length → IOwn w base (us.getD i .nilIface) (ls.getD i [])) ∧
    ∀ i j, i < j → j < ls.length → ∀ b, (us.getD i .nilIface).ownBlock = some b → (us.getD j .nilIface).ownBlock ≠ some b

theorem tII_ne : (3 : TypeId) ≠ 40 := by decide
theorem iown_ne {w : World} {base base' : Nat} {v ov : Value} {l : List Int} {n : Nat} {us : List Value} (h : IOwn w base v l) (ho : w.ownsRow base' 40 1 ov n us) : v.ownBlock = none ∨ v.ownBlock ≠ ov.ownBlock := by
  rcases h.2 with ⟨rfl, _⟩ | ⟨g, cap, cur, rfl, _, hg, _⟩
  · exact .inl rfl
  · right
    rcases ho.2 with ⟨rfl, _⟩ | ⟨g', cap', cur', rfl, _, hg', _⟩
    · simp [Value.ownBlock]
    · intro e
      simp only [Value.ownBlock, Option.some.injEq] at e
      subst e
      rw [hg] at hg'
      cases hg'
theorem Rows1.one {w : World} {base : Nat} {us : List Value} {ls : List (List Int)} (hl : us.length = ls.length) (h : ∀ i, i < ls.length → IOwn w base (us.getD i .nilIface) (ls.getD i [])) : ∀ u ∈ us, u.oneCell' = true := by
  intro u hu
  obtain ⟨i, hi, rfl⟩ := List.getElem_of_mem hu
  have h1 := h i (by omega)
  rw [List.getD_eq_getElem?_getD, List.getElem?_eq_getElem hi] at h1
  exact h1.row.one
theorem Rows1.chs {w : World} {base : Nat} {v : Value} {ls : List (List Int)} (h : Rows1 w base v ls) : Chs w (fun j => base ≤ j) v ls := by
  obtain ⟨us, h1, h2, h3, _⟩ := h
  exact ⟨us, h1, (owned_row h2).mono fun j _ hj => hj.1, Rows1.one h1 h3, fun i hi => (h3 i hi).row.mono fun j _ hj => hj.1⟩
theorem Rows1.below {w w' : World} {base : Nat} {v : Value} {ls : List (List Int)} (h : Rows1 w base v ls) (hb : Below w.heap.size w w') : Rows1 w' base v ls := by
  obtain ⟨us, h1, h2, h3, h4⟩ := h
  refine ⟨us, h1, ?_, fun i hi => (h3 i hi).below hb (Nat.le_refl _), h4⟩
  refine ⟨h2.1, ?_⟩
  rcases h2.2 with h5 | ⟨g, cap, cur, e1, e2, e3, r⟩
  · exact .inl h5
  · exact .inr ⟨g, cap, cur, e1, e2, (hb.block g (Array.getElem?_eq_some_iff.1 e3).1).trans e3, r⟩
theorem Rows1.keepB {w w' : World} {base : Nat} {v : Value} {ls : List (List Int)} (h : Rows1 w base v ls) (hk : ∀ j, base ≤ j → j < w.heap.size → w'.heap[j]? = w.heap[j]?) : Rows1 w' base v ls := by
  obtain ⟨us, h1, h2, h3, h4⟩ := h
  have move : ∀ {e : TypeId} {x : Value} {n : Nat} {xs : List Value}, w.ownsRow base e 1 x n xs → w'.ownsRow base e 1 x n xs := by
    intro e x n xs hr
    refine ⟨hr.1, ?_⟩
    rcases hr.2 with h5 | ⟨g, cap, cur, e1, e2, e3, r⟩
    · exact .inl h5
    · exact .inr ⟨g, cap, cur, e1, e2, (hk g e2 (Array.getElem?_eq_some_iff.1 e3).1).trans e3, r⟩
  exact ⟨us, h1, move h2, fun i hi => move (h3 i hi), h4⟩
theorem Rows1.mono {w : World} {base base' : Nat} {v : Value} {ls : List (List Int)} (h : Rows1 w base v ls) (hb : base' ≤ base) : Rows1 w base' v ls := by
  obtain ⟨us, h1, h2, h3, h4⟩ := h
  refine ⟨us, h1, ⟨h2.1, ?_⟩, fun i hi => (h3 i hi).mono hb, h4⟩
  rcases h2.2 with h5 | ⟨g, cap, cur, e1, e2, e3, r⟩
  · exact .inl h5
  · exact .inr ⟨g, cap, cur, e1, Nat.le_trans hb e2, e3, r⟩
theorem Rows1.grown {w w' : World} {base : Nat} {v : Value} {ls : List (List Int)} {r : Option Nat} (h : Rows1 w base v ls) (hg : w.grownBy w' r) (hr : ∀ b, r = some b → w.heap.size ≤ b) : Rows1 w' base v ls := by
  refine h.below ⟨hg.os, hg.tape, hg.output, hg.size, fun j hj => hg.block j hj fun e => ?_⟩
  have := hr j e.symm
  omega
theorem Rows1.lt {w : World} {base : Nat} {us : List Value} {ls : List (List Int)} (h : ∀ i, i < ls.length → IOwn w base (us.getD i .nilIface) (ls.getD i [])) {i : Nat} (hi : i < ls.length) : ∀ b, (us.getD i .nilIface).ownBlock = some b → base ≤ b ∧ b < w.heap.size := (h i hi).lt
theorem rows_nil (w : World) (base : Nat) : Rows1 w base (.slice none 0 0) [] := ⟨[], rfl, World.ownsRow_nil w base _ 1, by simp, by simp⟩
theorem getD_snocL {α : Type} (us : List α) (u d : α) (i : Nat) : (us ++ [u]).getD i d = if i < us.length then us.getD i d else if i = us.length then u else d := by
  by_cases h : i < us.length
  · rw [if_pos h, List.getD_eq_getElem?_getD, List.getElem?_append_left h, ← List.getD_eq_getElem?_getD]
  · rw [if_neg h, List.getD_eq_getElem?_getD, List.getElem?_append_right (by omega)]
    by_cases e : i = us.length
    · subst e; simp
    · rw [if_neg e, List.getElem?_eq_none (by simp; omega)]; rfl

/-- One row more. -/
theorem rows_snoc {w0 w w' : World} {base m : Nat} {v v' u : Value} {us : List Value} {ls : List (List Int)} {l : List Int} (h1 : us.length = ls.length) (h2 : w.ownsRow base 40 1 v us.length us)
    (h3 : ∀ i, i < ls.length → IOwn w base (us.getD i .nilIface) (ls.getD i [])) (h4 : ∀ i j, i < j → j < ls.length → ∀ b, (us.getD i .nilIface).ownBlock = some b → (us.getD j .nilIface).ownBlock ≠ some b)
    (hm : ∀ i, i < ls.length → ∀ b, (us.getD i .nilIface).ownBlock = some b → b < m) (hu : IOwn w base u l) (hum : ∀ b, u.ownBlock = some b → m ≤ b)
    (hw0 : w0 = w.alloc (.cells #[u] 40)) (ho : w'.ownsRow base 40 1 v' (us ++ [u]).length (us ++ [u])) (hg : w0.grownBy w' v.ownBlock) : Rows1 w' base v' (ls ++ [l]) := by
  have hb0 : Below w.heap.size w w0 := by rw [hw0]; exact (Below.refl _ _).alloc (Nat.le_refl _) _
  have hv0 : w0.ownsRow base 40 1 v us.length us := by
    refine ⟨h2.1, ?_⟩
    rcases h2.2 with h5 | ⟨g, cap, cur, e1, e2, e3, r⟩
    · exact .inl h5
    · exact .inr ⟨g, cap, cur, e1, e2, (hb0.block g (Array.getElem?_eq_some_iff.1 e3).1).trans e3, r⟩
  have key : ∀ (x : Value) (t : List Int), IOwn w base x t → IOwn w' base x t := fun x t hx => by
    have hx0 := hx.below hb0 (Nat.le_refl _)
    exact hx0.grown hg (iown_ne hx0 hv0)
  refine ⟨us ++ [u], by simp [h1], ho, fun i hi => ?_, fun i j hij hj b hb => ?_⟩
  · rw [List.length_append, List.length_singleton] at hi
    rw [getD_snocL, getD_snocL]
    by_cases h : i < ls.length
    · rw [if_pos (by omega), if_pos h]
      exact key _ _ (h3 i h)
    · rw [if_neg (by omega), if_pos (by omega), if_neg h, if_pos (by omega)]
      exact key _ _ hu
  · rw [List.length_append, List.length_singleton] at hj
    rw [getD_snocL, if_pos (by omega)] at hb
    rw [getD_snocL]
    by_cases h : j < ls.length
    · rw [if_pos (by omega)]
      exact h4 i j hij h b hb
    · rw [if_neg (by omega), if_pos (by omega)]
      intro e
      have a1 := hm i (by omega) b hb
      have a2 := hum b e
      omega

theorem rows_step {wr w3 w0 : World} {base : Nat} {v u : Value} {ls : List (List Int)} {l : List Int} (h : Rows1 wr base v ls) (hb : Below wr.heap.size wr w3) (hu : IOwn w3 base u l) (hum : ∀ b, u.ownBlock = some b → wr.heap.size ≤ b)
    (hw0 : w0 = w3.alloc (.cells #[u] 40)) : ∃ us : List Value, us.length = ls.length ∧ w0.ownsRow base 40 1 v us.length us ∧
      ∀ v' w', w'.ownsRow base 40 1 v' (us ++ [u]).length (us ++ [u]) → w0.grownBy w' v.ownBlock → Rows1 w' base v' (ls ++ [l]) ∧ (base ≤ w0.heap.size → Below base w0 w') := by
  obtain ⟨us, h1, h2, h3, h4⟩ := h
  have move : ∀ {a b : World}, Below a.heap.size a b → a.ownsRow base 40 1 v us.length us → b.ownsRow base 40 1 v us.length us := by
    intro a b hab hr
    refine ⟨hr.1, ?_⟩
    rcases hr.2 with h5 | ⟨g, cap, cur, e1, e2, e3, r⟩
    · exact .inl h5
    · exact .inr ⟨g, cap, cur, e1, e2, (hab.block g (Array.getElem?_eq_some_iff.1 e3).1).trans e3, r⟩
  have hb0 : Below w3.heap.size w3 w0 := by rw [hw0]; exact (Below.refl _ _).alloc (Nat.le_refl _) _
  have h23 := move hb h2
  have h20 := move hb0 h23
  refine ⟨us, h1, h20, fun v' w' ho hg => ⟨?_, fun hbase => ?_⟩⟩
  · exact rows_snoc h1 h23 (fun i hi => (h3 i hi).below hb (Nat.le_refl _)) h4 (fun i hi b e => ((h3 i hi).lt b e).2) hu hum hw0 ho hg
  · exact (Below.refl _ _).grown hg hbase fun j hj => (World.ownsRow.lt h20 j hj).1

/-- A walk of an append of one row onto rows that the call owns. -/
theorem wpList_appR {u : Value} (w3 w0 : World) {ops : Array Oper} {rest : List Oper} {o : Oper} {a : Act} {Q : Exit → Act → World → Prop} (hgd : o.guard = none) (s x : Operand)
    (ho : o.op = .call { callee := .builtin .append, args := #[s, x], argTypes := #[23, 23] })
    (hw0 : w0 = w3.alloc (.cells #[u] 40)) (wr : World) (base : Nat) (v : Value) (ls : List (List Int)) (l : List Int) (hs : a.eval s = v) (h : Rows1 wr base v ls) (hb : Below wr.heap.size wr w3) (hu : IOwn w3 base u l) (hum : ∀ b, u.ownBlock = some b → wr.heap.size ≤ b)
    (hx : a.eval x = .slice (some ⟨w3.heap.size, 0, none⟩) 1 1) (hn : ls.length ≤ 1000000) (hbase : base ≤ wr.heap.size)
    (hk : ∀ v' w', Rows1 w' base v' (ls ++ [l]) → Below base w0 w' → wpList Tryz.prog ops Q rest (a.put o.dst v') w') : wpList Tryz.prog ops Q (o :: rest) a w0 := by
  obtain ⟨us, h1, h2, h3⟩ := rows_step h hb hu hum hw0
  have hsz : base ≤ w0.heap.size := by rw [hw0]; have := hb.size; simp; omega
  have hone := row_one w3 40 u (0, 0)
  rw [← hw0] at hone
  refine wpList_appV w0 hgd s x 23 ho base 40 (.slice none 0 0) 24 Tryz.underlying23 Tryz.infoII rfl v us hs h2 _ _ [u] hx hone ?_ (by decide) (by simp only [List.length_singleton]; omega) hsz ?_
  · intro y hy
    rw [List.mem_singleton] at hy
    rw [hy]
    exact hu.row.one
  · intro v' w' ho' hg
    obtain ⟨a1, a2⟩ := h3 v' w' ho' hg
    exact hk v' w' a1 (a2 hsz)

set_option maxHeartbeats 2000000 in
set_option maxRecDepth 100000 in
theorem without_any (K : Nat) (caps : Array Value) (g : Int → Bool) (ok : Int → Prop) (w : World) (hg : GoneAt K caps g ok w) (v : Value) (cs : List (List Int)) (B : Nat → Prop) (h : Chs w B v cs)
    (hok : ∀ c ∈ cs, ∀ x ∈ c, ok x) (hl : ∀ c ∈ cs, c.length ≤ 1000000) (hn : cs.length ≤ 1000000) :
    Calls Tryz.prog 34 #[v, .func (.func K) #[] caps] w fun e w' => ∃ v', e = .returned v' ∧ Rows1 w' w.heap.size v' (cs.map (dropL g)) ∧ Below w.heap.size w w' := by
  obtain ⟨ao, cap, rfl, h1, h2, h3⟩ := h.val
  have HR := Lib.hid h
  have HG := Lib.hid hg
  have HOK := Lib.hid hok
  have HLE := Lib.hid hl
  clear h h3 hg hok hl
  unfold maxLen at h2
  go_enter Tryz.func34, Tryz.ntmps34
  go_wp2
  go_loopw [5, 7, 10] (fun ov _ i wr => ∃ k : Nat, k ≤ cs.length ∧ i = .int .i64 (k : Int) ∧ Rows1 wr w.heap.size ov ((cs.take k).map (dropL g)) ∧ Below w.heap.size w wr)
    (fun _ _ i _ => cs.length - (intOf i).toNat)
  case atStart => exact ⟨0, Nat.zero_le _, rfl, by simpa using rows_nil _ _, Below.refl _ _⟩
  case round =>
    obtain ⟨k, hk, rfl, hrow, hb⟩ := hrel
    have HROW := Lib.hid hrow
    have HB := Lib.hid hb
    clear hrow hb
    by_cases hlt : k < cs.length
    · obtain ⟨b, off, x, rfl, hbl, _, hc, hat⟩ := (HR.out.old HB.out).at hlt
      have hm := getD_memC k hlt
      have HC := Lib.hid (cloneI_any x _ wr B hat (HLE.out _ hm))
      have HTS : Hid ((cs.take (k + 1)).map (dropL g) = (cs.take k).map (dropL g) ++ [dropL g (cs.getD k [])]) := Lib.hid (by rw [chains_take k hlt]; simp)
      have HM : Hid ((∀ y ∈ cs.getD k [], ok y) ∧ (cs.getD k []).length ≤ 1000000) := Lib.hid ⟨HOK.out _ hm, HLE.out _ hm⟩
      have hlti : (k : Int) < cs.length := by omega
      generalize cs.getD k [] = c at HC HTS HM
      have hx1 := hat.one
      clear hat hm hx1
      go_wp2_with fail
      refine HC.out.mono ?_
      rintro e w2 ⟨v2, rfl, ho2, hb2⟩
      have HB2 := Lib.hid hb2
      have HBW : Hid (Below w.heap.size w w2) := Lib.hid (HB.out.trans (hb2.mono HB.out.size))
      have HD := Lib.hid (deleteF_any K caps g ok w HG.out v2 c w2 (ho2.mono HB.out.size) HBW.out HM.out.1 HM.out.2)
      have HL2 : Hid (∀ q, v2.ownBlock = some q → wr.heap.size ≤ q) := Lib.hid fun q hq => (ho2.lt q hq).1
      clear ho2 hb2
      go_wp2_with fail
      refine HD.out.mono ?_
      rintro e w3 ⟨v3, rfl, ho3, hob, hg3⟩
      have HB3 : Hid (Below wr.heap.size wr w3) := Lib.hid (HB2.out.grown hg3 HB2.out.size HL2.out)
      have HU3 : Hid (∀ q, v3.ownBlock = some q → wr.heap.size ≤ q) := Lib.hid fun q hq => HL2.out q (by rw [← hob]; exact hq)
      have HO3 := Lib.hid ho3
      obtain ⟨ao3, cap3, hv3⟩ := slice_val ho3
      obtain ⟨n3, hn3⟩ : ∃ n, n = (dropL g c).length := ⟨_, rfl⟩
      rw [← hn3] at hv3
      subst hv3
      clear ho3 hob hg3 hn3
      go_wp2_with (at_builtin; go_must (refine wpList_appR w3 _ rfl _ _ rfl rfl wr w.heap.size _ _ _ rfl HROW.out HB3.out HO3.out HU3.out rfl ?c1 HB.out.size ?_))
      case c1 => rw [List.length_map, List.length_take]; omega
      intro v4 w4 hr4 hb4
      have HR4 : Hid (Rows1 w4 w.heap.size v4 ((cs.take (k + 1)).map (dropL g))) := Lib.hid (by rw [HTS.out, List.map_take]; exact hr4)
      have HB4 : Hid (Below w.heap.size w w4) := Lib.hid (((HB.out.trans (HB3.out.mono HB.out.size)).alloc (by have := HB.out.size; have := HB3.out.size; omega) _).trans hb4)
      clear hr4 hb4
      go_wp2
      go_roundw
      case rel => exact ⟨k + 1, by omega, by go_num, HR4.out, HB4.out⟩
      case measure => simp [intOf]; omega
    · obtain rfl : k = cs.length := by omega
      have hrow := HROW.out
      rw [List.take_length] at hrow
      have HROW2 := Lib.hid hrow
      clear hrow
      go_wp2
      go_ret
      exact ⟨_, rfl, HROW2.out, HB.out⟩

theorem map_dropL_none (cs : List (List Int)) : cs.map (dropL fun _ => false) = cs := by
  have : (dropL fun _ => false) = (fun c : List Int => c) := by funext c; unfold dropL; simp
  rw [this, List.map_id']

end Go.Proofs.YtjbodokligpcaaaGreat
