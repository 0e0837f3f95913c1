/- The document's Units. -/
import Derived.Test.YtgjdablifncbaaaGreatPkB
import Derived.Test.YtgjdablifncbaaaGreatPjQ
import Derived.Test.YtgjdablifncbaaaGreatPjL
import Derived.Test.YtgjdablifncbaaaGreatPjI
namespace Go.Proofs.YtgjdablifncbaaaGreat
open Go.RowKit

theorem insU_at {u : Int} : ∀ (l : List Int) (n : Nat), n ≤ l.length → (∀ x ∈ l.take n, x < u) → (n = l.length ∨ ¬ l.getD n 0 < u) → insU u l = if n < l.length ∧ l.getD n 0 = u then l else l.take n ++ u :: l.drop n
  | [], n, h, _, _ => by
    obtain rfl : n = 0 := by simpa using h
    simp [insU]
  | x :: l, 0, _, _, h => by
    have hx : ¬ x < u := by
      rcases h with h | h
      · simp at h
      · simpa using h
    unfold insU
    rw [if_neg hx]
    simp
  | x :: l, n + 1, h, h1, h2 => by
    have hx : x < u := h1 x (by simp)
    have ih := insU_at l n (by simpa using h) (fun y hy => h1 y (by simp [hy])) (by simpa using h2)
    unfold insU
    rw [if_pos hx, ih]
    by_cases hc : n < l.length ∧ l.getD n 0 = u
    · rw [if_pos hc, if_pos (by simpa using hc)]
    · rw [if_neg hc, if_neg (by simpa using hc)]
      rfl

/-- An append of ints that read, nil or not, at a step of a region that draws. -/
theorem step_appI {w : World} {ops : Array Oper} {o : Oper} {a : Act} {K : Act → World → Prop} {Q : Exit → Act → World → Prop} {E : Prop} (hgd : o.guard = none) (s x : Operand)
    (ho : o.op = .call { callee := .builtin .append, args := #[s, x], argTypes := #[40, 40] })
    (base : Nat) (v : Value) (xs : List Int) (hs : a.eval s = v) (hown : IOwn w base v xs)
    (sv : Value) (B : Nat → Prop) (l : List Int) (hx : a.eval x = sv) (hr : IRow w B sv l)
    (hbytes : xs.length + l.length ≤ 1000000) (hbase : base ≤ w.heap.size)
    (h : ∀ v' w', IOwn w' base v' (xs ++ l) → w.grownBy w' v.ownBlock → K (a.put o.dst v') w') : if Region.wanted o (yielded ops a.tmps) = true then Oper.wp Tryz.prog o a w K Q else E := by
  rw [if_pos (by simp only [Region.wanted, hgd])]
  obtain ⟨i, hi, hz, hsz, hby⟩ := info_parts Tryz.infoI
  obtain ⟨ao, cap, rfl, h1, h2, h3, h4⟩ := hr
  have hil := iv_length l
  cases ao with
  | none =>
    have hl : l = [] := by
      have := h3 rfl
      exact List.length_eq_zero_iff.1 (by omega)
    subst hl
    have hc := h3 rfl
    subst hc
    have hrun := run_append_owned_none (P := Tryz.prog) (w := w) base 40 o.type 3 i 1 Tryz.underlying40 hi v xs.length (iv xs) hown
    have hK := h v w (by simpa using hown) (World.grownBy.refl _ _)
    have hx' : a.eval x = .slice none 0 0 := hx
    unfold Oper.wp
    simp [execOp, ho, resolve, invoke, builtin, hs, hx', hrun, Result.andThen]
    exact hK
  | some ad =>
    refine wp_append_own w s x 40 ho base 3 i (.int .i64 0) 1 8 Tryz.underlying40 hi hz hsz hby rfl (by decide) v xs.length (iv xs) hs hown ad (iv l).length cap (iv l) hx (by simp) ?_ (iv_one l) (by simp only [maxLen]; omega) (by omega) hbase ?_
    · intro j u hu
      have hj : j < (iv l).length := (List.getElem?_eq_some_iff.1 hu).1
      rcases h4 with h4 | ⟨b, off, ha, _, _, hc⟩
      · rw [h4] at hj; simp at hj
      · obtain rfl := Option.some.inj ha
        rw [Addr.add_lit, hc j hj]
        exact hu
    · intro v' w' hown' hg _
      refine h v' w' ?_ hg
      unfold IOwn
      rw [List.length_append, iv_append, ← hil]
      exact hown'

set_option maxHeartbeats 4000000 in
set_option maxRecDepth 100000 in
theorem runits_any (ep : Int) (v : Value) (cs : List (List Int)) (w : World) (B : Nat → Prop) (h : Chs w B v cs) (hn : cs.flatten.length ≤ 100000) (hl : cs.length ≤ 100000) :
    Calls Tryz.prog 16 #[.agg #[.int .i64 ep, v]] w fun e w' => ∃ v', e = .returned v' ∧ IOwn w' w.heap.size v' (unitsL cs.flatten) ∧ Below w.heap.size w w' := by
  obtain ⟨ao, cap, rfl, l1, m1, _⟩ := h.val
  obtain ⟨W1, hW1⟩ : ∃ W1, W1 = w.alloc (.cells #[.int .i64 ep, .slice ao cs.length cap] 27) := ⟨_, rfl⟩
  have hb1 : Below w.heap.size w W1 := by rw [hW1]; exact (Below.refl _ _).alloc (Nat.le_refl _) _
  have hx1 : Box2 W1 w.heap.size (.int .i64 ep) (.slice ao cs.length cap) := by rw [hW1]; exact box2_new _ _ _ _
  have hx2 : Box2 (W1.alloc (.cells #[] 3)) w.heap.size (.int .i64 ep) (.slice ao cs.length cap) := hx1.old ((Below.refl _ _).alloc (Nat.le_refl _) _)
  have c1 := hx2.c1
  have HB2 : Hid (Below w.heap.size w (W1.alloc (.cells #[] 3))) := Lib.hid (hb1.alloc hb1.size _)
  have hs1 : W1.heap.size = w.heap.size + 1 := by rw [hW1]; simp
  have HO2 : Hid (IOwn (W1.alloc (.cells #[] 3)) w.heap.size (.slice (some ⟨w.heap.size + 1, 0, none⟩) 0 0) (unitsL (cs.take 0).flatten)) := Lib.hid (by
    rw [← hs1]
    exact (show IOwn _ W1.heap.size _ [] from World.ownsRow_made W1 #[] 0 (Nat.le_refl _) (by simp [maxLen]) rfl).mono hb1.size)
  have HR := Lib.hid h
  have HN := Lib.hid hn
  have HL := Lib.hid hl
  have hl1 : (cs.length : Int) ≤ 100000 := by omega
  clear h hb1 l1 m1 hx1 hx2 hn hl hs1
  subst hW1
  go_enter Tryz.func16, Tryz.ntmps16
  go_wp2
  go_loopw [3, 5, 7, 8, 9, 14, 20] (fun ov _ _ _ _ i _ wr => ∃ k : Nat, k ≤ cs.length ∧ i = .int .i64 (k : Int) ∧ IOwn wr w.heap.size ov (unitsL (cs.take k).flatten) ∧ Below w.heap.size w wr)
    (fun _ _ _ _ _ i _ _ => cs.length - (intOf i).toNat)
  case atStart => exact ⟨0, Nat.zero_le _, rfl, HO2.out, HB2.out⟩
  case round =>
    obtain ⟨k, hk, rfl, ho, hb⟩ := hrel
    obtain ⟨wo, rfl⟩ : ∃ x, x = wr := ⟨_, rfl⟩
    obtain ⟨ao0, cap0, hv0⟩ := slice_val ho
    obtain ⟨n0, hn0⟩ : ∃ n, n = (unitsL (cs.take k).flatten).length := ⟨_, rfl⟩
    rw [← hn0] at hv0
    subst hv0
    clear hn0
    have HO := Lib.hid ho
    have HB := Lib.hid hb
    by_cases hlt : k < cs.length
    · obtain ⟨b, off, x, rfl, hbl, _, hc0, hat⟩ := HR.out.at hlt
      have hc := (hb.cell (p := ⟨b, off + k, none⟩) (World.block_lt_of_cell? w _ hc0)).trans hc0
      obtain ⟨aox, capx, rfl, _⟩ := hat.val
      have HTS := Lib.hid (flat_takeP k hlt)
      have hfl := flat_takeP_le cs (k + 1)
      rw [HTS.out, List.length_append] at hfl
      have HFL : Hid ((cs.take k).flatten.length + (cs.getD k []).length ≤ 100000) := Lib.hid (by have := HN.out; omega)
      generalize cs.getD k [] = c at hc hat HTS HFL
      have hlti : (k : Int) < cs.length := by omega
      obtain ⟨nx, hnx⟩ : ∃ n, n = c.length := ⟨_, rfl⟩
      rw [← hnx] at hc hat
      have hnx4 : (nx : Int) ≤ 100000 := by have := HFL.out; omega
      have HNX := Lib.hid hnx
      have HAT := Lib.hid hat
      obtain ⟨PRE, hpre⟩ : ∃ P, P = (cs.take k).flatten := ⟨_, rfl⟩
      rw [← hpre] at HTS HFL
      have HO3 : Hid (IOwn wo w.heap.size (.slice ao0 n0 cap0) (unitsL (PRE ++ c.take 0))) := Lib.hid (by rw [hpre, List.take_zero, List.append_nil]; exact ho)
      clear hat ho hb hnx hpre hc0 HO
      go_wp2
      go_loopw [3, 7, 8, 9, 20] (fun ov _ _ _ i wr => ∃ j : Nat, j ≤ nx ∧ i = .int .i64 (j : Int) ∧ IOwn wr w.heap.size ov (unitsL (PRE ++ c.take j)) ∧ Below w.heap.size w wr)
        (fun _ _ _ _ i _ => nx - (intOf i).toNat)
      case atStart => exact ⟨0, Nat.zero_le _, rfl, HO3.out, HB.out⟩
      case round =>
        obtain ⟨j, hj, rfl, ho, hb⟩ := hrel
        obtain ⟨aov, capv, hov⟩ := slice_val ho
        obtain ⟨n, hn⟩ : ∃ n, n = (unitsL (PRE ++ c.take j)).length := ⟨_, rfl⟩
        rw [← hn] at hov
        subst hov
        have HO := Lib.hid ho
        have HB := Lib.hid hb
        have HCV : Hid (n ≤ capv) := Lib.hid (by
          obtain ⟨_, _, e, h1, _⟩ := ho.row.val
          simp only [Value.slice.injEq] at e
          omega)
        by_cases hjl : j < nx
        · have hjc : j < c.length := by rw [← HNX.out]; exact hjl
          obtain ⟨b2, off2, rfl, _, _, hc2⟩ := (HAT.out.old hb).at hjc
          have hcc := hc2 j hjc
          have HTJ := Lib.hid (ints_take j hjc)
          generalize c.getD j 0 = u at hcc HTJ
          obtain ⟨L, hL⟩ : ∃ L, L = unitsL (PRE ++ c.take j) := ⟨_, rfl⟩
          rw [← hL] at ho HO hn
          have HINS : Hid (unitsL (PRE ++ c.take (j + 1)) = insU u L) := Lib.hid (by rw [HTJ.out, ← List.append_assoc, unitsL_snoc, hL])
          have HLL : Hid (L.length ≤ 100000) := Lib.hid (by
            have h1 := unitsL_le (PRE ++ c.take j)
            rw [← hL, List.length_append, List.length_take] at h1
            have := HFL.out
            omega)
          have HNL := Lib.hid hn
          have hnb : (n : Int) ≤ 100000 := by have := HLL.out; omega
          have hji : (j : Int) < nx := by omega
          have HCA : Hid (∀ m, m < n → ∃ bv ov, aov = some ⟨bv, ov, none⟩ ∧ wr.cell? ⟨bv, ov + m, none⟩ = some (.int .i64 (L.getD m 0))) := Lib.hid fun m hm => by
            obtain ⟨bv, ov, e, _, _, hcv⟩ := ho.row.at (i := m) (by omega)
            exact ⟨bv, ov, e, hcv m (by omega)⟩
          clear hc2 hjc ho hb hn hL
          go_wp2
          go_loop [8] (fun av => ∃ m : Nat, m ≤ n ∧ av = .int .i64 (m : Int) ∧ ∀ x ∈ L.take m, x < u) (fun av => n - (intOf av).toNat)
          case atStart => exact ⟨0, Nat.zero_le _, rfl, by simp⟩
          case round =>
            obtain ⟨m, hm, rfl, hlow⟩ := hrel
            have HLOW := Lib.hid hlow
            clear hlow
            by_cases hml : m < n
            · obtain ⟨bv, ov, hav, hcv⟩ := HCA.out m hml
              have hmi : (m : Int) < n := by omega
              have HMT := Lib.hid (ints_take m (l := L) (by rw [← HNL.out]; exact hml))
              obtain ⟨y, hy⟩ : ∃ y, y = L.getD m 0 := ⟨_, rfl⟩
              rw [← hy] at hcv HMT
              have HY := Lib.hid hy
              clear hy
              by_cases hyu : y < u
              · have HLO2 : Hid (∀ x ∈ L.take (m + 1), x < u) := Lib.hid (by
                  rw [HMT.out]
                  intro x hx
                  rcases List.mem_append.1 hx with hx | hx
                  · exact HLOW.out x hx
                  · rw [List.mem_singleton.1 hx]; exact hyu)
                subst hav
                go_wp2
                go_round
                case rel => exact ⟨m + 1, by omega, by go_num, HLO2.out⟩
                case measure => simp [intOf]; omega
              · have HAT2 := Lib.hid (insU_at L m (by rw [← HNL.out]; exact hm) HLOW.out (.inr (by rw [← HY.out]; exact hyu)))
                by_cases hye : y = u
                · have hyb : (y == u) = true := by rw [beq_iff_eq]; exact hye
                  have HF : Hid (IOwn wr w.heap.size (.slice aov n capv) (unitsL (PRE ++ c.take (j + 1)))) := Lib.hid (by
                    rw [HINS.out, HAT2.out, if_pos ⟨by rw [← HNL.out]; exact hml, by rw [← HY.out]; exact hye⟩]
                    exact HO.out)
                  subst hav
                  clear hye
                  go_wp2
                  go_roundw
                  case rel => exact ⟨j + 1, by omega, by go_num, HF.out, HB.out⟩
                  case measure => simp [intOf]; omega
                · have hyb : (y == u) = false := by rw [beq_eq_false_iff_ne]; exact hye
                  have HNEW : Hid (insU u L = L.take m ++ u :: L.drop m) := Lib.hid (by rw [HAT2.out, if_neg (fun h => hye (by rw [HY.out]; exact h.2))])
                  have HOF := Lib.hid hav
                  subst hav
                  clear hye
                  have hsh := fun W => slice_headI W (some (⟨bv, ov, none⟩ : Addr)) n capv m (by have := HCV.out; omega)
                  have hst := fun W => slice_tailI W (some (⟨bv, ov, none⟩ : Addr)) n capv m hm
                  have htl := (HO.out.row).tail (m := m) (by rw [← HNL.out]; exact hm)
                  have HHD := Lib.hid ((HO.out.row).head (m := m) (by rw [← HNL.out]; exact hm))
                  obtain ⟨ta, hta⟩ : ∃ t, t = (if capv = m then (some (⟨bv, ov, none⟩ : Addr)) else (some (⟨bv, ov, none⟩ : Addr)).map fun x => x.add m) := ⟨_, rfl⟩
                  obtain ⟨nm, hnm⟩ : ∃ t, t = n - m := ⟨_, rfl⟩
                  obtain ⟨cm, hcm⟩ : ∃ t, t = capv - m := ⟨_, rfl⟩
                  rw [← hta, ← hnm, ← hcm] at hst htl
                  have HTL := Lib.hid htl
                  have HBE : Hid (Below wr.heap.size wr (wr.alloc (.cells #[] 3))) := Lib.hid ((Below.refl _ _).alloc (Nat.le_refl _) _)
                  have HE : Hid (IOwn (wr.alloc (.cells #[] 3)) wr.heap.size (.slice (some ⟨wr.heap.size, 0, none⟩) 0 0) []) := Lib.hid (World.ownsRow_made wr #[] 0 (Nat.le_refl _) (by simp [maxLen]) rfl)
                  have HLM : Hid ((L.take m).length ≤ 100000 ∧ (L.drop m).length ≤ 100000) := Lib.hid (by rw [List.length_take, List.length_drop]; have := HLL.out; omega)
                  clear htl hta hnm hcm HOF
                  go_wp2_with (at_builtin; go_must (refine wpList_appI _ rfl _ _ rfl wr.heap.size _ [] rfl HE.out _ _ (L.take m) rfl (HHD.out.old HBE.out) (by have := HLM.out.1; simp only [List.length_nil]; omega) HBE.out.size ?_))
                  intro v7 w7 ho7 hg7
                  have HB7 : Hid (Below wr.heap.size wr w7) := Lib.hid (HBE.out.grown hg7 HBE.out.size fun j hj => (HE.out.lt j hj).1)
                  have HO7 : Hid (IOwn w7 wr.heap.size v7 (L.take m)) := Lib.hid ho7
                  obtain ⟨ao7, cap7, hv7⟩ := slice_val ho7
                  obtain ⟨n7, hn7⟩ : ∃ x, x = (L.take m).length := ⟨_, rfl⟩
                  rw [← hn7] at hv7
                  subst hv7
                  clear ho7 hg7 hn7
                  go_wp2_with fail
                  go_region_held_law (fun _ => True) (trivial) (first
                    | (refine step_appI (by rfl) _ _ (by rfl) wr.heap.size _ (L.take m) (by rfl) (by first | exact HO7.out.below ((Below.refl _ _).alloc (Nat.le_refl _) _) (Nat.le_refl _) | exact HO7.out.below (((Below.refl _ _).drew).alloc (Nat.le_refl _) _) (Nat.le_refl _)) _ _ [u] (by rfl) (ireads_new _ _) (by have := HLM.out.1; simp only [List.length_cons, List.length_nil]; omega) (by have := HB7.out.size; simp; omega) ?_
                       intro v8 w8 ho8 hg8
                       have HB8 : Hid (Below wr.heap.size wr w8) := Lib.hid (by
                         refine Below.grown (by first | exact HB7.out.alloc HB7.out.size _ | exact HB7.out.drew.alloc HB7.out.size _) hg8 (by have := HB7.out.size; simp; omega) (fun j hj => (HO7.out.lt j hj).1))
                       have HO8 := Lib.hid ho8
                       clear ho8 hg8)
                    | (refine step_appI (by rfl) _ _ (by rfl) wr.heap.size _ (L.take m ++ [u]) (by rfl) HO8.out _ _ (L.drop m) (by rfl) (HTL.out.old HB8.out) (by have := HLM.out; simp only [List.length_append, List.length_cons, List.length_nil]; omega) HB8.out.size ?_
                       intro v9 w9 ho9 hg9
                       have HB9 : Hid (Below wr.heap.size wr w9) := Lib.hid (HB8.out.grown hg9 HB8.out.size (fun j hj => (HO8.out.lt j hj).1))
                       have HO9 := Lib.hid ho9
                       clear ho9 hg9))
                  all_goals (
                    have HF : Hid (IOwn w9 w.heap.size v9 (unitsL (PRE ++ c.take (j + 1)))) := Lib.hid (by
                      rw [HINS.out, HNEW.out]
                      have h := HO9.out.mono HB.out.size
                      simpa using h)
                    have HBF : Hid (Below w.heap.size w w9) := Lib.hid (HB.out.trans (HB9.out.mono HB.out.size))
                    go_wp2
                    go_roundw
                    case rel => exact ⟨j + 1, by omega, by go_num, HF.out, HBF.out⟩
                    case measure => simp [intOf]; omega)
            · obtain rfl : m = n := by omega
              have HNEW : Hid (insU u L = L.take m ++ u :: L.drop m) := Lib.hid (by
                rw [insU_at L m (by rw [← HNL.out]; exact Nat.le_refl _) HLOW.out (.inl HNL.out), if_neg]
                intro h
                have := h.1
                rw [← HNL.out] at this
                omega)
              have hmm : ¬ ((m : Int) < (m : Int)) := by omega
              have HOF := Lib.hid hmm
              have hsh := fun W => slice_headI W aov m capv m (by have := HCV.out; omega)
              have hst := fun W => slice_tailI W aov m capv m hm
              have htl := (HO.out.row).tail (m := m) (by rw [← HNL.out]; exact hm)
              have HHD := Lib.hid ((HO.out.row).head (m := m) (by rw [← HNL.out]; exact hm))
              obtain ⟨ta, hta⟩ : ∃ t, t = (if capv = m then aov else aov.map fun x => x.add m) := ⟨_, rfl⟩
              obtain ⟨nm, hnm⟩ : ∃ t, t = m - m := ⟨_, rfl⟩
              obtain ⟨cm, hcm⟩ : ∃ t, t = capv - m := ⟨_, rfl⟩
              rw [← hta, ← hnm, ← hcm] at hst htl
              have HTL := Lib.hid htl
              have HBE : Hid (Below wr.heap.size wr (wr.alloc (.cells #[] 3))) := Lib.hid ((Below.refl _ _).alloc (Nat.le_refl _) _)
              have HE : Hid (IOwn (wr.alloc (.cells #[] 3)) wr.heap.size (.slice (some ⟨wr.heap.size, 0, none⟩) 0 0) []) := Lib.hid (World.ownsRow_made wr #[] 0 (Nat.le_refl _) (by simp [maxLen]) rfl)
              have HLM : Hid ((L.take m).length ≤ 100000 ∧ (L.drop m).length ≤ 100000) := Lib.hid (by rw [List.length_take, List.length_drop]; have := HLL.out; omega)
              clear htl hta hnm hcm HOF
              go_wp2_with (at_builtin; go_must (refine wpList_appI _ rfl _ _ rfl wr.heap.size _ [] rfl HE.out _ _ (L.take m) rfl (HHD.out.old HBE.out) (by have := HLM.out.1; simp only [List.length_nil]; omega) HBE.out.size ?_))
              intro v7 w7 ho7 hg7
              have HB7 : Hid (Below wr.heap.size wr w7) := Lib.hid (HBE.out.grown hg7 HBE.out.size fun j hj => (HE.out.lt j hj).1)
              have HO7 : Hid (IOwn w7 wr.heap.size v7 (L.take m)) := Lib.hid ho7
              obtain ⟨ao7, cap7, hv7⟩ := slice_val ho7
              obtain ⟨n7, hn7⟩ : ∃ x, x = (L.take m).length := ⟨_, rfl⟩
              rw [← hn7] at hv7
              subst hv7
              clear ho7 hg7 hn7
              go_wp2_with fail
              go_region_held_law (fun _ => True) (trivial) (first
                | (refine step_appI (by rfl) _ _ (by rfl) wr.heap.size _ (L.take m) (by rfl) (by first | exact HO7.out.below ((Below.refl _ _).alloc (Nat.le_refl _) _) (Nat.le_refl _) | exact HO7.out.below (((Below.refl _ _).drew).alloc (Nat.le_refl _) _) (Nat.le_refl _)) _ _ [u] (by rfl) (ireads_new _ _) (by have := HLM.out.1; simp only [List.length_cons, List.length_nil]; omega) (by have := HB7.out.size; simp; omega) ?_
                   intro v8 w8 ho8 hg8
                   have HB8 : Hid (Below wr.heap.size wr w8) := Lib.hid (by
                     refine Below.grown (by first | exact HB7.out.alloc HB7.out.size _ | exact HB7.out.drew.alloc HB7.out.size _) hg8 (by have := HB7.out.size; simp; omega) (fun j hj => (HO7.out.lt j hj).1))
                   have HO8 := Lib.hid ho8
                   clear ho8 hg8)
                | (refine step_appI (by rfl) _ _ (by rfl) wr.heap.size _ (L.take m ++ [u]) (by rfl) HO8.out _ _ (L.drop m) (by rfl) (HTL.out.old HB8.out) (by have := HLM.out; simp only [List.length_append, List.length_cons, List.length_nil]; omega) HB8.out.size ?_
                   intro v9 w9 ho9 hg9
                   have HB9 : Hid (Below wr.heap.size wr w9) := Lib.hid (HB8.out.grown hg9 HB8.out.size (fun j hj => (HO8.out.lt j hj).1))
                   have HO9 := Lib.hid ho9
                   clear ho9 hg9))
              all_goals (
                have HF : Hid (IOwn w9 w.heap.size v9 (unitsL (PRE ++ c.take (j + 1)))) := Lib.hid (by
                  rw [HINS.out, HNEW.out]
                  have h := HO9.out.mono HB.out.size
                  simpa using h)
                have HBF : Hid (Below w.heap.size w w9) := Lib.hid (HB.out.trans (HB9.out.mono HB.out.size))
                go_wp2
                go_roundw
                case rel => exact ⟨j + 1, by omega, by go_num, HF.out, HBF.out⟩
                case measure => simp [intOf]; omega)
        · obtain rfl : j = nx := by omega
          have HO9 : Hid (IOwn wr w.heap.size (.slice aov n capv) (unitsL (cs.take (k + 1)).flatten)) := Lib.hid (by
            have h := HO.out
            rw [HNX.out, List.take_length, ← HTS.out] at h
            exact h)
          clear ho hb hn
          go_wp2
          go_roundw
          case rel => exact ⟨k + 1, by omega, by go_num, HO9.out, HB.out⟩
          case measure => simp [intOf]; omega
    · obtain rfl : k = cs.length := by omega
      rw [List.take_length] at HO
      clear ho hb
      go_wp2
      go_ret
      exact ⟨_, rfl, HO.out, HB.out⟩

end Go.Proofs.YtgjdablifncbaaaGreat
