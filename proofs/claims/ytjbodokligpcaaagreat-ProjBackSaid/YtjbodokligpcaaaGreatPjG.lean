/- Package proj: chains without what is gone: slices.Clone, slices.DeleteFunc, without, Copy. -/
import Derived.Test.YtjbodokligpcaaaGreatPjF
namespace Go.Proofs.YtjbodokligpcaaaGreat
open Go.RowKit

set_option maxHeartbeats 400000 in
set_option maxRecDepth 100000 in
theorem cloneI_any (v : Value) (l : List Int) (w : World) (B : Nat → Prop) (hr : IRow w B v l) (hx : l.length ≤ 1000000) :
    Calls Tryz.prog 65 #[v] w fun e w' => ∃ v', e = .returned v' ∧ IOwn w' w.heap.size v' l ∧ Below w.heap.size w w' := by
  have heq := fun w a n c n' c' => Lib.run_eql_slice_nil (P := Tryz.prog) w 40 3 a n c n' c' Tryz.underlying40
  obtain ⟨ao, cap, rfl, h1, h2, h3⟩ := hr.val
  cases ao with
  | none =>
    obtain rfl := h3 rfl
    obtain rfl : l = [] := List.length_eq_zero_iff.1 (by omega)
    go_enter Tryz.func65, Tryz.ntmps65
    go_wp2
    go_ret
    exact ⟨_, rfl, iown_nil _ _, Below.refl _ _⟩
  | some ad =>
    have he : IOwn (w.alloc (.cells #[] 3)) w.heap.size (.slice (some ⟨w.heap.size, 0, none⟩) 0 0) [] := World.ownsRow_made w #[] 0 (Nat.le_refl _) (by simp [maxLen]) rfl
    go_enter Tryz.func65, Tryz.ntmps65
    go_wp2_with (at_builtin; go_must (refine wpList_appI _ rfl _ _ rfl w.heap.size _ [] rfl he _ B l rfl (hr.old ((Below.refl _ _).alloc (Nat.le_refl _) _)) ?c1 ?c3 ?_))
    case c1 => simp; omega
    case c3 => simp
    intro v' w1 ho hg
    go_wp2
    go_ret
    exact ⟨_, rfl, ho, ((Below.refl _ _).alloc (Nat.le_refl _) _).grown hg (by simp) (fun j hj => by simp [Value.ownBlock] at hj; omega)⟩

theorem IOwn.set {w : World} {base g n cap : Nat} {l : List Int} (h : IOwn w base (.slice (some ⟨g, 0, none⟩) n cap) l) (hn : n = l.length) (i : Nat) (y : Int) :
    IOwn (w.setCell ⟨g, i, none⟩ (.int .i64 y)) base (.slice (some ⟨g, 0, none⟩) n cap) (l.set i y) := by
  subst hn
  have h2 := (World.ownsRow.stored h i (.int .i64 y)).1
  unfold IOwn
  rw [List.length_set]
  have e : iv (l.set i y) = (iv l).set i (.int .i64 y) := by simp [iv]
  rw [e]
  exact h2
theorem IOwn.cell {w : World} {base g n cap : Nat} {l : List Int} (h : IOwn w base (.slice (some ⟨g, 0, none⟩) n cap) l) (hn : n = l.length) {i : Nat} (hi : i < l.length) : w.cell? ⟨g, i, none⟩ = some (.int .i64 (l.getD i 0)) := by
  subst hn
  exact (World.ownsRow.cellAt h i (by omega)).trans (iv_get l i hi)
theorem IOwn.free {w : World} {base g n cap : Nat} {l : List Int} (h : IOwn w base (.slice (some ⟨g, 0, none⟩) n cap) l) (hn : n = l.length) (i : Nat) : w.frozen? ⟨g, i, none⟩ = false := by
  subst hn
  exact World.ownsRow.frozenAt h i
theorem IOwn.form {w : World} {base : Nat} {v : Value} {l : List Int} (h : IOwn w base v l) (hl : l ≠ []) : ∃ g cap, v = .slice (some ⟨g, 0, none⟩) l.length cap ∧ base ≤ g ∧ g < w.heap.size ∧ l.length ≤ cap ∧ cap ≤ maxLen := by
  rcases h.2 with ⟨_, h0⟩ | ⟨g, cap, cur, hv, hb, hg, hn, hm, _⟩
  · exact absurd (List.length_eq_zero_iff.1 h0) hl
  · exact ⟨g, cap, hv, hb, (Array.getElem?_eq_some_iff.1 hg).1, hn, hm⟩
theorem IOwn.cut {w : World} {base g n cap : Nat} {l : List Int} (h : IOwn w base (.slice (some ⟨g, 0, none⟩) n cap) l) (hn : n = l.length) {k : Nat} (hk : k ≤ n) : IOwn w base (.slice (some ⟨g, 0, none⟩) k cap) (l.take k) := by
  subst hn
  rcases h.2 with ⟨h0, _⟩ | ⟨g', cap', cur, hv, hb, hg, hn, hm, hs, ht⟩
  · cases h0
  · simp only [Value.slice.injEq, Option.some.injEq, Addr.mk.injEq, and_true, true_and] at hv
    obtain ⟨rfl, rfl⟩ := hv
    have hl : (l.take k).length = k := by rw [List.length_take]; omega
    refine ⟨by rw [iv_length, hl]; omega, .inr ⟨g, cap, cur, by rw [hl], hb, hg, by omega, hm, hs, ?_⟩⟩
    rw [hl, ← iv_take, ← ht, List.take_take]
    congr 1
    omega
/-- Noughts laid behind the first k. -/
theorem IOwn.wipe {base g n cap : Nat} (k : Nat) : ∀ (m o : Nat) (w : World) (l : List Int), IOwn w base (.slice (some ⟨g, 0, none⟩) n cap) l → n = l.length → k ≤ o →
    ∃ l' : List Int, l'.length = l.length ∧ l'.take k = l.take k ∧ IOwn (w.setCells g o (List.replicate m (.int .i64 0))) base (.slice (some ⟨g, 0, none⟩) n cap) l' ∧ w.grownBy (w.setCells g o (List.replicate m (.int .i64 0))) (some g)
  | 0, o, w, l, h, hn, hk => ⟨l, rfl, rfl, h, World.grownBy.refl _ _⟩
  | m + 1, o, w, l, h, hn, hk => by
    have h1 := h.set hn o 0
    obtain ⟨l', e1, e2, h2, hg⟩ := IOwn.wipe k m (o + 1) _ _ h1 (by rw [List.length_set]; exact hn) (by omega)
    have hg1 : w.grownBy (w.setCell ⟨g, o, none⟩ (.int .i64 0)) (some g) := ⟨rfl, rfl, rfl, by simp, fun j _ hj => heap_setCell_other w ⟨g, o, none⟩ j _ (fun e => hj (by rw [e]))⟩
    refine ⟨l', by rw [e1, List.length_set], ?_, h2, grownBy_trans hg1 hg fun j hj _ => hj⟩
    rw [e2, List.take_set_of_le hk]

set_option maxHeartbeats 1000000 in
set_option maxRecDepth 100000 in
theorem indexF_any (K : Nat) (caps : Array Value) (g : Int → Bool) (ok : Int → Prop) (w0 : World) (hg : GoneAt K caps g ok w0) (v : Value) (l : List Int) (w : World) (B : Nat → Prop) (h : IRow w B v l) (hb : Below w0.heap.size w0 w) (hok : ∀ x ∈ l, ok x) :
    Calls Tryz.prog 78 #[v, .func (.func K) #[] caps] w fun e w' => ∃ i : Int, e = .returned (.int .i64 i) ∧ foundI g l i ∧ w = w' := by
  obtain ⟨ao, cap, rfl, h1, h2, h3⟩ := h.val
  have HR := Lib.hid h; clear h h3
  have HG := Lib.hid hg; clear hg
  have HB := Lib.hid hb; clear hb
  have HOK := Lib.hid hok; clear hok
  have hK := HG.out.1
  unfold maxLen at h2
  go_enter Tryz.func78, Tryz.ntmps78
  go_wp2
  go_loop [5, 8] (fun _ i => ∃ k : Nat, k ≤ l.length ∧ i = .int .i64 (k : Int) ∧ (l.take k).any g = false) (fun _ i => l.length - (intOf i).toNat)
  case atStart => exact ⟨0, Nat.zero_le _, rfl, by simp⟩
  case round =>
    obtain ⟨k, hk, rfl, hp⟩ := hrel
    have HP := Lib.hid hp; clear hp
    by_cases hlt : k < l.length
    · obtain ⟨b, off, rfl, hb, _, hc⟩ := HR.out.at hlt
      have hcc := hc k hlt
      have HS := Lib.hid (any_take_snoc (g := g) hlt)
      have HF : Hid (g (l.getD k 0) = true → foundI g l (k : Int)) := Lib.hid fun h => .inr ⟨k, hlt, rfl, HP.out, h⟩
      have HC := Lib.hid (HG.out.2 (l.getD k 0) w (HOK.out _ (getD_memI k hlt)) HB.out)
      have hlti : (k : Int) < l.length := by omega
      generalize l.getD k 0 = u at hcc HS HF HC
      clear hc
      by_cases hu : g u = false
      · go_wp2_with fail
        refine HC.out.mono ?_
        rintro e w1 ⟨rfl, rfl⟩
        rw [hu]
        have HS2 : Hid ((l.take (k + 1)).any g = false) := Lib.hid (by rw [HS.out, HP.out, hu]; rfl)
        clear hu
        go_wp2
        go_round
        case rel => exact ⟨k + 1, by omega, by go_num, HS2.out⟩
        case measure => simp [intOf]; omega
      · have hu : g u = true := by simpa using hu
        go_wp2_with fail
        refine HC.out.mono ?_
        rintro e w1 ⟨rfl, rfl⟩
        rw [hu]
        have HF2 := Lib.hid (HF.out hu)
        clear HF hu
        go_wp2
        go_ret
        exact ⟨_, rfl, HF2.out, rfl⟩
    · obtain rfl : k = l.length := by omega
      have hq := HP.out
      rw [List.take_length] at hq
      have HQ := Lib.hid hq
      clear hq
      go_wp2
      go_ret
      exact ⟨_, rfl, .inl ⟨rfl, HQ.out⟩, rfl⟩

theorem dropL_none {g : Int → Bool} {l : List Int} (h : l.any g = false) : dropL g l = l := by
  unfold dropL
  rw [List.filter_eq_self]
  intro x hx
  have := List.any_eq_false.1 h x hx
  simpa using this
theorem dropL_snoc {g : Int → Bool} {l : List Int} {j : Nat} (h : j < l.length) : dropL g (l.take (j + 1)) = dropL g (l.take j) ++ (if g (l.getD j 0) = true then [] else [l.getD j 0]) := by
  rw [ints_take j h]
  unfold dropL
  rw [List.filter_append]
  congr 1
  generalize l.getD j 0 = u
  cases hg : g u <;> simp [hg]
/-- The row while numbers go: those that stay of the first j, and all from there on as it was. -/
def goneRow (g : Int → Bool) (l : List Int) (j : Nat) : List Int := dropL g (l.take j) ++ l.drop (dropL g (l.take j)).length
theorem dropL_take_le (g : Int → Bool) (l : List Int) (j : Nat) : (dropL g (l.take j)).length ≤ j := Nat.le_trans (dropL_le g _) (List.length_take_le _ _)
theorem goneRow_length (g : Int → Bool) (l : List Int) {j : Nat} (h : j ≤ l.length) : (goneRow g l j).length = l.length := by
  have := dropL_take_le g l j
  unfold goneRow
  rw [List.length_append, List.length_drop]
  omega
theorem goneRow_get (g : Int → Bool) (l : List Int) {j : Nat} (_h : j < l.length) : (goneRow g l j).getD j 0 = l.getD j 0 := by
  have := dropL_take_le g l j
  unfold goneRow
  rw [List.getD_eq_getElem?_getD, List.getElem?_append_right this, List.getElem?_drop, List.getD_eq_getElem?_getD]
  congr 2
  omega
theorem goneRow_keep {g : Int → Bool} {l : List Int} {j : Nat} (h : j < l.length) (hg : g (l.getD j 0) = false) : (goneRow g l j).set (dropL g (l.take j)).length (l.getD j 0) = goneRow g l (j + 1) ∧ (dropL g (l.take (j + 1))).length = (dropL g (l.take j)).length + 1 := by
  have hk := dropL_take_le g l j
  have hs := dropL_snoc (g := g) h
  rw [if_neg (by rw [hg]; decide)] at hs
  unfold goneRow
  rw [hs]
  refine ⟨?_, by simp⟩
  rw [List.set_append_right _ _ (Nat.le_refl _), Nat.sub_self, List.append_assoc, List.length_append]
  congr 1
  rw [List.drop_eq_getElem_cons (show (dropL g (l.take j)).length < l.length by omega)]
  rfl
theorem goneRow_skip {g : Int → Bool} {l : List Int} {j : Nat} (h : j < l.length) (hg : g (l.getD j 0) = true) : goneRow g l (j + 1) = goneRow g l j ∧ (dropL g (l.take (j + 1))).length = (dropL g (l.take j)).length := by
  have hs := dropL_snoc (g := g) h
  rw [if_pos hg, List.append_nil] at hs
  unfold goneRow
  rw [hs]
  exact ⟨rfl, rfl⟩
theorem goneRow_start {g : Int → Bool} {l : List Int} {i : Nat} (h : i < l.length) (h1 : (l.take i).any g = false) (h2 : g (l.getD i 0) = true) : goneRow g l (i + 1) = l ∧ (dropL g (l.take (i + 1))).length = i := by
  have e := dropL_none h1
  obtain ⟨a, b⟩ := goneRow_skip h h2
  rw [a, b]
  unfold goneRow
  rw [e, List.length_take, Nat.min_eq_left (by omega), List.take_append_drop]
  exact ⟨rfl, rfl⟩

def Deleted (w0 : World) (g : Int → Bool) (v : Value) (l : List Int) (w : World) (e : Ending) (w' : World) : Prop :=
  ∃ v', e = .returned v' ∧ IOwn w' w0.heap.size v' (dropL g l) ∧ v'.ownBlock = v.ownBlock ∧ w.grownBy w' v.ownBlock

set_option maxHeartbeats 2000000 in
set_option maxRecDepth 100000 in
theorem deleteF_any (K : Nat) (caps : Array Value) (g : Int → Bool) (ok : Int → Prop) (w0 : World) (hg : GoneAt K caps g ok w0) (v : Value) (l : List Int) (w : World) (h : IOwn w w0.heap.size v l) (hb : Below w0.heap.size w0 w) (hok : ∀ x ∈ l, ok x) (hl : l.length ≤ 1000000) :
    Calls Tryz.prog 64 #[v, .func (.func K) #[] caps] w (Deleted w0 g v l w) := by
  have HI := Lib.hid (indexF_any K caps g ok w0 hg v l w _ h.row hb hok)
  have HG := Lib.hid hg; clear hg
  have HB := Lib.hid hb; clear hb
  have HOK := Lib.hid hok; clear hok
  have HO := Lib.hid h
  have hK := HG.out.1
  obtain ⟨ao, cap, hv⟩ := slice_val h
  obtain ⟨n, hn⟩ : ∃ n, n = l.length := ⟨_, rfl⟩
  rw [← hn] at hv hl
  have HN := Lib.hid hn
  have hv0 := hv
  subst hv
  clear h hv0 hn
  go_enter Tryz.func64, Tryz.ntmps64
  go_wp2_with fail
  refine HI.out.mono ?_
  rintro e w1 ⟨i, rfl, hf, rfl⟩
  rcases hf with ⟨rfl, hf⟩ | ⟨i, hi, rfl, hf1, hf2⟩
  · have HD := Lib.hid (dropL_none hf)
    clear hf
    go_wp2
    go_ret
    refine ⟨_, rfl, ?_, rfl, World.grownBy.refl _ _⟩
    rw [HD.out]
    exact HO.out
  · obtain ⟨gb, cap', hv, hgb, hgw, hnc, hcm⟩ := HO.out.form (by intro h0; rw [h0] at hi; simp at hi)
    rw [← HN.out] at hv hi hnc
    simp only [Value.slice.injEq, true_and] at hv
    obtain ⟨rfl, rfl⟩ := hv
    have HST := Lib.hid (goneRow_start (by rw [← HN.out]; exact hi) hf1 hf2)
    have hne : ((i : Int) == -1) = false := by rw [beq_eq_false_iff_ne]; omega
    have HGB := Lib.hid hgb
    have hnm : n ≤ cap := hnc
    clear hf1 hf2 hgb hgw hnc
    unfold maxLen at hcm
    go_wp2
    go_loopw [5, 6, 7] (fun iv jv _ wr => ∃ (k j : Nat), j ≤ n ∧ k < j ∧ iv = .int .i64 (k : Int) ∧ jv = .int .i64 (j : Int) ∧ k = (dropL g (l.take j)).length ∧ IOwn wr w0.heap.size (.slice (some ⟨gb, 0, none⟩) n cap) (goneRow g l j) ∧ w.grownBy wr (some gb))
      (fun _ jv _ _ => n - (intOf jv).toNat)
    case atStart => exact ⟨i, i + 1, by omega, by omega, rfl, by go_num, HST.out.2.symm, by rw [HST.out.1]; exact HO.out, World.grownBy.refl _ _⟩
    case round =>
      obtain ⟨k, j, hj, hkj, rfl, rfl, hk, ho, hgr⟩ := hrel
      have hrl := goneRow_length g l (j := j) (by rw [← HN.out]; exact hj)
      by_cases hlt : j < n
      · have hltl : j < l.length := by rw [← HN.out]; exact hlt
        have cj := ho.cell (by rw [hrl, HN.out]) (i := j) (by rw [hrl]; exact hltl)
        have ck := ho.cell (by rw [hrl, HN.out]) (i := k) (by rw [hrl]; omega)
        have fk := ho.free (by rw [hrl, HN.out]) k
        rw [goneRow_get g l hltl] at cj
        have HC := Lib.hid (HG.out.2 (l.getD j 0) wr (HOK.out _ (getD_memI j hltl)) (HB.out.grown hgr HB.out.size (fun q hq => by cases hq; exact HGB.out)))
        have HKEEP : Hid (g (l.getD j 0) = false → (goneRow g l j).set k (l.getD j 0) = goneRow g l (j + 1) ∧ (dropL g (l.take (j + 1))).length = k + 1) := Lib.hid fun h => by rw [hk]; exact goneRow_keep hltl h
        have HSKIP : Hid (g (l.getD j 0) = true → goneRow g l (j + 1) = goneRow g l j ∧ (dropL g (l.take (j + 1))).length = k) := Lib.hid fun h => by rw [hk]; exact goneRow_skip hltl h
        have HRL : Hid (n = (goneRow g l j).length) := Lib.hid (by rw [hrl, HN.out])
        have HOO := Lib.hid ho
        have HGR := Lib.hid hgr
        have hlti : (j : Int) < n := by omega
        have hki : (k : Int) < n := by omega
        generalize l.getD j 0 = u at cj HC HKEEP HSKIP
        generalize (goneRow g l j).getD k 0 = old at ck
        clear ho hgr hk hrl hltl
        by_cases hu : g u = false
        · have HK2 := Lib.hid (HKEEP.out hu)
          rw [hu] at HC
          clear hu HKEEP HSKIP
          go_wp2_with fail
          refine HC.out.mono ?_
          rintro e w1 ⟨rfl, rfl⟩
          go_wp2
          go_roundw
          case rel =>
            refine ⟨k + 1, j + 1, by omega, by omega, by go_num, by go_num, HK2.out.2.symm, ?_, ?_⟩
            · rw [← HK2.out.1]
              exact HOO.out.set HRL.out k u
            · refine grownBy_trans HGR.out (row1 := some gb) ⟨rfl, rfl, rfl, by simp, fun q _ hq => heap_setCell_other wr ⟨gb, k, none⟩ q _ (fun e => hq (by rw [e]))⟩ fun q hq _ => hq
          case measure => simp [intOf]; omega
        · have hu : g u = true := by simpa using hu
          have HK2 := Lib.hid (HSKIP.out hu)
          rw [hu] at HC
          clear hu HKEEP HSKIP
          go_wp2_with fail
          refine HC.out.mono ?_
          rintro e w1 ⟨rfl, rfl⟩
          go_wp2
          go_roundw
          case rel => exact ⟨k, j + 1, by omega, by omega, rfl, by go_num, HK2.out.2.symm, by rw [HK2.out.1]; exact HOO.out, HGR.out⟩
          case measure => simp [intOf]; omega
      · obtain rfl : j = n := by omega
        have hall : l.take j = l := List.take_of_length_le (by rw [HN.out]; exact Nat.le_refl _)
        rw [hall] at hk
        have hcl : ∀ ty, (Builtin.clear_ #[40] ty #[.slice (some ⟨gb, k, none⟩) (j - k) (cap - k)]).run Tryz.prog wr = .ok (.tuple #[]) (wr.setCells gb k (List.replicate (j - k) (.int .i64 0))) :=
          fun ty => by
            have := Lib.run_clear_slice (P := Tryz.prog) wr 40 3 ty (.int .i64 0) Tryz.underlying40 Tryz.zeroValue3 rfl rfl gb k (j - k) (cap - k) (by omega)
              (fun t ht => by rw [ho.cell (by rw [hrl, HN.out]) (i := k + t) (by rw [hrl, ← HN.out]; omega)]; rfl) (fun t ht => ho.free (by rw [hrl, HN.out]) (k + t))
            exact this
        have hsl : ∀ W, (Instr.slice 40 (.slice (some ⟨gb, 0, none⟩) j cap) (some (.int .i64 (k : Int))) none none).run Tryz.prog W = .ok (.slice (some ⟨gb, k, none⟩) (j - k) (cap - k)) W := fun W => by
          rw [slice_tailI W _ j cap k (by omega), if_neg (by omega), Option.map_some, Addr.add_lit, Nat.zero_add]
        have hsh := fun W => slice_headI W (some ⟨gb, 0, none⟩) j cap k (by omega)
        obtain ⟨l', e1, e2, ho2, hg2⟩ := IOwn.wipe k (j - k) k wr _ ho (by rw [hrl, HN.out]) (Nat.le_refl _)
        have ho3 := ho2.cut (by rw [e1, hrl, HN.out]) (k := k) (by omega)
        have e3 : l'.take k = dropL g l := by
          rw [e2]
          unfold goneRow
          rw [hall, hk, List.take_left]
        rw [e3] at ho3
        have HO3 := Lib.hid ho3
        have HG3 := Lib.hid (grownBy_trans hgr hg2 fun q hq _ => hq)
        generalize wr.setCells gb k (List.replicate (j - k) (.int .i64 0)) = w9 at hcl HO3 HG3
        clear ho hgr hk hrl hall e1 e2 e3 ho2 hg2 ho3
        go_wp2
        go_ret
        exact ⟨_, rfl, HO3.out, rfl, HG3.out⟩

end Go.Proofs.YtjbodokligpcaaaGreat
