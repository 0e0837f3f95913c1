/- Package proj: which units are among some, and searches for a number. · Package proj: chains without what is gone: slices.Clone, slices.DeleteFunc, without, Copy. · Package proj: without, Copy, eachOnce. -/
import Derived.Test.YtlckadlkgjfjcaaGreatDoorQj
namespace Go.Proofs.YtlckadlkgjfjcaaGreatDoor
open Go.RowKit

/-- Eight answers: is each unit among these? -/
def boolsL (l : List Int) : List Value := (List.range 8).map fun (i : Nat) => Value.bool (inB l (i : Int))
theorem boolsL_get (l : List Int) {i : Nat} (h : i < 8) : (boolsL l).toArray[i]? = some (.bool (inB l (i : Int))) := by
  simp [boolsL, h]
/-- The block of answers. -/
def Amg (w : World) (tb : Nat) (l : List Int) : Prop := w.heap[tb]? = some (.cells (boolsL l).toArray 172 (0, 0))
theorem Amg.lt {w : World} {tb : Nat} {l : List Int} (h : Amg w tb l) : tb < w.heap.size := (Array.getElem?_eq_some_iff.1 h).1
theorem Amg.old {w w' : World} {tb : Nat} {l : List Int} (h : Amg w tb l) (hb : Below w.heap.size w w') : Amg w' tb l := (hb.block tb h.lt).trans h
theorem Amg.keep {w w' : World} {tb : Nat} {l : List Int} (h : Amg w tb l) (hb : w'.heap[tb]? = w.heap[tb]?) : Amg w' tb l := hb.trans h
theorem Amg.cell {w : World} {tb : Nat} {l : List Int} (h : Amg w tb l) {i : Nat} (hi : i < 8) : w.cell? ⟨tb, i, none⟩ = some (.bool (inB l (i : Int))) := by
  rw [cell_of_row w tb i _ _ _ h]; exact boolsL_get l hi
theorem Amg.free {w : World} {tb : Nat} {l : List Int} (h : Amg w tb l) (i : Nat) : w.frozen? ⟨tb, i, none⟩ = false := frozen_of_row w tb i _ _ h

theorem Amg.alloc {w : World} {tb : Nat} {l : List Int} (h : Amg w tb l) (o : Obj) : Amg (w.alloc o) tb l := h.old ((Below.refl _ _).alloc (Nat.le_refl _) _)
theorem Amg.drew {w : World} {tb : Nat} {l : List Int} (h : Amg w tb l) : Amg w.drew tb l := h
theorem Amg.set {w : World} {tb b : Nat} {l : List Int} (h : Amg w tb l) (hc : w.cell? ⟨b, 0, none⟩ = some .nilFunc) (v : Value) : Amg (w.setCell ⟨b, 0, none⟩ v) tb l := by
  refine h.keep (heap_setCell_other w ⟨b, 0, none⟩ tb v ?_)
  rintro rfl
  rw [h.cell (by decide)] at hc
  cases hc

/-- Of a row each number is or isn't gone, as told by a function made ahead, in every world that has come of w since. -/
def GoneAt (K : Nat) (caps : Array Value) (g : Int → Bool) (ok : Int → Prop) (w : World) : Prop :=
  (∀ (args : Array Value) (W : World), (callFunc K args).run Tryz.prog W = .ok (.enter K args) W) ∧
  ∀ (u : Int) (W : World), ok u → Below w.heap.size w W → Calls Tryz.prog K (#[.int .i64 u] ++ caps) W fun e w' => e = .returned (.bool (g u)) ∧ W = w'
theorem GoneAt.old {K : Nat} {caps : Array Value} {g : Int → Bool} {ok : Int → Prop} {w w' : World} (h : GoneAt K caps g ok w) (hb : Below w.heap.size w w') : GoneAt K caps g ok w' :=
  ⟨h.1, fun u W hu hW => h.2 u W hu (hb.trans (hW.mono hb.size))⟩

set_option maxHeartbeats 400000 in
set_option maxRecDepth 100000 in
theorem none_gone (w : World) : GoneAt 106 #[] (fun _ => false) (fun _ => True) w := by
  refine ⟨enters_of Tryz.func106 (by kernel_rfl) rfl, fun u W _ _ => ?_⟩
  show Calls Tryz.prog 106 #[.int .i64 u] W _
  go_enter Tryz.func106, Tryz.ntmps106
  go_wp2
  go_ret
  exact ⟨rfl, rfl⟩

end Go.Proofs.YtlckadlkgjfjcaaGreatDoor

namespace Go.Proofs.YtlckadlkgjfjcaaGreatDoor
open Go.RowKit

set_option maxHeartbeats 400000 in
set_option maxRecDepth 100000 in
theorem cloneI_any (v : Value) (l : List Int) (w : World) (B : Nat → Prop) (hr : IRow w B v l) (hx : l.length ≤ 1000000) :
    Calls Tryz.prog 86 #[v] w fun e w' => ∃ v', e = .returned v' ∧ IOwn w' w.heap.size v' l ∧ Below w.heap.size w w' := by
  have heq := fun w a n c n' c' => Lib.run_eql_slice_nil (P := Tryz.prog) w 26 3 a n c n' c' Tryz.underlying26
  obtain ⟨ao, cap, rfl, h1, h2, h3⟩ := hr.val
  cases ao with
  | none =>
    obtain rfl := h3 rfl
    obtain rfl : l = [] := List.length_eq_zero_iff.1 (by omega)
    go_enter Tryz.func86, Tryz.ntmps86
    go_wp2
    go_ret
    exact ⟨_, rfl, iown_nil _ _, Below.refl _ _⟩
  | some ad =>
    have he : IOwn (w.alloc (.cells #[] 3)) w.heap.size (.slice (some ⟨w.heap.size, 0, none⟩) 0 0) [] := World.ownsRow_made w #[] 0 (Nat.le_refl _) (by simp [maxLen]) rfl
    go_enter Tryz.func86, Tryz.ntmps86
    go_wp2_with (at_builtin; go_must (refine wpList_appZ _ rfl _ _ rfl w.heap.size _ [] rfl he _ B l rfl (hr.old ((Below.refl _ _).alloc (Nat.le_refl _) _)) ?c1 ?c3 ?_))
    case c1 => simp; omega
    case c3 => simp
    intro v' w1 ho hg
    go_wp2
    go_ret
    exact ⟨_, rfl, ho, ((Below.refl _ _).alloc (Nat.le_refl _) _).grown hg (by simp) (fun j hj => by simp [Value.ownBlock] at hj; omega)⟩

theorem IOwn.set {w : World} {base g n cap : Nat} {l : List Int} (h : IOwn w base (.slice (some ⟨g, 0, none⟩) n cap) l) (hn : n = l.length) (i : Nat) (y : Int) :
    IOwn (w.setCell ⟨g, i, none⟩ (.int .i64 y)) base (.slice (some ⟨g, 0, none⟩) n cap) (l.set i y) := by
  subst hn
  have h2 := (World.ownsRow.stored h i (.int .i64 y)).1
  unfold IOwn
  rw [List.length_set]
  have e : iv (l.set i y) = (iv l).set i (.int .i64 y) := by simp [iv]
  rw [e]
  exact h2
theorem IOwn.cell {w : World} {base g n cap : Nat} {l : List Int} (h : IOwn w base (.slice (some ⟨g, 0, none⟩) n cap) l) (hn : n = l.length) {i : Nat} (hi : i < l.length) : w.cell? ⟨g, i, none⟩ = some (.int .i64 (l.getD i 0)) := by
  subst hn
  exact (World.ownsRow.cellAt h i (by omega)).trans (iv_get l i hi)
theorem IOwn.free {w : World} {base g n cap : Nat} {l : List Int} (h : IOwn w base (.slice (some ⟨g, 0, none⟩) n cap) l) (hn : n = l.length) (i : Nat) : w.frozen? ⟨g, i, none⟩ = false := by
  subst hn
  exact World.ownsRow.frozenAt h i
theorem IOwn.form {w : World} {base : Nat} {v : Value} {l : List Int} (h : IOwn w base v l) (hl : l ≠ []) : ∃ g cap, v = .slice (some ⟨g, 0, none⟩) l.length cap ∧ base ≤ g ∧ g < w.heap.size ∧ l.length ≤ cap ∧ cap ≤ maxLen := by
  rcases h.2 with ⟨_, h0⟩ | ⟨g, cap, cur, hv, hb, hg, hn, hm, _⟩
  · exact absurd (List.length_eq_zero_iff.1 h0) hl
  · exact ⟨g, cap, hv, hb, (Array.getElem?_eq_some_iff.1 hg).1, hn, hm⟩
theorem IOwn.cut {w : World} {base g n cap : Nat} {l : List Int} (h : IOwn w base (.slice (some ⟨g, 0, none⟩) n cap) l) (hn : n = l.length) {k : Nat} (hk : k ≤ n) : IOwn w base (.slice (some ⟨g, 0, none⟩) k cap) (l.take k) := by
  subst hn
  rcases h.2 with ⟨h0, _⟩ | ⟨g', cap', cur, hv, hb, hg, hn, hm, hs, ht⟩
  · cases h0
  · simp only [Value.slice.injEq, Option.some.injEq, Addr.mk.injEq, and_true, true_and] at hv
    obtain ⟨rfl, rfl⟩ := hv
    have hl : (l.take k).length = k := by rw [List.length_take]; omega
    refine ⟨by rw [iv_length, hl]; omega, .inr ⟨g, cap, cur, by rw [hl], hb, hg, by omega, hm, hs, ?_⟩⟩
    rw [hl, ← iv_take, ← ht, List.take_take]
    congr 1
    omega
/-- Noughts laid behind the first k. -/
theorem IOwn.wipe {base g n cap : Nat} (k : Nat) : ∀ (m o : Nat) (w : World) (l : List Int), IOwn w base (.slice (some ⟨g, 0, none⟩) n cap) l → n = l.length → k ≤ o →
    ∃ l' : List Int, l'.length = l.length ∧ l'.take k = l.take k ∧ IOwn (w.setCells g o (List.replicate m (.int .i64 0))) base (.slice (some ⟨g, 0, none⟩) n cap) l' ∧ w.grownBy (w.setCells g o (List.replicate m (.int .i64 0))) (some g)
  | 0, o, w, l, h, hn, hk => ⟨l, rfl, rfl, h, World.grownBy.refl _ _⟩
  | m + 1, o, w, l, h, hn, hk => by
    have h1 := h.set hn o 0
    obtain ⟨l', e1, e2, h2, hg⟩ := IOwn.wipe k m (o + 1) _ _ h1 (by rw [List.length_set]; exact hn) (by omega)
    have hg1 : w.grownBy (w.setCell ⟨g, o, none⟩ (.int .i64 0)) (some g) := ⟨rfl, rfl, rfl, by simp, fun j _ hj => heap_setCell_other w ⟨g, o, none⟩ j _ (fun e => hj (by rw [e]))⟩
    refine ⟨l', by rw [e1, List.length_set], ?_, h2, grownBy_trans hg1 hg fun j hj _ => hj⟩
    rw [e2, List.take_set_of_le hk]

set_option maxHeartbeats 1000000 in
set_option maxRecDepth 100000 in
theorem indexF_any (K : Nat) (caps : Array Value) (g : Int → Bool) (ok : Int → Prop) (w0 : World) (hg : GoneAt K caps g ok w0) (v : Value) (l : List Int) (w : World) (B : Nat → Prop) (h : IRow w B v l) (hb : Below w0.heap.size w0 w) (hok : ∀ x ∈ l, ok x) :
    Calls Tryz.prog 75 #[v, .func (.func K) #[] caps] w fun e w' => ∃ i : Int, e = .returned (.int .i64 i) ∧ foundI g l i ∧ w = w' := by
  obtain ⟨ao, cap, rfl, h1, h2, h3⟩ := h.val
  have HR := Lib.hid h; clear h h3
  have HG := Lib.hid hg; clear hg
  have HB := Lib.hid hb; clear hb
  have HOK := Lib.hid hok; clear hok
  have hK := HG.out.1
  unfold maxLen at h2
  go_enter Tryz.func75, Tryz.ntmps75
  go_wp2
  go_loop [5, 8] (fun _ i => ∃ k : Nat, k ≤ l.length ∧ i = .int .i64 (k : Int) ∧ (l.take k).any g = false) (fun _ i => l.length - (intOf i).toNat)
  case atStart => exact ⟨0, Nat.zero_le _, rfl, by simp⟩
  case round =>
    obtain ⟨k, hk, rfl, hp⟩ := hrel
    have HP := Lib.hid hp; clear hp
    by_cases hlt : k < l.length
    · obtain ⟨b, off, rfl, hb, _, hc⟩ := HR.out.at hlt
      have hcc := hc k hlt
      have HS := Lib.hid (any_take_snoc (g := g) hlt)
      have HF : Hid (g (l.getD k 0) = true → foundI g l (k : Int)) := Lib.hid fun h => .inr ⟨k, hlt, rfl, HP.out, h⟩
      have HC := Lib.hid (HG.out.2 (l.getD k 0) w (HOK.out _ (getD_memI k hlt)) HB.out)
      have hlti : (k : Int) < l.length := by omega
      generalize l.getD k 0 = u at hcc HS HF HC
      clear hc
      by_cases hu : g u = false
      · go_wp2_with fail
        refine HC.out.mono ?_
        rintro e w1 ⟨rfl, rfl⟩
        rw [hu]
        have HS2 : Hid ((l.take (k + 1)).any g = false) := Lib.hid (by rw [HS.out, HP.out, hu]; rfl)
        clear hu
        go_wp2
        go_round
        case rel => exact ⟨k + 1, by omega, by go_num, HS2.out⟩
        case measure => simp [intOf]; omega
      · have hu : g u = true := by simpa using hu
        go_wp2_with fail
        refine HC.out.mono ?_
        rintro e w1 ⟨rfl, rfl⟩
        rw [hu]
        have HF2 := Lib.hid (HF.out hu)
        clear HF hu
        go_wp2
        go_ret
        exact ⟨_, rfl, HF2.out, rfl⟩
    · obtain rfl : k = l.length := by omega
      have hq := HP.out
      rw [List.take_length] at hq
      have HQ := Lib.hid hq
      clear hq
      go_wp2
      go_ret
      exact ⟨_, rfl, .inl ⟨rfl, HQ.out⟩, rfl⟩

theorem dropL_none {g : Int → Bool} {l : List Int} (h : l.any g = false) : dropL g l = l := by
  unfold dropL
  rw [List.filter_eq_self]
  intro x hx
  have := List.any_eq_false.1 h x hx
  simpa using this
theorem dropL_snoc {g : Int → Bool} {l : List Int} {j : Nat} (h : j < l.length) : dropL g (l.take (j + 1)) = dropL g (l.take j) ++ (if g (l.getD j 0) = true then [] else [l.getD j 0]) := by
  rw [ints_take j h]
  unfold dropL
  rw [List.filter_append]
  congr 1
  generalize l.getD j 0 = u
  cases hg : g u <;> simp [hg]
/-- The row while numbers go: those that stay of the first j, and all from there on as it was. -/
def goneRow (g : Int → Bool) (l : List Int) (j : Nat) : List Int := dropL g (l.take j) ++ l.drop (dropL g (l.take j)).length
theorem dropL_take_le (g : Int → Bool) (l : List Int) (j : Nat) : (dropL g (l.take j)).length ≤ j := Nat.le_trans (dropL_le g _) (List.length_take_le _ _)
theorem goneRow_length (g : Int → Bool) (l : List Int) {j : Nat} (h : j ≤ l.length) : (goneRow g l j).length = l.length := by
  have := dropL_take_le g l j
  unfold goneRow
  rw [List.length_append, List.length_drop]
  omega
theorem goneRow_get (g : Int → Bool) (l : List Int) {j : Nat} (_h : j < l.length) : (goneRow g l j).getD j 0 = l.getD j 0 := by
  have := dropL_take_le g l j
  unfold goneRow
  rw [List.getD_eq_getElem?_getD, List.getElem?_append_right this, List.getElem?_drop, List.getD_eq_getElem?_getD]
  congr 2
  omega
theorem goneRow_keep {g : Int → Bool} {l : List Int} {j : Nat} (h : j < l.length) (hg : g (l.getD j 0) = false) : (goneRow g l j).set (dropL g (l.take j)).length (l.getD j 0) = goneRow g l (j + 1) ∧ (dropL g (l.take (j + 1))).length = (dropL g (l.take j)).length + 1 := by
  have hk := dropL_take_le g l j
  have hs := dropL_snoc (g := g) h
  rw [if_neg (by rw [hg]; decide)] at hs
  unfold goneRow
  rw [hs]
  refine ⟨?_, by simp⟩
  rw [List.set_append_right _ _ (Nat.le_refl _), Nat.sub_self, List.append_assoc, List.length_append]
  congr 1
  rw [List.drop_eq_getElem_cons (show (dropL g (l.take j)).length < l.length by omega)]
  rfl
theorem goneRow_skip {g : Int → Bool} {l : List Int} {j : Nat} (h : j < l.length) (hg : g (l.getD j 0) = true) : goneRow g l (j + 1) = goneRow g l j ∧ (dropL g (l.take (j + 1))).length = (dropL g (l.take j)).length := by
  have hs := dropL_snoc (g := g) h
  rw [if_pos hg, List.append_nil] at hs
  unfold goneRow
  rw [hs]
  exact ⟨rfl, rfl⟩
theorem goneRow_start {g : Int → Bool} {l : List Int} {i : Nat} (h : i < l.length) (h1 : (l.take i).any g = false) (h2 : g (l.getD i 0) = true) : goneRow g l (i + 1) = l ∧ (dropL g (l.take (i + 1))).length = i := by
  have e := dropL_none h1
  obtain ⟨a, b⟩ := goneRow_skip h h2
  rw [a, b]
  unfold goneRow
  rw [e, List.length_take, Nat.min_eq_left (by omega), List.take_append_drop]
  exact ⟨rfl, rfl⟩

def Deleted (w0 : World) (g : Int → Bool) (v : Value) (l : List Int) (w : World) (e : Ending) (w' : World) : Prop :=
  ∃ v', e = .returned v' ∧ IOwn w' w0.heap.size v' (dropL g l) ∧ v'.ownBlock = v.ownBlock ∧ w.grownBy w' v.ownBlock

set_option maxHeartbeats 2000000 in
set_option maxRecDepth 100000 in
theorem deleteF_any (K : Nat) (caps : Array Value) (g : Int → Bool) (ok : Int → Prop) (w0 : World) (hg : GoneAt K caps g ok w0) (v : Value) (l : List Int) (w : World) (h : IOwn w w0.heap.size v l) (hb : Below w0.heap.size w0 w) (hok : ∀ x ∈ l, ok x) (hl : l.length ≤ 1000000) :
    Calls Tryz.prog 46 #[v, .func (.func K) #[] caps] w (Deleted w0 g v l w) := by
  have HI := Lib.hid (indexF_any K caps g ok w0 hg v l w _ h.row hb hok)
  have HG := Lib.hid hg; clear hg
  have HB := Lib.hid hb; clear hb
  have HOK := Lib.hid hok; clear hok
  have HO := Lib.hid h
  have hK := HG.out.1
  obtain ⟨ao, cap, hv⟩ := slice_val h
  obtain ⟨n, hn⟩ : ∃ n, n = l.length := ⟨_, rfl⟩
  rw [← hn] at hv hl
  have HN := Lib.hid hn
  have hv0 := hv
  subst hv
  clear h hv0 hn
  go_enter Tryz.func46, Tryz.ntmps46
  go_wp2_with fail
  refine HI.out.mono ?_
  rintro e w1 ⟨i, rfl, hf, rfl⟩
  rcases hf with ⟨rfl, hf⟩ | ⟨i, hi, rfl, hf1, hf2⟩
  · have HD := Lib.hid (dropL_none hf)
    clear hf
    go_wp2
    go_ret
    refine ⟨_, rfl, ?_, rfl, World.grownBy.refl _ _⟩
    rw [HD.out]
    exact HO.out
  · obtain ⟨gb, cap', hv, hgb, hgw, hnc, hcm⟩ := HO.out.form (by intro h0; rw [h0] at hi; simp at hi)
    rw [← HN.out] at hv hi hnc
    simp only [Value.slice.injEq, true_and] at hv
    obtain ⟨rfl, rfl⟩ := hv
    have HST := Lib.hid (goneRow_start (by rw [← HN.out]; exact hi) hf1 hf2)
    have hne : ((i : Int) == -1) = false := by rw [beq_eq_false_iff_ne]; omega
    have HGB := Lib.hid hgb
    have hnm : n ≤ cap := hnc
    clear hf1 hf2 hgb hgw hnc
    unfold maxLen at hcm
    go_wp2
    go_loopw [5, 6, 7] (fun iv jv _ wr => ∃ (k j : Nat), j ≤ n ∧ k < j ∧ iv = .int .i64 (k : Int) ∧ jv = .int .i64 (j : Int) ∧ k = (dropL g (l.take j)).length ∧ IOwn wr w0.heap.size (.slice (some ⟨gb, 0, none⟩) n cap) (goneRow g l j) ∧ w.grownBy wr (some gb))
      (fun _ jv _ _ => n - (intOf jv).toNat)
    case atStart => exact ⟨i, i + 1, by omega, by omega, rfl, by go_num, HST.out.2.symm, by rw [HST.out.1]; exact HO.out, World.grownBy.refl _ _⟩
    case round =>
      obtain ⟨k, j, hj, hkj, rfl, rfl, hk, ho, hgr⟩ := hrel
      have hrl := goneRow_length g l (j := j) (by rw [← HN.out]; exact hj)
      by_cases hlt : j < n
      · have hltl : j < l.length := by rw [← HN.out]; exact hlt
        have cj := ho.cell (by rw [hrl, HN.out]) (i := j) (by rw [hrl]; exact hltl)
        have ck := ho.cell (by rw [hrl, HN.out]) (i := k) (by rw [hrl]; omega)
        have fk := ho.free (by rw [hrl, HN.out]) k
        rw [goneRow_get g l hltl] at cj
        have HC := Lib.hid (HG.out.2 (l.getD j 0) wr (HOK.out _ (getD_memI j hltl)) (HB.out.grown hgr HB.out.size (fun q hq => by cases hq; exact HGB.out)))
        have HKEEP : Hid (g (l.getD j 0) = false → (goneRow g l j).set k (l.getD j 0) = goneRow g l (j + 1) ∧ (dropL g (l.take (j + 1))).length = k + 1) := Lib.hid fun h => by rw [hk]; exact goneRow_keep hltl h
        have HSKIP : Hid (g (l.getD j 0) = true → goneRow g l (j + 1) = goneRow g l j ∧ (dropL g (l.take (j + 1))).length = k) := Lib.hid fun h => by rw [hk]; exact goneRow_skip hltl h
        have HRL : Hid (n = (goneRow g l j).length) := Lib.hid (by rw [hrl, HN.out])
        have HOO := Lib.hid ho
        have HGR := Lib.hid hgr
        have hlti : (j : Int) < n := by omega
        have hki : (k : Int) < n := by omega
        generalize l.getD j 0 = u at cj HC HKEEP HSKIP
        generalize (goneRow g l j).getD k 0 = old at ck
        clear ho hgr hk hrl hltl
        by_cases hu : g u = false
        · have HK2 := Lib.hid (HKEEP.out hu)
          rw [hu] at HC
          clear hu HKEEP HSKIP
          go_wp2_with fail
          refine HC.out.mono ?_
          rintro e w1 ⟨rfl, rfl⟩
          go_wp2
          go_roundw
          case rel =>
            refine ⟨k + 1, j + 1, by omega, by omega, by go_num, by go_num, HK2.out.2.symm, ?_, ?_⟩
            · rw [← HK2.out.1]
              exact HOO.out.set HRL.out k u
            · refine grownBy_trans HGR.out (row1 := some gb) ⟨rfl, rfl, rfl, by simp, fun q _ hq => heap_setCell_other wr ⟨gb, k, none⟩ q _ (fun e => hq (by rw [e]))⟩ fun q hq _ => hq
          case measure => simp [intOf]; omega
        · have hu : g u = true := by simpa using hu
          have HK2 := Lib.hid (HSKIP.out hu)
          rw [hu] at HC
          clear hu HKEEP HSKIP
          go_wp2_with fail
          refine HC.out.mono ?_
          rintro e w1 ⟨rfl, rfl⟩
          go_wp2
          go_roundw
          case rel => exact ⟨k, j + 1, by omega, by omega, rfl, by go_num, HK2.out.2.symm, by rw [HK2.out.1]; exact HOO.out, HGR.out⟩
          case measure => simp [intOf]; omega
      · obtain rfl : j = n := by omega
        have hall : l.take j = l := List.take_of_length_le (by rw [HN.out]; exact Nat.le_refl _)
        rw [hall] at hk
        have hcl : ∀ ty, (Builtin.clear_ #[26] ty #[.slice (some ⟨gb, k, none⟩) (j - k) (cap - k)]).run Tryz.prog wr = .ok (.tuple #[]) (wr.setCells gb k (List.replicate (j - k) (.int .i64 0))) :=
          fun ty => by
            have := Lib.run_clear_slice (P := Tryz.prog) wr 26 3 ty (.int .i64 0) Tryz.underlying26 Tryz.zeroValue3 rfl rfl gb k (j - k) (cap - k) (by omega)
              (fun t ht => by rw [ho.cell (by rw [hrl, HN.out]) (i := k + t) (by rw [hrl, ← HN.out]; omega)]; rfl) (fun t ht => ho.free (by rw [hrl, HN.out]) (k + t))
            exact this
        have hsl : ∀ W, (Instr.slice 26 (.slice (some ⟨gb, 0, none⟩) j cap) (some (.int .i64 (k : Int))) none none).run Tryz.prog W = .ok (.slice (some ⟨gb, k, none⟩) (j - k) (cap - k)) W := fun W => by
          rw [slice_tailI W _ j cap k (by omega), if_neg (by omega), Option.map_some, Addr.add_lit, Nat.zero_add]
        have hsh := fun W => slice_headI W (some ⟨gb, 0, none⟩) j cap k (by omega)
        obtain ⟨l', e1, e2, ho2, hg2⟩ := IOwn.wipe k (j - k) k wr _ ho (by rw [hrl, HN.out]) (Nat.le_refl _)
        have ho3 := ho2.cut (by rw [e1, hrl, HN.out]) (k := k) (by omega)
        have e3 : l'.take k = dropL g l := by
          rw [e2]
          unfold goneRow
          rw [hall, hk, List.take_left]
        rw [e3] at ho3
        have HO3 := Lib.hid ho3
        have HG3 := Lib.hid (grownBy_trans hgr hg2 fun q hq _ => hq)
        generalize wr.setCells gb k (List.replicate (j - k) (.int .i64 0)) = w9 at hcl HO3 HG3
        clear ho hgr hk hrl hall e1 e2 e3 ho2 hg2 ho3
        go_wp2
        go_ret
        exact ⟨_, rfl, HO3.out, rfl, HG3.out⟩

end Go.Proofs.YtlckadlkgjfjcaaGreatDoor

namespace Go.Proofs.YtlckadlkgjfjcaaGreatDoor
open Go.RowKit

/-- Rows of the call's own, each in a block of its own. -/
def Rows1 (w : World) (base : Nat) (v : Value) (ls : List (List Int)) : Prop :=
  ∃ us : List Value, us.length = ls.length ∧ w.ownsRow base 26 1 v us.length us ∧ (∀ i, i < ls.length → IOwn w base (us.getD i .nilIface) (ls.getD i [])) ∧
    ∀ i j, i < j → j < ls.length → ∀ b, (us.getD i .nilIface).ownBlock = some b → (us.getD j .nilIface).ownBlock ≠ some b

theorem iown_ne {w : World} {base base' : Nat} {v ov : Value} {l : List Int} {n : Nat} {us : List Value} (h : IOwn w base v l) (ho : w.ownsRow base' 26 1 ov n us) : v.ownBlock = none ∨ v.ownBlock ≠ ov.ownBlock := by
  rcases h.2 with ⟨rfl, _⟩ | ⟨g, cap, cur, rfl, _, hg, _⟩
  · exact .inl rfl
  · right
    rcases ho.2 with ⟨rfl, _⟩ | ⟨g', cap', cur', rfl, _, hg', _⟩
    · simp [Value.ownBlock]
    · intro e
      simp only [Value.ownBlock, Option.some.injEq] at e
      subst e
      rw [hg] at hg'
      cases hg'
theorem Rows1.one {w : World} {base : Nat} {us : List Value} {ls : List (List Int)} (hl : us.length = ls.length) (h : ∀ i, i < ls.length → IOwn w base (us.getD i .nilIface) (ls.getD i [])) : ∀ u ∈ us, u.oneCell' = true := by
  intro u hu
  obtain ⟨i, hi, rfl⟩ := List.getElem_of_mem hu
  have h1 := h i (by omega)
  rw [List.getD_eq_getElem?_getD, List.getElem?_eq_getElem hi] at h1
  exact h1.row.one
theorem Rows1.chs {w : World} {base : Nat} {v : Value} {ls : List (List Int)} (h : Rows1 w base v ls) : Chs w (fun j => base ≤ j) v ls := by
  obtain ⟨us, h1, h2, h3, _⟩ := h
  exact ⟨us, h1, (owned_row h2).mono fun j _ hj => hj.1, Rows1.one h1 h3, fun i hi => (h3 i hi).row.mono fun j _ hj => hj.1⟩
theorem Rows1.below {w w' : World} {base : Nat} {v : Value} {ls : List (List Int)} (h : Rows1 w base v ls) (hb : Below w.heap.size w w') : Rows1 w' base v ls := by
  obtain ⟨us, h1, h2, h3, h4⟩ := h
  refine ⟨us, h1, ?_, fun i hi => (h3 i hi).below hb (Nat.le_refl _), h4⟩
  refine ⟨h2.1, ?_⟩
  rcases h2.2 with h5 | ⟨g, cap, cur, e1, e2, e3, r⟩
  · exact .inl h5
  · exact .inr ⟨g, cap, cur, e1, e2, (hb.block g (Array.getElem?_eq_some_iff.1 e3).1).trans e3, r⟩
theorem Rows1.keepB {w w' : World} {base : Nat} {v : Value} {ls : List (List Int)} (h : Rows1 w base v ls) (hk : ∀ j, base ≤ j → j < w.heap.size → w'.heap[j]? = w.heap[j]?) : Rows1 w' base v ls := by
  obtain ⟨us, h1, h2, h3, h4⟩ := h
  have move : ∀ {e : TypeId} {x : Value} {n : Nat} {xs : List Value}, w.ownsRow base e 1 x n xs → w'.ownsRow base e 1 x n xs := by
    intro e x n xs hr
    refine ⟨hr.1, ?_⟩
    rcases hr.2 with h5 | ⟨g, cap, cur, e1, e2, e3, r⟩
    · exact .inl h5
    · exact .inr ⟨g, cap, cur, e1, e2, (hk g e2 (Array.getElem?_eq_some_iff.1 e3).1).trans e3, r⟩
  exact ⟨us, h1, move h2, fun i hi => move (h3 i hi), h4⟩
theorem Rows1.mono {w : World} {base base' : Nat} {v : Value} {ls : List (List Int)} (h : Rows1 w base v ls) (hb : base' ≤ base) : Rows1 w base' v ls := by
  obtain ⟨us, h1, h2, h3, h4⟩ := h
  refine ⟨us, h1, ⟨h2.1, ?_⟩, fun i hi => (h3 i hi).mono hb, h4⟩
  rcases h2.2 with h5 | ⟨g, cap, cur, e1, e2, e3, r⟩
  · exact .inl h5
  · exact .inr ⟨g, cap, cur, e1, Nat.le_trans hb e2, e3, r⟩
theorem Rows1.grown {w w' : World} {base : Nat} {v : Value} {ls : List (List Int)} {r : Option Nat} (h : Rows1 w base v ls) (hg : w.grownBy w' r) (hr : ∀ b, r = some b → w.heap.size ≤ b) : Rows1 w' base v ls := by
  refine h.below ⟨hg.os, hg.tape, hg.output, hg.size, fun j hj => hg.block j hj fun e => ?_⟩
  have := hr j e.symm
  omega
theorem Rows1.lt {w : World} {base : Nat} {us : List Value} {ls : List (List Int)} (h : ∀ i, i < ls.length → IOwn w base (us.getD i .nilIface) (ls.getD i [])) {i : Nat} (hi : i < ls.length) : ∀ b, (us.getD i .nilIface).ownBlock = some b → base ≤ b ∧ b < w.heap.size := (h i hi).lt
theorem rows_nil (w : World) (base : Nat) : Rows1 w base (.slice none 0 0) [] := ⟨[], rfl, World.ownsRow_nil w base _ 1, by simp, by simp⟩
theorem getD_snocL {α : Type} (us : List α) (u d : α) (i : Nat) : (us ++ [u]).getD i d = if i < us.length then us.getD i d else if i = us.length then u else d := by
  by_cases h : i < us.length
  · rw [if_pos h, List.getD_eq_getElem?_getD, List.getElem?_append_left h, ← List.getD_eq_getElem?_getD]
  · rw [if_neg h, List.getD_eq_getElem?_getD, List.getElem?_append_right (by omega)]
    by_cases e : i = us.length
    · subst e; simp
    · rw [if_neg e, List.getElem?_eq_none (by simp; omega)]; rfl

/-- One row more. -/
theorem rows_snoc {w0 w w' : World} {base m : Nat} {v v' u : Value} {us : List Value} {ls : List (List Int)} {l : List Int} (h1 : us.length = ls.length) (h2 : w.ownsRow base 26 1 v us.length us)
    (h3 : ∀ i, i < ls.length → IOwn w base (us.getD i .nilIface) (ls.getD i [])) (h4 : ∀ i j, i < j → j < ls.length → ∀ b, (us.getD i .nilIface).ownBlock = some b → (us.getD j .nilIface).ownBlock ≠ some b)
    (hm : ∀ i, i < ls.length → ∀ b, (us.getD i .nilIface).ownBlock = some b → b < m) (hu : IOwn w base u l) (hum : ∀ b, u.ownBlock = some b → m ≤ b)
    (hw0 : w0 = w.alloc (.cells #[u] 26)) (ho : w'.ownsRow base 26 1 v' (us ++ [u]).length (us ++ [u])) (hg : w0.grownBy w' v.ownBlock) : Rows1 w' base v' (ls ++ [l]) := by
  have hb0 : Below w.heap.size w w0 := by rw [hw0]; exact (Below.refl _ _).alloc (Nat.le_refl _) _
  have hv0 : w0.ownsRow base 26 1 v us.length us := by
    refine ⟨h2.1, ?_⟩
    rcases h2.2 with h5 | ⟨g, cap, cur, e1, e2, e3, r⟩
    · exact .inl h5
    · exact .inr ⟨g, cap, cur, e1, e2, (hb0.block g (Array.getElem?_eq_some_iff.1 e3).1).trans e3, r⟩
  have key : ∀ (x : Value) (t : List Int), IOwn w base x t → IOwn w' base x t := fun x t hx => by
    have hx0 := hx.below hb0 (Nat.le_refl _)
    exact hx0.grown hg (iown_ne hx0 hv0)
  refine ⟨us ++ [u], by simp [h1], ho, fun i hi => ?_, fun i j hij hj b hb => ?_⟩
  · rw [List.length_append, List.length_singleton] at hi
    rw [getD_snocL, getD_snocL]
    by_cases h : i < ls.length
    · rw [if_pos (by omega), if_pos h]
      exact key _ _ (h3 i h)
    · rw [if_neg (by omega), if_pos (by omega), if_neg h, if_pos (by omega)]
      exact key _ _ hu
  · rw [List.length_append, List.length_singleton] at hj
    rw [getD_snocL, if_pos (by omega)] at hb
    rw [getD_snocL]
    by_cases h : j < ls.length
    · rw [if_pos (by omega)]
      exact h4 i j hij h b hb
    · rw [if_neg (by omega), if_pos (by omega)]
      intro e
      have a1 := hm i (by omega) b hb
      have a2 := hum b e
      omega

theorem rows_step {wr w3 w0 : World} {base : Nat} {v u : Value} {ls : List (List Int)} {l : List Int} (h : Rows1 wr base v ls) (hb : Below wr.heap.size wr w3) (hu : IOwn w3 base u l) (hum : ∀ b, u.ownBlock = some b → wr.heap.size ≤ b)
    (hw0 : w0 = w3.alloc (.cells #[u] 26)) : ∃ us : List Value, us.length = ls.length ∧ w0.ownsRow base 26 1 v us.length us ∧
      ∀ v' w', w'.ownsRow base 26 1 v' (us ++ [u]).length (us ++ [u]) → w0.grownBy w' v.ownBlock → Rows1 w' base v' (ls ++ [l]) ∧ (base ≤ w0.heap.size → Below base w0 w') := by
  obtain ⟨us, h1, h2, h3, h4⟩ := h
  have move : ∀ {a b : World}, Below a.heap.size a b → a.ownsRow base 26 1 v us.length us → b.ownsRow base 26 1 v us.length us := by
    intro a b hab hr
    refine ⟨hr.1, ?_⟩
    rcases hr.2 with h5 | ⟨g, cap, cur, e1, e2, e3, r⟩
    · exact .inl h5
    · exact .inr ⟨g, cap, cur, e1, e2, (hab.block g (Array.getElem?_eq_some_iff.1 e3).1).trans e3, r⟩
  have hb0 : Below w3.heap.size w3 w0 := by rw [hw0]; exact (Below.refl _ _).alloc (Nat.le_refl _) _
  have h23 := move hb h2
  have h20 := move hb0 h23
  refine ⟨us, h1, h20, fun v' w' ho hg => ⟨?_, fun hbase => ?_⟩⟩
  · exact rows_snoc h1 h23 (fun i hi => (h3 i hi).below hb (Nat.le_refl _)) h4 (fun i hi b e => ((h3 i hi).lt b e).2) hu hum hw0 ho hg
  · exact (Below.refl _ _).grown hg hbase fun j hj => (World.ownsRow.lt h20 j hj).1

/-- A walk of an append of one row onto rows that the call owns. -/
theorem wpList_appR {u : Value} (w3 w0 : World) {ops : Array Oper} {rest : List Oper} {o : Oper} {a : Act} {Q : Exit → Act → World → Prop} (hgd : o.guard = none) (s x : Operand)
    (ho : o.op = .call { callee := .builtin .append, args := #[s, x], argTypes := #[52, 52] })
    (hw0 : w0 = w3.alloc (.cells #[u] 26)) (wr : World) (base : Nat) (v : Value) (ls : List (List Int)) (l : List Int) (hs : a.eval s = v) (h : Rows1 wr base v ls) (hb : Below wr.heap.size wr w3) (hu : IOwn w3 base u l) (hum : ∀ b, u.ownBlock = some b → wr.heap.size ≤ b)
    (hx : a.eval x = .slice (some ⟨w3.heap.size, 0, none⟩) 1 1) (hn : ls.length ≤ 1000000) (hbase : base ≤ wr.heap.size)
    (hk : ∀ v' w', Rows1 w' base v' (ls ++ [l]) → Below base w0 w' → wpList Tryz.prog ops Q rest (a.put o.dst v') w') : wpList Tryz.prog ops Q (o :: rest) a w0 := by
  obtain ⟨us, h1, h2, h3⟩ := rows_step h hb hu hum hw0
  have hsz : base ≤ w0.heap.size := by rw [hw0]; have := hb.size; simp; omega
  have hone := row_one w3 26 u (0, 0)
  rw [← hw0] at hone
  refine wpList_appV w0 hgd s x 52 ho base 26 (.slice none 0 0) 24 Tryz.underlying52 Tryz.infoII rfl v us hs h2 _ _ [u] hx hone ?_ (by decide) (by simp only [List.length_singleton]; omega) hsz ?_
  · intro y hy
    rw [List.mem_singleton] at hy
    rw [hy]
    exact hu.row.one
  · intro v' w' ho' hg
    obtain ⟨a1, a2⟩ := h3 v' w' ho' hg
    exact hk v' w' a1 (a2 hsz)

set_option maxHeartbeats 2000000 in
set_option maxRecDepth 100000 in
theorem without_any (K : Nat) (caps : Array Value) (g : Int → Bool) (ok : Int → Prop) (w : World) (hg : GoneAt K caps g ok w) (v : Value) (cs : List (List Int)) (B : Nat → Prop) (h : Chs w B v cs)
    (hok : ∀ c ∈ cs, ∀ x ∈ c, ok x) (hl : ∀ c ∈ cs, c.length ≤ 1000000) (hn : cs.length ≤ 1000000) :
    Calls Tryz.prog 81 #[v, .func (.func K) #[] caps] w fun e w' => ∃ v', e = .returned v' ∧ Rows1 w' w.heap.size v' (cs.map (dropL g)) ∧ Below w.heap.size w w' := by
  obtain ⟨ao, cap, rfl, h1, h2, h3⟩ := h.val
  have HR := Lib.hid h
  have HG := Lib.hid hg
  have HOK := Lib.hid hok
  have HLE := Lib.hid hl
  clear h h3 hg hok hl
  unfold maxLen at h2
  go_enter Tryz.func81, Tryz.ntmps81
  go_wp2
  go_loopw [5, 7, 10] (fun ov _ i wr => ∃ k : Nat, k ≤ cs.length ∧ i = .int .i64 (k : Int) ∧ Rows1 wr w.heap.size ov ((cs.take k).map (dropL g)) ∧ Below w.heap.size w wr)
    (fun _ _ i _ => cs.length - (intOf i).toNat)
  case atStart => exact ⟨0, Nat.zero_le _, rfl, by simpa using rows_nil _ _, Below.refl _ _⟩
  case round =>
    obtain ⟨k, hk, rfl, hrow, hb⟩ := hrel
    have HROW := Lib.hid hrow
    have HB := Lib.hid hb
    clear hrow hb
    by_cases hlt : k < cs.length
    · obtain ⟨b, off, x, rfl, hbl, _, hc, hat⟩ := (HR.out.old HB.out).at hlt
      have hm := getD_memC k hlt
      have HC := Lib.hid (cloneI_any x _ wr B hat (HLE.out _ hm))
      have HTS : Hid ((cs.take (k + 1)).map (dropL g) = (cs.take k).map (dropL g) ++ [dropL g (cs.getD k [])]) := Lib.hid (by rw [chains_take k hlt]; simp)
      have HM : Hid ((∀ y ∈ cs.getD k [], ok y) ∧ (cs.getD k []).length ≤ 1000000) := Lib.hid ⟨HOK.out _ hm, HLE.out _ hm⟩
      have hlti : (k : Int) < cs.length := by omega
      generalize cs.getD k [] = c at HC HTS HM
      have hx1 := hat.one
      clear hat hm hx1
      go_wp2_with fail
      refine HC.out.mono ?_
      rintro e w2 ⟨v2, rfl, ho2, hb2⟩
      have HB2 := Lib.hid hb2
      have HBW : Hid (Below w.heap.size w w2) := Lib.hid (HB.out.trans (hb2.mono HB.out.size))
      have HD := Lib.hid (deleteF_any K caps g ok w HG.out v2 c w2 (ho2.mono HB.out.size) HBW.out HM.out.1 HM.out.2)
      have HL2 : Hid (∀ q, v2.ownBlock = some q → wr.heap.size ≤ q) := Lib.hid fun q hq => (ho2.lt q hq).1
      clear ho2 hb2
      go_wp2_with fail
      refine HD.out.mono ?_
      rintro e w3 ⟨v3, rfl, ho3, hob, hg3⟩
      have HB3 : Hid (Below wr.heap.size wr w3) := Lib.hid (HB2.out.grown hg3 HB2.out.size HL2.out)
      have HU3 : Hid (∀ q, v3.ownBlock = some q → wr.heap.size ≤ q) := Lib.hid fun q hq => HL2.out q (by rw [← hob]; exact hq)
      have HO3 := Lib.hid ho3
      obtain ⟨ao3, cap3, hv3⟩ := slice_val ho3
      obtain ⟨n3, hn3⟩ : ∃ n, n = (dropL g c).length := ⟨_, rfl⟩
      rw [← hn3] at hv3
      subst hv3
      clear ho3 hob hg3 hn3
      go_wp2_with (at_builtin; go_must (refine wpList_appR w3 _ rfl _ _ rfl rfl wr w.heap.size _ _ _ rfl HROW.out HB3.out HO3.out HU3.out rfl ?c1 HB.out.size ?_))
      case c1 => rw [List.length_map, List.length_take]; omega
      intro v4 w4 hr4 hb4
      have HR4 : Hid (Rows1 w4 w.heap.size v4 ((cs.take (k + 1)).map (dropL g))) := Lib.hid (by rw [HTS.out, List.map_take]; exact hr4)
      have HB4 : Hid (Below w.heap.size w w4) := Lib.hid (((HB.out.trans (HB3.out.mono HB.out.size)).alloc (by have := HB.out.size; have := HB3.out.size; omega) _).trans hb4)
      clear hr4 hb4
      go_wp2
      go_roundw
      case rel => exact ⟨k + 1, by omega, by go_num, HR4.out, HB4.out⟩
      case measure => simp [intOf]; omega
    · obtain rfl : k = cs.length := by omega
      have hrow := HROW.out
      rw [List.take_length] at hrow
      have HROW2 := Lib.hid hrow
      clear hrow
      go_wp2
      go_ret
      exact ⟨_, rfl, HROW2.out, HB.out⟩

theorem map_dropL_none (cs : List (List Int)) : cs.map (dropL fun _ => false) = cs := by
  have : (dropL fun _ => false) = (fun c : List Int => c) := by funext c; unfold dropL; simp
  rw [this, List.map_id']

set_option maxHeartbeats 2000000 in
set_option maxRecDepth 100000 in
theorem pcopy_any (ep : Int) (v : Value) (cs : List (List Int)) (w : World) (B : Nat → Prop) (h : Chs w B v cs) (hl : ∀ c ∈ cs, c.length ≤ 1000000) (hn : cs.length ≤ 1000000) :
    Calls Tryz.prog 57 #[.agg #[.int .i64 ep, v]] w fun e w' => ∃ v', e = .returned (.agg #[.int .i64 ep, v']) ∧ Rows1 w' w.heap.size v' cs ∧ Below w.heap.size w w' := by
  obtain ⟨ao, cap, rfl, l1, m1, _⟩ := h.val
  obtain ⟨W1, hW1⟩ : ∃ W1, W1 = (w.alloc (.cells #[.int .i64 ep, .slice ao cs.length cap] 54)).alloc (.cells #[.int .i64 0, .slice none 0 0] 54) := ⟨_, rfl⟩
  have hb1 : Below w.heap.size w W1 := by rw [hW1]; exact ((Below.refl _ _).alloc (Nat.le_refl _) _).alloc (by simp) _
  have hx1 : Box2 W1 w.heap.size (.int .i64 ep) (.slice ao cs.length cap) := by rw [hW1]; exact (box2_new _ _ _ _).old ((Below.refl _ _).alloc (Nat.le_refl _) _)
  have hx2 : Box2 W1 (w.heap.size + 1) (.int .i64 0) (.slice none 0 0) := by
    have := box2_new (w.alloc (.cells #[.int .i64 ep, .slice ao cs.length cap] 54)) (.int .i64 0) (.slice none 0 0) 54
    rw [hW1]; simpa using this
  have HX1 := Lib.hid hx1.drew
  have HX2 := Lib.hid hx2.drew
  have HB1 := Lib.hid hb1
  have HW := Lib.hid (without_any 106 #[] (fun _ => false) (fun _ => True) W1.drew (none_gone _) _ cs B (h.old (hb1.drew)) (fun _ _ _ _ => trivial) hl hn)
  rw [map_dropL_none] at HW
  clear h hb1 l1 m1 hx1 hx2 hl hn
  subst hW1
  go_enter Tryz.func57, Tryz.ntmps57
  go_wp2_with fail
  go_region_held3 (fun w' => w'.cell? ⟨w.heap.size, 0, none⟩ = some (.int .i64 ep) ∧ w'.cell? ⟨w.heap.size, 1, none⟩ = some (.slice ao cs.length cap)) (go_keep) (first | (go_at_call 81; refine HW.out.mono ?_; rintro e w2 ⟨v2, rfl, hr2, hb2⟩; obtain ⟨ao2, cap2, rfl, _, _, _⟩ := hr2.chs.val; have g1 := HX1.out.low hb2 HX1.out.lt; have g2 := HX2.out.low hb2 HX2.out.lt; have c0 := g1.c0; have c1 := g1.c1; have d0 := g2.c0; have d1 := g2.c1; have f0 := g2.f0; have f1 := g2.f1; clear g1 g2))
  all_goals (
    have HR2 : Hid (Rows1 ((w2.setCell ⟨w.heap.size + 1, 0, none⟩ (.int .i64 ep)).setCell ⟨w.heap.size + 1, 1, none⟩ (.slice ao2 cs.length cap2)) w.heap.size (.slice ao2 cs.length cap2) cs) := Lib.hid ((hr2.keepB (fun j hj _ => by
      have hne : j ≠ w.heap.size + 1 := by simp at hj; omega
      rw [heap_setCell_other _ _ _ _ hne, heap_setCell_other _ _ _ _ hne])).mono (by simp; omega))
    have HB2 : Hid (Below w.heap.size w ((w2.setCell ⟨w.heap.size + 1, 0, none⟩ (.int .i64 ep)).setCell ⟨w.heap.size + 1, 1, none⟩ (.slice ao2 cs.length cap2))) := Lib.hid (((HB1.out.drew.trans (hb2.mono (by simp; omega))).setCell (by simp) _).setCell (by simp) _)
    clear hr2 hb2
    go_wp2
    exact bodyPost_ret (v := .agg #[.int .i64 ep, .slice ao2 cs.length cap2]) (by simp [results, Tryz.results57, go_sem, d0, d1]) rfl ⟨_, rfl, HR2.out, HB2.out⟩)

end Go.Proofs.YtlckadlkgjfjcaaGreatDoor
