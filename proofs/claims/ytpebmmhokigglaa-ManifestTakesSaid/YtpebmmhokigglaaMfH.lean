/- Package manifest: Take. -/
import Derived.Test.YtpebmmhokigglaaMfG
import Derived.Test.YtpebmmhokigglaaFbP
import Derived.Test.YtpebmmhokigglaaRaP
namespace Go.Proofs.Ytpebmmhokigglaa
open Go.RowKit

/-- Two results, the first of which lies in a cell row. -/
theorem results_row_tmp {P : Program} {fn : Func} {p s : Tmp} {ty : TypeId} (h : fn.results = #[.cell p ty, .tmp s]) (tmps : Array Value) (w : World) (g : Nat) (t : TypeId) (cs : Array Value) (fr : Nat × Nat) (d : TypeDesc) (u : Value)
    (hp : tmps.getD p undef = .pointer (some ⟨g, 0, none⟩)) (hs : tmps.getD s undef = u) (hg : w.heap[g]? = some (.cells cs t fr))
    (hu : P.underlying ty = some d) (hd : (match d with | .struct _ | .array _ _ => true | _ => false) = true) (hi : (P.info? ty).map (·.size) = some cs.size) :
    (results fn tmps).run P w = .ok (.tuple #[.agg cs, u]) w := by
  have hp' : tmps[p]?.getD undef = .pointer (some ⟨g, 0, none⟩) := by simpa using hp
  have hs' : tmps[s]?.getD undef = u := by simpa using hs
  simp [results, h, hp', hs', asAddr, run_loadVar_row w g t ty cs fr d hg hu hd hi]

/-- A struct that is stored whole into a box. -/
theorem wpList_store_box {P : Program} {ops : Array Oper} {rest : List Oper} {o : Oper} {a : Act} {w : World} {Q : Exit → Act → World → Prop} (hgd : o.guard = none) (ty : TypeId) (x y : Operand) (ho : o.op = .store ty x y)
    (g : Nat) (cells : Array Value) (hx : a.eval x = .pointer (some ⟨g, 0, none⟩)) (hy : a.eval y = .agg cells)
    (t : TypeId) (old : Array Value) (hg : w.heap[g]? = some (.cells old t (0, 0))) (hi : (P.info? ty).map (·.size) = some cells.size)
    (hold : old.size = cells.size) (h1 : cells.all (·.oneCell') = true)
    (h : ∀ W2 : World, W2.heap[g]? = some (.cells cells t (0, 0)) → Below g w W2 → (∀ k, k ≠ g → W2.heap[k]? = w.heap[k]?) → wpList P ops Q rest (a.put o.dst undef) W2) : wpList P ops Q (o :: rest) a w :=
  wpList_store_row hgd ty x y ho g cells hx hy t old hg hi hold h1 (h _ (setRow_heap _ _ _ _ _ _ hg) ⟨rfl, rfl, rfl, by simp [World.setRow], fun k hk => setRow_other _ _ k _ (by omega)⟩ fun k hk => setRow_other _ _ k _ hk)
theorem mf0_cells : (mfRow mf0 (.slice none 0 0)).toArray = #[.int .i64 0, .int .i64 0, .int .i64 0, .int .i64 0, .int .u8 0, .int .u8 0, .int .u8 0, .int .u8 0, .int .u8 0, .int .u8 0, .int .u8 0, .int .u8 0, .int .u8 0, .int .u8 0, .int .u8 0, .int .u8 0, .int .u8 0, .int .u8 0, .int .u8 0, .int .u8 0, .int .u8 0, .int .u8 0, .int .u8 0, .int .u8 0, .int .u8 0, .int .u8 0, .int .u8 0, .int .u8 0, .int .u8 0, .int .u8 0, .int .u8 0, .int .u8 0, .int .u8 0, .int .u8 0, .int .u8 0, .int .u8 0, .slice none 0 0] := by rfl
theorem rd_box {w w' : World} {p q : Nat} {rv : Value} {row : List Nat} {place c : Nat} {cs : Array Value} {T : TypeId} (h : Rd w p rv row place c) (hq : w.heap[q]? = some (.cells cs T (0, 0))) (hT : T ≠ 90 ∧ T ≠ 5) (hg : w.grownBy w' (some q)) : Rd w' p rv row place c := by
  refine h.grown hg ?_ ?_
  · intro e
    cases e
    have := h.blk.symm.trans hq
    injection this with this
    injection this with _ h2 _
    exact hT.1 h2.symm
  · cases hv : rv.ownBlock with
    | none => exact .inl rfl
    | some j =>
      right
      intro e
      cases e
      rcases h.own.2 with ⟨h1, _⟩ | ⟨g, cap, cur, h1, _, h3, _⟩
      · rw [h1] at hv; cases hv
      · rw [h1] at hv
        cases hv
        have := h3.symm.trans hq
        injection this with this
        injection this with _ h2 _
        exact hT.2 h2.symm

/-- What Take answers. -/
def MTakePost (b : List Nat) (w : World) (r : Ending) (w' : World) : Prop :=
  Below w.heap.size w w' ∧ ∃ (m : MF) (c : Nat) (v : Value), RMan b m c ∧ r = .returned (.tuple #[.agg (mfRow m v).toArray, errV c]) ∧ PsAt w' (fun j => w.heap.size ≤ j) v m.ps
theorem mtake_bad {b : List Nat} {w w' : World} {c : Nat} (hb : Below w.heap.size w w') (h : RMan b mf0 c) : MTakePost b w (.returned (.tuple #[.agg (mfRow mf0 (.slice none 0 0)).toArray, errV c])) w' := ⟨hb, mf0, c, _, h, rfl, ps_nil _ _⟩

set_option maxHeartbeats 16000000 in
set_option maxRecDepth 100000 in
theorem mtake_any (v : Value) (b : List Nat) (w : World) (hr : Reads w .u8 v b) (hb : ∀ y ∈ b, y < 256) (hx : b.length ≤ 80000000000000) :
    Calls Try.prog 6 #[v] w (MTakePost b w) := by
  obtain ⟨ao, cap, rfl, _, _, _⟩ := hr.val
  obtain ⟨W1, hW1⟩ : ∃ W1, W1 = w.alloc (.cells (mfRow mf0 (.slice none 0 0)).toArray 27) := ⟨_, rfl⟩
  have hb1 : Below w.heap.size w W1 := by rw [hW1]; exact (Below.refl _ _).alloc (Nat.le_refl _) _
  have hx1 : MB W1 w.heap.size mf0 (.slice none 0 0) 27 := by rw [hW1]; exact mb_new _ _ _ _
  have HONE := Lib.hid (frameOne_any _ b W1 (hr.new hb1) hb (by omega))
  have HBB := Lib.hid hb
  have HB1 := Lib.hid hb1
  have HX1 := Lib.hid hx1
  generalize b.length = nb at *
  rw [mf0_cells] at hW1
  have HW1 := Lib.hid hW1
  have HMS : Hid ((Try.prog.info? 27).map (·.size) = some (mfRow mf0 (.slice none 0 0)).toArray.size) := Lib.hid (by rw [mfRow_size dg_zero]; exact Try.sizeMF)
  clear hr hb hx hb1 hx1 hW1
  go_enter Try.func6, Try.ntmps6
  go_wp2_with fail
  rw [← HW1.out]
  refine HONE.out.mono ?_
  rintro r w2 ⟨v2, t, c0, rfl, hfo, hat, hb2⟩
  obtain ⟨ao2, cap2, rfl, _, _, _⟩ := hat.reads.val
  have HFO := Lib.hid hfo
  have HR2 := Lib.hid hat.reads
  have HB2 : Hid (Below W1.heap.size W1 w2) := Lib.hid hb2
  have HX2 := Lib.hid (HX1.out.old hb2)
  have HBW2 : Hid (Below w.heap.size w w2) := Lib.hid (HB1.out.trans (hb2.mono HB1.out.size))
  have HT8 := Lib.hid (mf_fo_good HBB.out hfo)
  obtain ⟨nt, hnt⟩ : ∃ n, n = t.length := ⟨_, rfl⟩
  rw [← hnt] at HR2
  rw [← hnt]
  clear hfo hat hb2 hnt
  by_cases hz : c0 = 0
  rotate_left
  · have HZ := Lib.hid hz
    rw [errV_pos hz]
    clear hz
    go_wp2_with (((with_reducible show wpList _ _ _ (Oper.mk none _ _ _ _ _ :: _) _ _); go_must (refine wpList_store_box rfl 27 (.tmp 2) (.tmp 17) rfl w.heap.size (mfRow mf0 (.slice none 0 0)).toArray rfl rfl _ _ HX2.out HMS.out rfl (all_one (mfRow_one _ rfl)) ?_)))
    intro W3 hq3 hb3 _
    have HQ3 := Lib.hid hq3
    have HB3 : Hid (Below w.heap.size w W3) := Lib.hid (HBW2.out.trans hb3)
    clear hq3 hb3
    go_wp2
    refine bodyPost_ret (v := .tuple #[.agg (mfRow mf0 (.slice none 0 0)).toArray, .iface 76 (.int .i64 (c0 : Int))]) (results_row_tmp rfl _ _ w.heap.size _ _ _ _ _ rfl rfl HQ3.out Try.underlying27 rfl HMS.out) rfl ?_
    rw [← errV_pos HZ.out]
    exact mtake_bad HB3.out ⟨t, c0, HFO.out, by rw [if_pos HZ.out]; exact ⟨rfl, rfl⟩⟩
  have HT88 := Lib.hid (HT8.out hz)
  have HNEW := Lib.hid (new_any _ t w2 HR2.out HT88.out.1 (by have := HT88.out.2.1; omega))
  have HFZ : Hid (FO b t 0) := Lib.hid (by rw [← hz]; exact HFO.out)
  rw [hz, errV_zero]
  clear hz HT8
  go_wp2_with fail
  refine HNEW.out.mono ?_
  rintro r w3 ⟨p, rv, rfl, hrd3, hb3, hp3, _⟩
  have HB3 : Hid (Below W1.heap.size W1 w3) := Lib.hid (HB2.out.trans (hb3.mono HB2.out.size))
  have HPW : Hid (W1.heap.size ≤ p) := Lib.hid (Nat.le_trans HB2.out.size hp3)
  obtain ⟨W4, hW4⟩ : ∃ W, W = w3.alloc (.cells (mfRow mf0 (.slice none 0 0)).toArray 27) := ⟨_, rfl⟩
  have hb4 : Below w3.heap.size w3 W4 := by rw [hW4]; exact (Below.refl _ _).alloc (Nat.le_refl _) _
  have hq4 : MB W4 w3.heap.size mf0 (.slice none 0 0) 27 := by rw [hW4]; exact mb_new _ _ _ _
  have HPQ0 := hrd3.lt
  have hrd4 := hrd3.below hb4 (Nat.le_refl _)
  have HB4 : Hid (Below W1.heap.size W1 W4) := Lib.hid (HB3.out.trans (hb4.mono HB3.out.size))
  have HE4 := Lib.hid (within_any hrd4 999999)
  rw [mf0_cells] at hW4
  obtain ⟨q, hq⟩ : ∃ q, q = w3.heap.size := ⟨_, rfl⟩
  rw [← hq] at hq4 HPQ0
  have HPQ := Lib.hid HPQ0
  have HQ4 := Lib.hid hq4
  have HQQ := Lib.hid hq
  have HQG : Hid (W1.heap.size ≤ q) := Lib.hid (by have := HPQ.out; have := HPW.out; omega)
  have HW4 := Lib.hid hW4
  clear hrd3 hb3 hp3 hW4 hb4 hq4 HPQ0 hrd4 hq
  go_wp2_with fail
  rw [← HW4.out, ← HQQ.out]
  refine HE4.out.mono ?_
  rintro r w5 ⟨n1, pl1, c1, rfl, hn1, hrd5, hg5⟩
  obtain ⟨k1, hk1⟩ : ∃ a, a = withinR n1 999999 := ⟨_, rfl⟩
  obtain ⟨d1, hd1⟩ : ∃ a, a = withinC n1 c1 999999 := ⟨_, rfl⟩
  rw [← hd1] at hrd5
  rw [← hk1]
  have HK1 := Lib.hid hk1
  have HD1 := Lib.hid hd1
  have HN1 := Lib.hid hn1
  have hq5 : MB w5 q ⟨0, 0, 0, 0, zero32, []⟩ (.slice none 0 0) 27 := (hg5.block q HQ4.out.lt (fun e => by have := HPQ.out; cases e; omega)).trans HQ4.out
  have HB5 : Hid (Below W1.heap.size W1 w5) := Lib.hid (HB4.out.grown hg5 HB4.out.size fun j hj => by cases hj; exact HPW.out)
  obtain ⟨W6, hW6⟩ : ∃ W, W = w5.setCell ⟨q, 0, none⟩ (.int .i64 (k1 : Int)) := ⟨_, rfl⟩
  have hq6 : MB W6 q ⟨(k1 : Int), 0, 0, 0, zero32, []⟩ (.slice none 0 0) 27 := by rw [hW6]; exact hq5.set0 _
  have hrd6 : Rd W6 p rv t pl1 d1 := by rw [hW6]; exact rd_box hrd5 hq5 ⟨by decide, by decide⟩ (grown_set _ _ _ _)
  have HB6 : Hid (Below W1.heap.size W1 W6) := Lib.hid (by rw [hW6]; exact HB5.out.setCell HQG.out _)
  have HQ6 := Lib.hid hq6
  have HE6 := Lib.hid (within_any hrd6 1048576)
  obtain ⟨x0, x1, x2, x3, _⟩ := hq5.x dg_zero
  have f0 := hq5.fz 0
  have HW6 := Lib.hid hW6
  clear hk1 hd1 hn1 hrd5 hg5 hq5 hW6 hq6 hrd6
  go_wp2_with fail
  rw [← HW6.out]
  clear x0 x1 x2 x3 f0
  refine HE6.out.mono ?_
  rintro r w7 ⟨n2, pl2, c2, rfl, hn2, hrd7, hg7⟩
  obtain ⟨k2, hk2⟩ : ∃ a, a = withinR n2 1048576 := ⟨_, rfl⟩
  obtain ⟨d2, hd2⟩ : ∃ a, a = withinC n2 c2 1048576 := ⟨_, rfl⟩
  rw [← hd2] at hrd7
  rw [← hk2]
  have HK2 := Lib.hid hk2
  have HD2 := Lib.hid hd2
  have HN2 := Lib.hid hn2
  have hq7 : MB w7 q ⟨(k1 : Int), 0, 0, 0, zero32, []⟩ (.slice none 0 0) 27 := (hg7.block q HQ6.out.lt (fun e => by have := HPQ.out; cases e; omega)).trans HQ6.out
  have HB7 : Hid (Below W1.heap.size W1 w7) := Lib.hid (HB6.out.grown hg7 HB6.out.size fun j hj => by cases hj; exact HPW.out)
  obtain ⟨W8, hW8⟩ : ∃ W, W = w7.setCell ⟨q, 1, none⟩ (.int .i64 (k2 : Int)) := ⟨_, rfl⟩
  have hq8 : MB W8 q ⟨(k1 : Int), (k2 : Int), 0, 0, zero32, []⟩ (.slice none 0 0) 27 := by rw [hW8]; exact hq7.set1 _
  have hrd8 : Rd W8 p rv t pl2 d2 := by rw [hW8]; exact rd_box hrd7 hq7 ⟨by decide, by decide⟩ (grown_set _ _ _ _)
  have HB8 : Hid (Below W1.heap.size W1 W8) := Lib.hid (by rw [hW8]; exact HB7.out.setCell HQG.out _)
  have HQ8 := Lib.hid hq8
  have HE8 := Lib.hid (within_any hrd8 1048576)
  obtain ⟨x0, x1, x2, x3, _⟩ := hq7.x dg_zero
  have f0 := hq7.fz 1
  have HW8 := Lib.hid hW8
  clear hk2 hd2 hn2 hrd7 hg7 hq7 hW8 hq8 hrd8
  go_wp2_with fail
  rw [← HW8.out]
  clear x0 x1 x2 x3 f0
  refine HE8.out.mono ?_
  rintro r w9 ⟨n3, pl3, c3, rfl, hn3, hrd9, hg9⟩
  obtain ⟨k3, hk3⟩ : ∃ a, a = withinR n3 1048576 := ⟨_, rfl⟩
  obtain ⟨d3, hd3⟩ : ∃ a, a = withinC n3 c3 1048576 := ⟨_, rfl⟩
  rw [← hd3] at hrd9
  rw [← hk3]
  have HK3 := Lib.hid hk3
  have HD3 := Lib.hid hd3
  have HN3 := Lib.hid hn3
  have hq9 : MB w9 q ⟨(k1 : Int), (k2 : Int), 0, 0, zero32, []⟩ (.slice none 0 0) 27 := (hg9.block q HQ8.out.lt (fun e => by have := HPQ.out; cases e; omega)).trans HQ8.out
  have HB9 : Hid (Below W1.heap.size W1 w9) := Lib.hid (HB8.out.grown hg9 HB8.out.size fun j hj => by cases hj; exact HPW.out)
  obtain ⟨W10, hW10⟩ : ∃ W, W = w9.setCell ⟨q, 2, none⟩ (.int .i64 (k3 : Int)) := ⟨_, rfl⟩
  have hq10 : MB W10 q ⟨(k1 : Int), (k2 : Int), (k3 : Int), 0, zero32, []⟩ (.slice none 0 0) 27 := by rw [hW10]; exact hq9.set2 _
  have hrd10 : Rd W10 p rv t pl3 d3 := by rw [hW10]; exact rd_box hrd9 hq9 ⟨by decide, by decide⟩ (grown_set _ _ _ _)
  have HB10 : Hid (Below W1.heap.size W1 W10) := Lib.hid (by rw [hW10]; exact HB9.out.setCell HQG.out _)
  have HQ10 := Lib.hid hq10
  have HE10 := Lib.hid (within_any hrd10 1048576)
  obtain ⟨x0, x1, x2, x3, _⟩ := hq9.x dg_zero
  have f0 := hq9.fz 2
  have HW10 := Lib.hid hW10
  clear hk3 hd3 hn3 hrd9 hg9 hq9 hW10 hq10 hrd10
  go_wp2_with fail
  rw [← HW10.out]
  clear x0 x1 x2 x3 f0
  refine HE10.out.mono ?_
  rintro r w11 ⟨n4, pl4, c4, rfl, hn4, hrd11, hg11⟩
  obtain ⟨k4, hk4⟩ : ∃ a, a = withinR n4 1048576 := ⟨_, rfl⟩
  obtain ⟨d4, hd4⟩ : ∃ a, a = withinC n4 c4 1048576 := ⟨_, rfl⟩
  rw [← hd4] at hrd11
  rw [← hk4]
  have HK4 := Lib.hid hk4
  have HD4 := Lib.hid hd4
  have HN4 := Lib.hid hn4
  have hq11 : MB w11 q ⟨(k1 : Int), (k2 : Int), (k3 : Int), 0, zero32, []⟩ (.slice none 0 0) 27 := (hg11.block q HQ10.out.lt (fun e => by have := HPQ.out; cases e; omega)).trans HQ10.out
  have HB11 : Hid (Below W1.heap.size W1 w11) := Lib.hid (HB10.out.grown hg11 HB10.out.size fun j hj => by cases hj; exact HPW.out)
  obtain ⟨W12, hW12⟩ : ∃ W, W = w11.setCell ⟨q, 3, none⟩ (.int .i64 (k4 : Int)) := ⟨_, rfl⟩
  have hq12 : MB W12 q ⟨(k1 : Int), (k2 : Int), (k3 : Int), (k4 : Int), zero32, []⟩ (.slice none 0 0) 27 := by rw [hW12]; exact hq11.set3 _
  have hrd12 : Rd W12 p rv t pl4 d4 := by rw [hW12]; exact rd_box hrd11 hq11 ⟨by decide, by decide⟩ (grown_set _ _ _ _)
  have HB12 : Hid (Below W1.heap.size W1 W12) := Lib.hid (by rw [hW12]; exact HB11.out.setCell HQG.out _)
  have HQ12 := Lib.hid hq12
  have HE12 := Lib.hid (takeDigest_any hrd12)
  obtain ⟨x0, x1, x2, x3, _⟩ := hq11.x dg_zero
  have f0 := hq11.fz 3
  have HW12 := Lib.hid hW12
  clear hk4 hd4 hn4 hrd11 hg11 hq11 hW12 hq12 hrd12
  go_wp2_with fail
  rw [← HW12.out]
  clear x0 x1 x2 x3 f0
  refine HE12.out.mono ?_
  rintro r w13 ⟨out, pl5, c5, rfl, hfx, hrd13, hg13⟩
  have hq13 : MB w13 q ⟨(k1 : Int), (k2 : Int), (k3 : Int), (k4 : Int), zero32, []⟩ (.slice none 0 0) 27 := (hg13.block q HQ12.out.lt (fun e => by have := HPQ.out; cases e; omega)).trans HQ12.out
  have HDG : Hid (Dg (dig out)) := Lib.hid (dig_ok hfx (fun y hy => HT88.out.1 y (List.mem_of_mem_drop hy)))
  obtain ⟨D, hD⟩ : ∃ D, D = dig out := ⟨_, rfl⟩
  rw [← hD] at HDG ⊢
  have HDD := Lib.hid hD
  have HFX := Lib.hid hfx
  have HB13 : Hid (Below W1.heap.size W1 w13) := Lib.hid (HB12.out.grown hg13 HB12.out.size fun j hj => by cases hj; exact HPW.out)
  have HQ13 := Lib.hid hq13
  have HRD13 := Lib.hid hrd13
  have HAS : Hid ((Try.prog.info? 24).map (·.size) = some (vals .u8 D).toArray.size) := Lib.hid (by rw [List.size_toArray, vals_length, HDG.out.1]; exact Try.sizeDG)
  have HFT : Hid (4 + (vals .u8 D).toArray.size ≤ (mfRow ⟨(k1 : Int), (k2 : Int), (k3 : Int), (k4 : Int), zero32, []⟩ (.slice none 0 0)).toArray.size) := Lib.hid (by rw [List.size_toArray, vals_length, HDG.out.1, mfRow_size dg_zero]; decide)
  have HPS : Hid (_ = (mfRow ⟨(k1 : Int), (k2 : Int), (k3 : Int), (k4 : Int), D, []⟩ (.slice none 0 0)).toArray) := Lib.hid (mfRow_store (m := ⟨(k1 : Int), (k2 : Int), (k3 : Int), (k4 : Int), zero32, []⟩) (v := .slice none 0 0) (D := D) dg_zero.1 HDG.out.1)
  clear hfx hrd13 hg13 hq13 hD
  go_wp2_with (((with_reducible show wpList _ _ _ (Oper.mk none _ _ _ _ _ :: _) _ _); go_must (refine wpList_store_part rfl 24 (.tmp 35) (.tmp 34) rfl q 4 (vals .u8 D).toArray (mfRow ⟨(k1 : Int), (k2 : Int), (k3 : Int), (k4 : Int), D, []⟩ (.slice none 0 0)).toArray rfl rfl 27 (mfRow ⟨(k1 : Int), (k2 : Int), (k3 : Int), (k4 : Int), zero32, []⟩ (.slice none 0 0)).toArray HQ13.out HAS.out HFT.out (all_one (vals_one8 D)) HPS.out ?_)))
  intro W14 hq14 hg14 hs14
  have hq14 : MB W14 q ⟨(k1 : Int), (k2 : Int), (k3 : Int), (k4 : Int), D, []⟩ (.slice none 0 0) 27 := hq14
  have hrd14 : Rd W14 p rv t pl5 c5 := rd_box HRD13.out HQ13.out ⟨by decide, by decide⟩ hg14
  have HB14 : Hid (Below W1.heap.size W1 W14) := Lib.hid (HB13.out.grown hg14 HB13.out.size fun j hj => by cases hj; exact HQG.out)
  have HQ14 := Lib.hid hq14
  have HTP := Lib.hid (takeParts_any hrd14 (k2 : Int) (by have := HK2.out; have := withinR_le n2 1048576; omega))
  obtain ⟨_, x1, _, _, _⟩ := hq14.x HDG.out
  clear hq14 hrd14 hg14 hs14
  go_wp2_with fail
  clear x1
  refine HTP.out.mono ?_
  rintro r w15 ⟨v15, n6, pl6, c6, ls, pl7, c7, rfl, hn6, htp, hrd15, hg15, hps⟩
  obtain ⟨ps, hpsd⟩ : ∃ ps, ps = if c7 = 0 then mkParts (k2 : Int) ls else [] := ⟨_, rfl⟩
  rw [← hpsd] at hps
  have HPSD := Lib.hid hpsd
  obtain ⟨ao15, cap15, rfl, _, _, _⟩ := hps.val
  obtain ⟨np, hnp⟩ : ∃ n, n = ps.length := ⟨_, rfl⟩
  rw [← hnp] at hps ⊢
  have hq15 : MB w15 q ⟨(k1 : Int), (k2 : Int), (k3 : Int), (k4 : Int), D, []⟩ (.slice none 0 0) 27 := (hg15.block q HQ14.out.lt (fun e => by have := HPQ.out; cases e; omega)).trans HQ14.out
  have HB15 : Hid (Below W1.heap.size W1 w15) := Lib.hid (HB14.out.grown hg15 HB14.out.size fun j hj => by cases hj; exact HPW.out)
  obtain ⟨W16, hW16⟩ : ∃ W, W = w15.setCell ⟨q, 36, none⟩ (.slice ao15 np cap15) := ⟨_, rfl⟩
  have hq16 : MB W16 q ⟨(k1 : Int), (k2 : Int), (k3 : Int), (k4 : Int), D, []⟩ (.slice ao15 np cap15) 27 := by rw [hW16]; exact hq15.set36 HDG.out.1 _
  have hrd16 : Rd W16 p rv t pl7 c7 := by rw [hW16]; exact rd_box hrd15 hq15 ⟨by decide, by decide⟩ (grown_set _ _ _ _)
  have HB16 : Hid (Below W1.heap.size W1 W16) := Lib.hid (by rw [hW16]; exact HB15.out.setCell HQG.out _)
  have HPS16 : Hid (PsAt W16 (fun j => W14.heap.size ≤ j) (.slice ao15 np cap15) ps) := Lib.hid (hps.keep ⟨by rw [hW16]; simp, fun j hj hB => by rw [hW16]; exact heap_setCell_other _ _ _ _ (by have h1 := HQ14.out.lt; show j ≠ q; omega)⟩)
  have HQ16 := Lib.hid hq16
  have HN6 := Lib.hid hn6
  have HTPS := Lib.hid htp
  have HNP := Lib.hid hnp
  have HEN := Lib.hid (end_any hrd16)
  obtain ⟨_, _, _, _, x36⟩ := hq15.x HDG.out
  have f36 := hq15.fz 36
  have HW16 := Lib.hid hW16
  obtain ⟨c9, hc9⟩ : ∃ c9, c9 = endC (t.length - pl7) c7 := ⟨_, rfl⟩
  rw [← hc9] at HEN
  have HC9 : Hid (c9 = endC (t.drop pl7).length c7) := Lib.hid (by rw [hc9, List.length_drop])
  have HTM : Hid (TMan t ⟨(k1 : Int), (k2 : Int), (k3 : Int), (k4 : Int), D, mkParts (k2 : Int) ls⟩ (t.drop pl7) c7) := Lib.hid (by
    rw [HK1.out, HK2.out, HK3.out, HK4.out, HDD.out]
    refine ⟨n1, t.drop pl1, c1, n2, t.drop pl2, c2, n3, t.drop pl3, c3, n4, t.drop pl4, c4, out, t.drop pl5, c5, n6, t.drop pl6, c6, ls, ?_, ?_, ?_, ?_, ?_, HN6.out, ?_, rfl⟩
    · have := HN1.out; rwa [List.drop_zero] at this
    · rw [← HD1.out]; exact HN2.out
    · rw [← HD2.out]; exact HN3.out
    · rw [← HD3.out]; exact HN4.out
    · rw [← HD4.out]; exact HFX.out
    · exact HTPS.out)
  clear hn6 htp hrd15 hg15 hps hpsd hnp hq15 hW16 hq16 hrd16 hc9
  go_wp2_with fail
  rw [← HW16.out]
  clear x36 f36
  refine HEN.out.mono ?_
  rintro r w17 ⟨rfl, nd, rfl⟩
  have hD17 : Below W16.heap.size W16 (W16.drewN nd) := ⟨rfl, rfl, rfl, Nat.le_refl _, fun _ _ => rfl⟩
  obtain ⟨W17, hW17⟩ : ∃ W, W = W16.drewN nd := ⟨_, rfl⟩
  rw [← hW17] at hD17 ⊢
  have HB17 : Hid (Below W1.heap.size W1 W17) := Lib.hid (HB16.out.trans (hD17.mono HB16.out.size))
  have HQ17 := Lib.hid (HQ16.out.old hD17)
  have HX17 := Lib.hid (HX1.out.old HB17.out)
  have HPS17 := Lib.hid (HPS16.out.old hD17)
  have HBW17 : Hid (Below w.heap.size w W17) := Lib.hid (HB1.out.trans (HB17.out.mono HB1.out.size))
  clear hD17 hW17
  by_cases hz2 : c9 = 0
  rotate_left
  · have HZ := Lib.hid hz2
    rw [errV_pos hz2]
    clear hz2
    go_wp2_with (((with_reducible show wpList _ _ _ (Oper.mk none _ _ _ _ _ :: _) _ _); go_must (refine wpList_store_box rfl 27 (.tmp 2) (.tmp 45) rfl w.heap.size (mfRow mf0 (.slice none 0 0)).toArray rfl rfl _ _ HX17.out HMS.out rfl (all_one (mfRow_one _ rfl)) ?_)))
    intro W18 hq18 hb18 _
    have HQ18 := Lib.hid hq18
    have HB18 : Hid (Below w.heap.size w W18) := Lib.hid (HBW17.out.trans hb18)
    clear hq18 hb18
    go_wp2
    refine bodyPost_ret (v := .tuple #[.agg (mfRow mf0 (.slice none 0 0)).toArray, .iface 76 (.int .i64 (c9 : Int))]) (results_row_tmp rfl _ _ w.heap.size _ _ _ _ _ rfl rfl HQ18.out Try.underlying27 rfl HMS.out) rfl ?_
    rw [← errV_pos HZ.out]
    refine mtake_bad HB18.out ⟨t, 0, HFZ.out, ?_⟩
    rw [if_neg (by decide)]
    exact ⟨_, _, _, HTM.out, by rw [← HC9.out, if_pos HZ.out]; exact ⟨rfl, rfl⟩⟩
  have HZ2 : Hid (¬ endC (t.drop pl7).length c7 ≠ 0) := Lib.hid (by rw [← HC9.out, hz2]; simp)
  have HPP : Hid (ps = mkParts (k2 : Int) ls) := Lib.hid (by rw [HPSD.out, if_pos (mf_endC_zero HZ2.out).2])
  have HTMP : Hid (TMan t ⟨(k1 : Int), (k2 : Int), (k3 : Int), (k4 : Int), D, ps⟩ (t.drop pl7) c7) := Lib.hid (by rw [HPP.out]; exact HTM.out)
  have HMS2 : Hid ((Try.prog.info? 27).map (·.size) = some (mfRow ⟨(k1 : Int), (k2 : Int), (k3 : Int), (k4 : Int), D, ps⟩ (.slice ao15 np cap15)).toArray.size) := Lib.hid (by rw [mfRow_size HDG.out]; exact Try.sizeMF)
  have hck := mcheck_any ⟨(k1 : Int), (k2 : Int), (k3 : Int), (k4 : Int), D, ps⟩ (.slice ao15 np cap15) W17 _ HPS17.out HDG.out
  have hq17 : MB W17 q ⟨(k1 : Int), (k2 : Int), (k3 : Int), (k4 : Int), D, ps⟩ (.slice ao15 np cap15) 27 := HQ17.out
  obtain ⟨M, hM⟩ : ∃ M : MF, M = ⟨(k1 : Int), (k2 : Int), (k3 : Int), (k4 : Int), D, ps⟩ := ⟨_, rfl⟩
  rw [← hM] at HTMP HMS2 hck hq17
  have HPSM : Hid (PsAt W17 (fun j => W14.heap.size ≤ j) (.slice ao15 np cap15) M.ps) := Lib.hid (by rw [hM]; exact HPS17.out)
  have HDM : Hid (Dg M.prev) := Lib.hid (by rw [hM]; exact HDG.out)
  obtain ⟨c10, hc10⟩ : ∃ x, x = mchk M := ⟨_, rfl⟩
  rw [← hc10] at hck
  have HC10 := Lib.hid hc10
  have HCK := Lib.hid hck
  have HQM := Lib.hid hq17
  have HQLT : Hid (W1.heap.size ≤ W14.heap.size) := Lib.hid HB14.out.size
  rw [hz2, errV_zero]
  clear hz2 hck hq17 hM hc10
  go_wp2_with (((with_reducible show wpList _ _ _ (Oper.mk (some 47) _ _ _ _ _ :: _) _ _); go_must (refine wpList_load_row rfl 27 (.tmp 7) rfl q rfl _ (mfRow M (.slice ao15 np cap15)).toArray _ _ HQM.out Try.underlying27 rfl HMS2.out ?_)))
  refine HCK.out.mono ?_
  rintro r w18 ⟨rfl, hb18⟩
  have HQ18 := Lib.hid (HQM.out.old hb18)
  have HB18 : Hid (Below W1.heap.size W1 w18) := Lib.hid (HB17.out.trans (hb18.mono HB17.out.size))
  have HX18 := Lib.hid (HX1.out.old HB18.out)
  have HPS18 := Lib.hid (HPSM.out.old hb18)
  have HBW18 : Hid (Below w.heap.size w w18) := Lib.hid (HB1.out.trans (HB18.out.mono HB1.out.size))
  clear hb18
  by_cases hz3 : c10 = 0
  rotate_left
  · have HZ := Lib.hid hz3
    rw [errV_pos hz3]
    clear hz3
    go_wp2_with (((with_reducible show wpList _ _ _ (Oper.mk none _ _ _ _ _ :: _) _ _); go_must (refine wpList_store_box rfl 27 (.tmp 2) (.tmp 51) rfl w.heap.size (mfRow mf0 (.slice none 0 0)).toArray rfl rfl _ _ HX18.out HMS.out rfl (all_one (mfRow_one _ rfl)) ?_)))
    intro W19 hq19 hb19 _
    have HQ19 := Lib.hid hq19
    have HB19 : Hid (Below w.heap.size w W19) := Lib.hid (HBW18.out.trans hb19)
    clear hq19 hb19
    go_wp2
    refine bodyPost_ret (v := .tuple #[.agg (mfRow mf0 (.slice none 0 0)).toArray, .iface 76 (.int .i64 (c10 : Int))]) (results_row_tmp rfl _ _ w.heap.size _ _ _ _ _ rfl rfl HQ19.out Try.underlying27 rfl HMS.out) rfl ?_
    rw [← errV_pos HZ.out]
    refine mtake_bad HB19.out ⟨t, 0, HFZ.out, ?_⟩
    rw [if_neg (by decide)]
    refine ⟨_, _, _, HTMP.out, ?_⟩
    rw [if_neg HZ2.out]
    exact ⟨HC10.out, by rw [if_neg HZ.out]⟩
  have HZ3 := Lib.hid hz3
  have HSZ2 : Hid ((mfRow mf0 (.slice none 0 0)).toArray.size = (mfRow M (.slice ao15 np cap15)).toArray.size) := Lib.hid (by rw [mfRow_size dg_zero, mfRow_size HDM.out])
  rw [hz3, errV_zero]
  clear hz3
  go_wp2_with (first
    | ((with_reducible show wpList _ _ _ (Oper.mk (some 53) _ _ _ _ _ :: _) _ _); go_must (refine wpList_load_row rfl 27 (.tmp 7) rfl q rfl _ (mfRow M (.slice ao15 np cap15)).toArray _ _ HQ18.out Try.underlying27 rfl HMS2.out ?_))
    | ((with_reducible show wpList _ _ _ (Oper.mk none _ _ _ _ _ :: _) _ _); go_must (refine wpList_store_box rfl 27 (.tmp 2) (.tmp 53) rfl w.heap.size (mfRow M (.slice ao15 np cap15)).toArray rfl rfl _ _ HX18.out HMS2.out HSZ2.out (all_one (mfRow_one _ rfl)) ?_)))
  intro W19 hq19 hb19 ho19
  have HQ19 := Lib.hid hq19
  have HB19 : Hid (Below w.heap.size w W19) := Lib.hid (HBW18.out.trans hb19)
  have HPS19 : Hid (PsAt W19 (fun j => w.heap.size ≤ j) (.slice ao15 np cap15) M.ps) := Lib.hid ((HPS18.out.keep ⟨hb19.size, fun j hj hB => ho19 j (by have := HQLT.out; have := HX1.out.lt; have := HB1.out.size; omega)⟩).mono fun j _ hB => by have := HQLT.out; have := HB1.out.size; omega)
  clear hq19 hb19 ho19
  go_wp2
  refine bodyPost_ret (v := .tuple #[.agg (mfRow M (.slice ao15 np cap15)).toArray, .nilIface]) (results_row_tmp rfl _ _ w.heap.size _ _ _ _ _ rfl rfl HQ19.out Try.underlying27 rfl HMS2.out) rfl ?_
  refine ⟨HB19.out, M, 0, _, ⟨t, 0, HFZ.out, ?_⟩, by rw [errV_zero], HPS19.out⟩
  rw [if_neg (by decide)]
  refine ⟨_, _, _, HTMP.out, ?_⟩
  rw [if_neg HZ2.out, ← HC10.out, HZ3.out]
  exact ⟨rfl, by rw [if_pos rfl]⟩

end Go.Proofs.Ytpebmmhokigglaa
