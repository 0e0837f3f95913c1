/- The document's disk: Names, Cut. -/
import Derived.Test.YtjgdbhmogdaggaaRfH
namespace Go.Proofs.Ytjgdbhmogdaggaa
open Go.RowKit

/-- An owned row of names, by records of one cell. -/
theorem nms_rec {w : World} {base : Nat} {v : Value} {ns : List Nm} (h : RecOwn w base 9 1 v (ns.map fun x => [nmV x])) : NmsO w base v ns := by
  have h2 := h.2
  rw [List.length_map] at h2
  have e : ∀ ns : List Nm, (ns.map fun x => [nmV x]).flatten = ns.map nmV := fun ns => by
    induction ns with
    | nil => rfl
    | cons x r ih => simp [ih]
  rw [e] at h2
  exact h2
theorem Try.infoStr : (Try.prog.info? 9).map (fun i => (i.zero, i.size, i.bytes)) = some (some (.string { data := #[] }), 1, 16) := by kernel_rfl

/-- A row of names that a loop makes: its block is g0, or newer than w3. -/
structure OutS (base g0 : Nat) (w3 w : World) (v : Value) (l : List Nm) : Prop where
  own : RecOwn w base 9 1 v (l.map fun x => [nmV x])
  blk : ∀ j, v.ownBlock = some j → j = g0 ∨ w3.heap.size ≤ j
  fr : Fr (fun j => j = g0) w3 w
theorem OutS.old {base g0 : Nat} {w3 w w' : World} {v : Value} {l : List Nm} (h : OutS base g0 w3 w v l) (hb : Below w.heap.size w w') : OutS base g0 w3 w' v l :=
  ⟨h.own.keep fun j hj => hb.block j (h.own.block hj).2.1, h.blk, h.fr.trans (fr_below hb (fun _ => False)) (fun _ _ h => h) fun _ _ h => h.elim⟩
theorem OutS.val {base g0 : Nat} {w3 w : World} {v : Value} {l : List Nm} (h : OutS base g0 w3 w v l) : ∃ ao cap, v = .slice ao l.length cap := by
  obtain ⟨ao, cap, hv, _⟩ := h.own.val
  rw [List.length_map] at hv
  exact ⟨ao, cap, hv⟩
theorem wpList_appS (w : World) {ops : Array Oper} {rest : List Oper} {o : Oper} {a : Act} {Q : Exit → Act → World → Prop} (hgd : o.guard = none) (s x : Operand)
    (ho : o.op = .call { callee := .builtin .append, args := #[s, x], argTypes := #[62, 62] })
    (base g0 : Nat) (w3 : World) (v : Value) (l : List Nm) (hs : a.eval s = v) (W : World) (f : Nm) (hW : w = W.alloc (.cells #[nmV f] 9)) (hown : OutS base g0 w3 W v l)
    (hx : a.eval x = .slice (some ⟨W.heap.size, 0, none⟩) 1 1) (hlen : l.length ≤ 1000000) (hbase : base ≤ w3.heap.size)
    (h : ∀ v' w', OutS base g0 w3 w' v' (l ++ [f]) → wpList Try.prog ops Q rest (a.put o.dst v') w') : wpList Try.prog ops Q (o :: rest) a w := by
  subst hW
  refine wpList_appRec _ hgd s x 62 ho base 9 _ 1 16 Try.underlying62 Try.infoStr rfl (by decide) v (l.map fun x => [nmV x]) hs (RecOwn.keep hown.own fun j hj => Below.heap_alloc _ _ _ (RecOwn.block hown.own hj).2.1) [nmV f] rfl (by simp [Value.oneCell', nmV]) ⟨W.heap.size, 0, none⟩ hx (rec_cell W [nmV f] _) (by rw [List.length_map]; simp only [maxLen]; omega) (by rw [List.length_map]; omega) (by have := hown.fr.size; simp; omega) ?_
  intro v' w' ho' hg' hloc
  have hal : Below W.heap.size W (W.alloc (.cells #[nmV f] 9)) := (Below.refl _ _).alloc (Nat.le_refl _) _
  have hsz := hown.fr.size
  refine h v' w' ⟨by rw [List.map_append]; exact ho', fun j hj => ?_, ?_⟩
  · rcases hloc with e | e
    · exact hown.blk j (e ▸ hj)
    · rw [e] at hj
      cases hj
      have := hal.size
      exact .inr (by simp; omega)
  · refine (hown.fr.trans (fr_below hal (fun _ => False)) (U := fun j => j = g0) (fun _ _ h => h) fun _ _ h => h.elim).trans (fr_grown hg') (fun _ _ h => h) fun j hj e => ?_
    rcases hown.blk j e.symm with h1 | h1
    · exact h1
    · omega

def rnames (d : DS) : List Nm × Nat := if d.down = true then ([], 14) else (d.shown.map (·.1), 0)

set_option maxHeartbeats 2000000 in
set_option maxRecDepth 100000 in
theorem rnames_any {w : World} {B : Nat → Prop} {d : DS} {sv cv : Value} (h : Doc w B d sv cv) (hsz : d.sz ≤ 600000) :
    Calls Try.prog 59 #[docV d sv cv] w fun e w' => ∃ v, e = .returned (.tuple #[v, .int .i64 ((rnames d).2 : Int)]) ∧ NmsO w' w.heap.size v (rnames d).1 ∧ Below w.heap.size w w' := by
  obtain ⟨⟨aos, caps, rfl⟩, aoc, capc, rfl⟩ := h.val
  have HBX := Lib.hid (b1_new w d (.slice aos d.sure.length caps) (.slice aoc d.chs.length capc))
  obtain ⟨W1, hW1⟩ : ∃ W1, W1 = w.alloc (.cells #[.int .i64 (d.room : Int), .slice aos d.sure.length caps, .slice aoc d.chs.length capc, .int .i64 d.fuse, .bool d.down] 33) := ⟨_, rfl⟩
  rw [← hW1] at HBX
  obtain ⟨W2, hW2⟩ : ∃ W2, W2 = W1.alloc (.cells #[] 9) := ⟨_, rfl⟩
  have hb2 : Below W1.heap.size W1 W2 := by rw [hW2]; exact (Below.refl _ _).alloc (Nat.le_refl _) _
  have HSO := Lib.hid (rshown_any (((h.mono (C := fun j => j < w.heap.size) fun _ hj _ => hj).old HBX.out.below).old hb2) (Nat.le_trans hsz (by decide)))
  have HB2 : Hid (Below w.heap.size w W2) := Lib.hid (HBX.out.below.trans (hb2.mono HBX.out.below.size))
  have hl1 : w.heap.size < W1.heap.size := (Array.getElem?_eq_some_iff.1 HBX.out.box).1
  have HX2 : Hid (W2.heap[w.heap.size]? = W1.heap[w.heap.size]?) := Lib.hid (hb2.block _ hl1)
  have HO0 : Hid (RecOwn W2 w.heap.size 9 1 (.slice (some ⟨W1.heap.size, 0, none⟩) 0 0) []) := Lib.hid (by rw [hW2]; exact recOwn_empty _ _ _ _ (Nat.le_of_lt hl1))
  have HW1S : Hid (W1.heap.size = w.heap.size + 1 ∧ W2.heap.size = w.heap.size + 1 + 1) := Lib.hid (by rw [hW2, hW1]; simp)
  have HSL : Hid (d.shown.length ≤ 600000) := Lib.hid (Nat.le_trans (lenShown d) hsz)
  unfold docV at HSO ⊢
  have HW1 := Lib.hid hW1
  have HW2 := Lib.hid hW2
  clear h hsz hW1 hW2 hb2 hl1
  cases hd : d.down
  · have HE : Hid (rnames d = (d.shown.map (·.1), 0)) := Lib.hid (by unfold rnames; rw [if_neg (by rw [hd]; decide)])
    rw [hd] at HW1 HSO
    obtain ⟨q0, q1, q2, q3, q4⟩ := (⟨HB2.out, HX2.out.trans HBX.out.box⟩ : B1 w W2 d _ _).c
    obtain ⟨p0, p1, p2, p3, p4⟩ := HBX.out.c
    rw [hd] at q4 p4
    have qn : ∀ o, (W1.alloc o).cell? ⟨w.heap.size, 0, none⟩ = some (.int .i64 (d.room : Int)) := fun o => (World.cell?_of_block (Below.heap_alloc _ _ _ (by have := HW1S.out.1; show w.heap.size < W1.heap.size; omega))).trans p0
    clear hd
    obtain ⟨ns, hns⟩ : ∃ ns, ns = d.shown.map (·.1) := ⟨_, rfl⟩
    have HNL : Hid (ns.length = d.shown.length) := Lib.hid (by rw [hns, List.length_map])
    have HNS := Lib.hid hns
    clear hns
    rw [HE.out]
    go_enter Try.func59, Try.ntmps59
    go_wp2_with fail
    rw [← HW1.out, ← HW2.out]
    refine HSO.out.mono ?_
    rintro e w3 ⟨lv, rfl, hfs, hb3⟩
    obtain ⟨lo, lc, rfl, _⟩ := hfs.val
    have HFS := Lib.hid hfs
    have HB3 := Lib.hid hb3
    obtain ⟨g0, hg0⟩ : ∃ g0, g0 = w.heap.size + 1 := ⟨_, rfl⟩
    have HG : Hid (W1.heap.size = g0 ∧ w.heap.size < g0 ∧ g0 < w3.heap.size) := Lib.hid (by have := HW1S.out; have := hb3.size; omega)
    rw [← hg0]
    clear hfs hb3 hg0 q0 q1 q2 q3 q4 p0 p1 p2 p3 p4 qn
    have hOut : OutS w.heap.size g0 w3 w3 (.slice (some ⟨g0, 0, none⟩) 0 0) [] := ⟨by
      have h1 := HO0.out.keep fun j hj => HB3.out.block j (HO0.out.block hj).2.1
      rw [HG.out.1] at h1
      exact h1, fun j hj => (by cases hj; exact .inl rfl), Fr.refl _ _⟩
    have HOU := Lib.hid hOut
    have HNE : Hid (∀ j, j < w3.heap.size → (j < w.heap.size ∨ W2.heap.size ≤ j) → j ≠ g0) := Lib.hid fun j hj h => by have := HW1S.out; have := HG.out; omega
    clear hOut
    go_wp2
    go_loopw [4, 13] (fun ov i wr => ∃ k : Nat, k ≤ d.shown.length ∧ i = .int .i64 (k : Int) ∧ OutS w.heap.size g0 w3 wr ov (ns.take k))
      (fun _ i _ => d.shown.length - (intOf i).toNat)
    case atStart => exact ⟨0, Nat.zero_le _, rfl, HOU.out⟩
    case round =>
      obtain ⟨k, hk, rfl, ho⟩ := hrel
      obtain ⟨oo, oc, rfl⟩ := ho.val
      have HO := Lib.hid ho
      by_cases hlt : k < d.shown.length
      · obtain ⟨x, hx⟩ : ∃ x, d.shown[k]? = some x := ⟨_, List.getElem?_eq_getElem hlt⟩
        obtain ⟨b, off, rfl, _, e0, e1⟩ := (HFS.out.keep (ho.fr.kept _ fun j hj hB e => HNE.out j hj hB e)).at hx
        have hlti : (k : Int) < d.shown.length := by omega
        have HK := Lib.hid hlt
        have HSN : Hid (ns.take (k + 1) = ns.take k ++ [x.1]) := Lib.hid (take_snoc (by rw [HNS.out, List.getElem?_map, hx]; rfl))
        have HLN : Hid ((ns.take k).length ≤ 1000000) := Lib.hid (by rw [List.length_take, HNL.out]; have := HSL.out; omega)
        obtain ⟨sx, hsx⟩ : ∃ s, s = txt x.2 := ⟨_, rfl⟩
        obtain ⟨sn, hsn⟩ : ∃ s, Value.string s = nmV x.1 := ⟨_, rfl⟩
        rw [← hsx] at e1
        rw [← hsn] at e0
        obtain ⟨W4, hW4⟩ : ∃ W4, W4 = wr.alloc (.cells #[.string sn, .string sx] 107) := ⟨_, rfl⟩
        have HO4 : Hid (OutS w.heap.size g0 w3 W4 (.slice oo (ns.take k).length oc) (ns.take k)) := Lib.hid (by rw [hW4]; exact ho.old ((Below.refl _ _).alloc (Nat.le_refl _) _))
        have HW4 := Lib.hid hW4
        have HS4 : Hid (W4.heap.size = wr.heap.size + 1) := Lib.hid (by rw [hW4]; simp)
        have HSN2 := Lib.hid hsn
        clear ho hx hsx hsn hW4
        go_wp2_with (at_builtin; rw [← HW4.out]; go_must (refine wpList_appS _ rfl _ _ rfl w.heap.size g0 w3 _ _ rfl W4 x.1 (by rw [← HSN2.out]) HO4.out (by rw [HS4.out]; rfl) HLN.out (Nat.le_of_lt (Nat.lt_trans HG.out.2.1 HG.out.2.2)) ?_))
        intro v5 w5 ho5
        rw [← HSN.out] at ho5
        have HO5 := Lib.hid ho5
        clear ho5
        go_wp2
        go_roundw
        case rel => exact ⟨k + 1, HK.out, (by first | exact inc_eq HK.out (Nat.le_trans HSL.out (by decide)) | rfl), HO5.out⟩
        case measure => first | exact inc_meas HK.out (Nat.le_trans HSL.out (by decide)) | (have := HK.out; simp [intOf]; omega)
      · obtain rfl : k = d.shown.length := by omega
        clear ho
        go_wp2
        go_ret2
        refine ⟨_, rfl, ?_, HB2.out.trans ((HB3.out.mono HB2.out.size).trans (HO.out.fr.below (Nat.le_of_lt (Nat.lt_trans HG.out.2.1 HG.out.2.2)) fun j hj e => by have := HG.out; omega))⟩
        have h := HO.out.own
        rw [← HNL.out, List.take_length] at h
        have h2 := nms_rec h
        rw [← HNL.out, List.take_length, ← HNS.out]
        exact h2
  · have HE : Hid (rnames d = ([], 14)) := Lib.hid (by unfold rnames; rw [if_pos hd])
    rw [hd] at HW1
    clear hd
    rw [HE.out]
    go_enter Try.func59, Try.ntmps59
    go_wp2
    go_ret2
    exact ⟨_, rfl, nms_nil _ _, (Below.refl _ _).alloc (Nat.le_refl _) _⟩

end Go.Proofs.Ytjgdbhmogdaggaa
