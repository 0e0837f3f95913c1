/- The document's files: with, Apply, Shown, Used. -/
import Derived.Test.YtmjpckodcafjiaaGreatRfA
namespace Go.Proofs.YtmjpckodcafjiaaGreat
open Go.RowKit

/-! ### with -/
/-- What stands in the row behind k files of r: the file is put, or not yet. -/
def Upt (r : Fm (List Nat)) (n : Nm) (t : List Nat) (k : Nat) (put : Bool) (out : Fm (List Nat)) : Prop :=
  out ++ (if put then r.drop k else fins n t (r.drop k)) = fins n t r
theorem Upt.len {r : Fm (List Nat)} {n : Nm} {t : List Nat} {k : Nat} {put : Bool} {out : Fm (List Nat)} (h : Upt r n t k put out) : out.length ≤ r.length + 1 := by
  have := congrArg List.length h
  rw [List.length_append, fins_length] at this
  omega
theorem drop_at {r : Fm (List Nat)} {k : Nat} {x : Nm × List Nat} (hx : r[k]? = some x) : r.drop k = x :: r.drop (k + 1) := by
  have hk := List.getElem?_eq_some_iff.1 hx
  rw [← hk.2, List.getElem_cons_drop]
theorem Upt.yes {r : Fm (List Nat)} {n : Nm} {t : List Nat} {k : Nat} {out : Fm (List Nat)} {x : Nm × List Nat} (h : Upt r n t k true out) (hx : r[k]? = some x) : Upt r n t (k + 1) true (out ++ [x]) := by
  unfold Upt at h ⊢
  rw [if_pos rfl] at h ⊢
  rw [← h, drop_at hx]
  simp
theorem Upt.now {r : Fm (List Nat)} {n : Nm} {t : List Nat} {k : Nat} {out : Fm (List Nat)} {x : Nm × List Nat} (h : Upt r n t k false out) (hx : r[k]? = some x) (hb : bytesBefore n x.1 = true) : Upt r n t (k + 1) true (out ++ [(n, t)] ++ [x]) := by
  unfold Upt at h ⊢
  rw [if_pos rfl]
  rw [if_neg (by simp), drop_at hx] at h
  rw [← h, fins, if_pos hb]
  simp
theorem Upt.later {r : Fm (List Nat)} {n : Nm} {t : List Nat} {k : Nat} {out : Fm (List Nat)} {x : Nm × List Nat} (h : Upt r n t k false out) (hx : r[k]? = some x) (hb : bytesBefore n x.1 = false) : Upt r n t (k + 1) false (out ++ [x]) := by
  unfold Upt at h ⊢
  rw [if_neg (by simp)] at h ⊢
  rw [drop_at hx] at h
  rw [← h, fins, if_neg (by rw [hb]; simp)]
  simp
theorem bytesLess_nm (x n : Nm) (h : (x == n) = false) : Op.bytesLess x n = !bytesBefore n x := by
  rw [bytesLess_eq]
  show decide (x < n) = _
  rw [← before_lt]
  have hne : x ≠ n := by simpa using h
  rcases WideAt.bytes_total x n hne with h3 | h3
  · rw [h3]
    cases h4 : bytesBefore n x
    · rfl
    · have := WideShapes.bytes_trans _ _ _ h3 h4
      rw [WideAt.bytes_irrefl] at this
      cases this
  · rw [h3]
    cases h4 : bytesBefore x n
    · rfl
    · have := WideShapes.bytes_trans _ _ _ h3 h4
      rw [WideAt.bytes_irrefl] at this
      cases this

/-- A row of files that a loop makes: its block is g0, or newer than w3; nothing else of w3 is written. -/
structure OutR (base g0 : Nat) (w3 w : World) (v : Value) (l : Fm (List Nat)) : Prop where
  own : FsOwn w base v l
  blk : ∀ j, v.ownBlock = some j → j = g0 ∨ w3.heap.size ≤ j
  fr : Fr (fun j => j = g0) w3 w
theorem OutR.old {base g0 : Nat} {w3 w w' : World} {v : Value} {l : Fm (List Nat)} (h : OutR base g0 w3 w v l) (hb : Below w.heap.size w w') : OutR base g0 w3 w' v l :=
  ⟨h.own.below hb, h.blk, h.fr.trans (fr_below hb (fun _ => False)) (fun _ _ h => h) fun _ _ h => h.elim⟩
theorem wpList_appO (w : World) {ops : Array Oper} {rest : List Oper} {o : Oper} {a : Act} {Q : Exit → Act → World → Prop} (hgd : o.guard = none) (s x : Operand)
    (ho : o.op = .call { callee := .builtin .append, args := #[s, x], argTypes := #[30, 30] })
    (base g0 : Nat) (w3 : World) (v : Value) (l : Fm (List Nat)) (hs : a.eval s = v) (W : World) (f : Nm × List Nat) (hW : w = W.alloc (.cells #[nmV f.1, .string (txt f.2)] 102)) (hown : OutR base g0 w3 W v l)
    (hx : a.eval x = .slice (some ⟨W.heap.size, 0, none⟩) 1 1) (hlen : l.length ≤ 1000000) (hbase : base ≤ w3.heap.size)
    (h : ∀ v' w', OutR base g0 w3 w' v' (l ++ [f]) → (∀ j, j < W.heap.size → v.ownBlock ≠ some j → w'.heap[j]? = W.heap[j]?) → W.heap.size ≤ w'.heap.size → wpList Tryz.prog ops Q rest (a.put o.dst v') w') : wpList Tryz.prog ops Q (o :: rest) a w := by
  subst hW
  refine wpList_appRec _ hgd s x 30 ho base 102 _ 2 32 Tryz.underlying30 Tryz.infoRF rfl (by decide) v (l.map fR) hs (RecOwn.keep hown.own fun j hj => Below.heap_alloc _ _ _ (RecOwn.block hown.own hj).2.1) [nmV f.1, .string (txt f.2)] rfl (by simp [Value.oneCell', nmV]) ⟨W.heap.size, 0, none⟩ hx (rec_cell W [nmV f.1, .string (txt f.2)] _) (by rw [List.length_map]; simp only [maxLen]; omega) (by rw [List.length_map]; omega) (by have := hown.fr.size; simp; omega) ?_
  intro v' w' ho' hg' hloc
  have hal : Below W.heap.size W (W.alloc (.cells #[nmV f.1, .string (txt f.2)] 102)) := (Below.refl _ _).alloc (Nat.le_refl _) _
  have hsz := hown.fr.size
  have hk : ∀ j, j < W.heap.size → v.ownBlock ≠ some j → w'.heap[j]? = W.heap[j]? := fun j hj hne => (hg'.block j (Nat.lt_of_lt_of_le hj hal.size) (Ne.symm hne)).trans (hal.block j hj)
  refine h v' w' ⟨by unfold FsOwn; rw [List.map_append]; exact ho', fun j hj => ?_, ?_⟩ hk (Nat.le_trans hal.size hg'.size)
  · rcases hloc with e | e
    · exact hown.blk j (e ▸ hj)
    · rw [e] at hj
      cases hj
      have := hal.size
      exact .inr (by simp; omega)
  · refine (hown.fr.trans (fr_below hal (fun _ => False)) (U := fun j => j = g0) (fun _ _ h => h) fun _ _ h => h.elim).trans (fr_grown hg') (fun _ _ h => h) fun j hj e => ?_
    rcases hown.blk j e.symm with h1 | h1
    · exact h1
    · omega

set_option maxHeartbeats 2000000 in
set_option maxRecDepth 100000 in
theorem rwith_any {w : World} {B : Nat → Prop} {v : Value} {l : Fm (List Nat)} (h : FsAt w B v l) (n : Nm) (t : List Nat) (hsz : l.length ≤ 900000) :
    Calls Tryz.prog 81 #[v, .agg #[nmV n, .string (txt t)]] w fun e w' => ∃ v', e = .returned v' ∧ FsOwn w' w.heap.size v' (fput l n t) ∧ Below w.heap.size w w' := by
  obtain ⟨ao, cap, rfl, hl⟩ := h.val
  obtain ⟨s2, hs2⟩ : ∃ s : ByteArray, s = txt t := ⟨_, rfl⟩
  obtain ⟨W1, hW1⟩ : ∃ W1, W1 = w.alloc (.cells #[nmV n, .string (txt t)] 102) := ⟨_, rfl⟩
  have hb1 : Below w.heap.size w W1 := by rw [hW1]; exact (Below.refl _ _).alloc (Nat.le_refl _) _
  have hx1 : W1.heap[w.heap.size]? = some (.cells #[nmV n, .string (txt t)] 102 (0, 0)) := by rw [hW1]; exact heap_alloc_new _ _
  have HX1 := Lib.hid hx1
  have HB1 := Lib.hid hb1
  have HDL : Hid ((fdel l n).length ≤ 900000) := Lib.hid (Nat.le_trans (fdel_length _ _) hsz)
  have HR : Hid (fput l n t = fins n t (fdel l n)) := Lib.hid rfl
  rw [← hs2] at hW1 ⊢
  have HS2 := Lib.hid hs2
  have HW1 := Lib.hid hW1
  have h1 := h
  clear h hs2 hW1 hx1
  unfold nmV at HW1 ⊢
  go_enter Tryz.func81, Tryz.ntmps81
  go_wp2_with fail
  rw [← HW1.out]
  have hb2 : Below W1.heap.size W1 (W1.alloc (.cells #[] 102)) := (Below.refl _ _).alloc (Nat.le_refl _) _
  have hp0 : w.heap.size < W1.heap.size := (Array.getElem?_eq_some_iff.1 HX1.out).1
  have hcA : (W1.alloc (.cells #[] 102)).cell? ⟨w.heap.size, 0, none⟩ = some (.string ⟨n.toArray⟩) := by
    rw [World.cell?_of_block (hb2.block _ hp0), cell_of_row _ _ 0 _ _ _ HX1.out]; rfl
  have HC2 := Lib.hid (rwithout_any ((h1.old hb1).old hb2) n (Nat.le_trans hsz (by decide)))
  have HO0 : Hid (FsOwn (W1.alloc (.cells #[] 102)) W1.heap.size (.slice (some ⟨W1.heap.size, 0, none⟩) 0 0) []) := Lib.hid (recOwn_empty _ _ _ _ (Nat.le_refl _))
  obtain ⟨W2, hW2⟩ : ∃ W2, W2 = W1.alloc (.cells #[] 102) := ⟨_, rfl⟩
  rw [← hW2] at hb2 hcA HC2 HO0
  have HB2 : Hid (Below w.heap.size w W2) := Lib.hid (hb1.trans (hb2.mono hb1.size))
  have HBB := Lib.hid hb2
  have HP0 := Lib.hid hp0
  have HW2 := Lib.hid hW2
  clear h1 hb1 hb2 hW2 hsz hp0
  rw [← HW2.out]
  refine HC2.out.mono ?_
  rintro e w3 ⟨rv, rfl, hor, hb3⟩
  obtain ⟨r, hr⟩ : ∃ r, r = fdel l n := ⟨_, rfl⟩
  have hne : ∀ x ∈ r, (x.1 == n) = false := fun x hx => by
    rw [hr] at hx
    simpa using fdel_ne hx
  rw [← hr] at hor
  have hrl : r.length ≤ 900000 := by rw [hr]; exact HDL.out
  obtain ⟨g0, hg0⟩ : ∃ g0, g0 = w.heap.size + 1 := ⟨_, rfl⟩
  have hg1 : W1.heap.size = g0 := by rw [hg0, HW1.out]; simp
  have hg2 : W2.heap.size = g0 + 1 := by rw [HW2.out]; simp [hg1]
  have hOut : OutR w.heap.size g0 w3 w3 (.slice (some ⟨g0, 0, none⟩) 0 0) [] := ⟨by
      have h1 := HO0.out.below hb3
      rw [hg1] at h1
      exact RecOwn.mono h1 (by omega), fun j hj => by cases hj; exact .inl rfl, Fr.refl _ _⟩
  have hA : FsAt w3 (fun j => g0 < j) rv r := hor.at'.mono fun j _ hj => by omega
  have hbx : w3.heap[w.heap.size]? = some (.cells #[.string ⟨n.toArray⟩, .string (txt t)] 102 (0, 0)) := by
    rw [hb3.block _ (by rw [hg2, hg0]; omega), HBB.out.block _ HP0.out]
    exact HX1.out
  obtain ⟨ao2, cap2, rfl⟩ := hor.val
  have HNE := Lib.hid hne
  have HRL := Lib.hid hrl
  have HA := Lib.hid hA
  have HBX := Lib.hid hbx
  have HR2 : Hid (fput l n t = fins n t r) := Lib.hid (by rw [HR.out, hr])
  have HB3 : Hid (Below w.heap.size w w3) := Lib.hid (HB2.out.trans (hb3.mono HB2.out.size))
  have HG : Hid (w.heap.size < g0 ∧ g0 < w3.heap.size) := Lib.hid (by have := hb3.size; omega)
  rw [← hg0]
  have HOU := Lib.hid hOut
  clear hor hb3 hr hne hrl hg0 hg1 hg2 hA hbx hOut HO0 HC2 HR HW1 HW2 HX1 HB1 HB2 HBB HDL HP0 hcA
  go_wp2
  go_loopw [5, 6, 15] (fun ov pv i wr => ∃ (k : Nat) (put : Bool) (out : Fm (List Nat)), k ≤ r.length ∧ i = .int .i64 (k : Int) ∧ pv = .bool put ∧ Upt r n t k put out ∧ OutR w.heap.size g0 w3 wr ov out)
    (fun _ _ i _ => r.length - (intOf i).toNat)
  case atStart => exact ⟨0, false, [], Nat.zero_le _, rfl, rfl, by unfold Upt; simp, HOU.out⟩
  case round =>
    obtain ⟨k, put, out, hk, rfl, rfl, hu, ho⟩ := hrel
    have HU := Lib.hid hu
    have HO := Lib.hid ho
    have HBW : Hid (wr.heap[w.heap.size]? = some (.cells #[.string ⟨n.toArray⟩, .string (txt t)] 102 (0, 0))) := Lib.hid ((ho.fr.block _ (Nat.lt_trans HG.out.1 HG.out.2) (Nat.ne_of_lt HG.out.1)).trans HBX.out)
    have HLN : Hid (out.length ≤ 900001) := Lib.hid (by have := hu.len; have := HRL.out; omega)
    have HPW : Hid (w.heap.size < wr.heap.size) := Lib.hid (Array.getElem?_eq_some_iff.1 HBW.out).1
    obtain ⟨oo, oc, rfl⟩ := ho.own.val
    have HOB : Hid (∀ j, (Value.slice oo out.length oc).ownBlock = some j → j < wr.heap.size ∧ j ≠ w.heap.size) := Lib.hid fun j hj => ⟨(RecOwn.block ho.own hj).2.1, by
      rcases ho.blk j hj with h1 | h1
      · have := HG.out.1; omega
      · have := HG.out; omega⟩
    by_cases hlt : k < r.length
    · obtain ⟨x, hx⟩ : ∃ x, r[k]? = some x := ⟨_, List.getElem?_eq_getElem hlt⟩
      obtain ⟨b, off, rfl, hbl, e0, e1⟩ := (HA.out.keep (ho.fr.kept _ fun j _ hj e => by omega)).at hx
      have hnx := HNE.out x (List.mem_of_getElem? hx)
      have hbq := bytesLess_nm x.1 n hnx
      have hlti : (k : Int) < r.length := by omega
      have HK := Lib.hid hlt
      have HXX := Lib.hid hx
      obtain ⟨W4, hW4⟩ : ∃ W4, W4 = wr.alloc (.cells #[.string ⟨x.1.toArray⟩, .string (txt x.2)] 102) := ⟨_, rfl⟩
      have hb4 : Below wr.heap.size wr W4 := by rw [hW4]; exact (Below.refl _ _).alloc (Nat.le_refl _) _
      have hx4 : W4.heap[wr.heap.size]? = some (.cells #[.string ⟨x.1.toArray⟩, .string (txt x.2)] 102 (0, 0)) := by rw [hW4]; exact heap_alloc_new _ _
      have hn4 : W4.heap[w.heap.size]? = some (.cells #[.string ⟨n.toArray⟩, .string (txt t)] 102 (0, 0)) := (hb4.block _ HPW.out).trans HBW.out
      have HO4 := Lib.hid (ho.old hb4)
      obtain ⟨sx, hsx⟩ : ∃ s : ByteArray, s = txt x.2 := ⟨_, rfl⟩
      obtain ⟨st, hst⟩ : ∃ s : ByteArray, s = txt t := ⟨_, rfl⟩
      rw [← hsx] at e1 hW4 hx4
      rw [← hst] at hn4
      have c0 : W4.cell? ⟨wr.heap.size, 0, none⟩ = some (.string ⟨x.1.toArray⟩) := by rw [cell_of_row _ _ 0 _ _ _ hx4]; rfl
      have c1 : W4.cell? ⟨wr.heap.size, 1, none⟩ = some (.string sx) := by rw [cell_of_row _ _ 1 _ _ _ hx4]; rfl
      have d0 : W4.cell? ⟨w.heap.size, 0, none⟩ = some (.string ⟨n.toArray⟩) := by rw [cell_of_row _ _ 0 _ _ _ hn4]; rfl
      have d1 : W4.cell? ⟨w.heap.size, 1, none⟩ = some (.string st) := by rw [cell_of_row _ _ 1 _ _ _ hn4]; rfl
      have HPW4 : Hid (wr.heap.size < W4.heap.size) := Lib.hid (Array.getElem?_eq_some_iff.1 hx4).1
      have HOF : Hid ((Value.slice oo out.length oc).ownBlock ≠ some wr.heap.size) := Lib.hid fun e => Nat.lt_irrefl _ (HOB.out _ e).1
      have HC0 := Lib.hid c0
      have HC1 := Lib.hid c1
      have HX4 := Lib.hid hx4
      subst hW4
      have HSX := Lib.hid hsx
      have HST := Lib.hid hst
      unfold nmV at e0
      clear hu ho hx hsx hst hx4 hn4 hbl hb4
      cases put
      · cases hbb : bytesBefore n x.1
        · rw [hbb] at hbq
          have HU2 := Lib.hid (HU.out.later HXX.out hbb)
          simp only [Bool.not_false] at hbq
          clear hbb
          go_wp2_with (at_builtin; go_must (refine wpList_appO _ rfl _ _ rfl w.heap.size g0 w3 _ _ rfl (wr.alloc (.cells #[.string ⟨x.1.toArray⟩, .string sx] 102)) x (by rw [← HSX.out]; rfl) HO4.out (by rw [show (wr.alloc (.cells #[.string ⟨x.1.toArray⟩, .string sx] 102)).heap.size = wr.heap.size + 1 from by simp]; rfl) (Nat.le_trans HLN.out (by decide)) (Nat.le_of_lt (Nat.lt_trans HG.out.1 HG.out.2)) ?_))
          intro v5 w5 ho5 _ _
          have HO5 := Lib.hid ho5
          clear ho5
          go_wp2
          go_roundw
          case rel => exact ⟨k + 1, false, _, HK.out, (by first | exact inc_eq HK.out (Nat.le_trans HRL.out (by decide)) | rfl), rfl, HU2.out, HO5.out⟩
          case measure => first | exact inc_meas HK.out (Nat.le_trans HRL.out (by decide)) | (have := HK.out; simp [intOf]; omega)
        · rw [hbb] at hbq
          have hu2 := HU.out.now HXX.out hbb
          rw [List.append_assoc] at hu2
          have HU2 := Lib.hid (show Upt r n t (k + 1) true (out ++ [(n, t), x]) from hu2)
          clear hu2
          simp only [Bool.not_true] at hbq
          clear hbb
          go_wp2_with (at_builtin; go_must (refine wpList_appO _ rfl _ _ rfl w.heap.size g0 w3 _ _ rfl (wr.alloc (.cells #[.string ⟨x.1.toArray⟩, .string sx] 102)) (n, t) (by rw [← HST.out]; rfl) HO4.out (by rw [show (wr.alloc (.cells #[.string ⟨x.1.toArray⟩, .string sx] 102)).heap.size = wr.heap.size + 1 from by simp]; rfl) (Nat.le_trans HLN.out (by decide)) (Nat.le_of_lt (Nat.lt_trans HG.out.1 HG.out.2)) ?_))
          intro v5 w5 ho5 hk5 hs5
          have g0' : w5.cell? ⟨wr.heap.size, 0, none⟩ = some (.string ⟨x.1.toArray⟩) := by rw [World.cell?_of_block (hk5 _ (by first | exact HPW4.out | simp) HOF.out)]; exact HC0.out
          have g1' : w5.cell? ⟨wr.heap.size, 1, none⟩ = some (.string sx) := by rw [World.cell?_of_block (hk5 _ (by first | exact HPW4.out | simp) HOF.out)]; exact HC1.out
          have HO5 := Lib.hid ho5
          have HLN5 : Hid ((out ++ [(n, t)]).length ≤ 1000000) := Lib.hid (by have := HLN.out; simp; omega)
          clear ho5 hk5 hs5 d0 d1 c0 c1
          go_wp2_with (at_builtin; go_must (refine wpList_appO _ rfl _ _ rfl w.heap.size g0 w3 _ _ rfl w5 x (by rw [← HSX.out]; rfl) HO5.out rfl HLN5.out (Nat.le_of_lt (Nat.lt_trans HG.out.1 HG.out.2)) ?_))
          intro v6 w6 ho6 _ _
          have HO6 := Lib.hid ho6
          clear ho6
          go_wp2
          go_roundw
          case rel => exact ⟨k + 1, true, _, HK.out, (by first | exact inc_eq HK.out (Nat.le_trans HRL.out (by decide)) | rfl), rfl, HU2.out, HO6.out⟩
          case measure => first | exact inc_meas HK.out (Nat.le_trans HRL.out (by decide)) | (have := HK.out; simp [intOf]; omega)
      · have HU2 := Lib.hid (HU.out.yes HXX.out)
        go_wp2_with (at_builtin; go_must (refine wpList_appO _ rfl _ _ rfl w.heap.size g0 w3 _ _ rfl (wr.alloc (.cells #[.string ⟨x.1.toArray⟩, .string sx] 102)) x (by rw [← HSX.out]; rfl) HO4.out (by rw [show (wr.alloc (.cells #[.string ⟨x.1.toArray⟩, .string sx] 102)).heap.size = wr.heap.size + 1 from by simp]; rfl) (Nat.le_trans HLN.out (by decide)) (Nat.le_of_lt (Nat.lt_trans HG.out.1 HG.out.2)) ?_))
        intro v5 w5 ho5 _ _
        have HO5 := Lib.hid ho5
        clear ho5
        go_wp2
        go_roundw
        case rel => exact ⟨k + 1, true, _, HK.out, (by first | exact inc_eq HK.out (Nat.le_trans HRL.out (by decide)) | rfl), rfl, HU2.out, HO5.out⟩
        case measure => first | exact inc_meas HK.out (Nat.le_trans HRL.out (by decide)) | (have := HK.out; simp [intOf]; omega)
    · obtain rfl : k = r.length := by omega
      have HBF : Hid (Below w.heap.size w wr) := Lib.hid (HB3.out.trans (ho.fr.below (Nat.le_of_lt (Nat.lt_trans HG.out.1 HG.out.2)) fun j hj e => by have := HG.out.1; omega))
      clear hu ho
      cases put
      · have HU2 : Hid (out ++ [(n, t)] = fput l n t) := Lib.hid (by
          have := HU.out
          unfold Upt at this
          rw [if_neg (by simp), List.drop_length] at this
          rw [HR2.out, ← this]; rfl)
        obtain ⟨st, hst⟩ : ∃ s : ByteArray, s = txt t := ⟨_, rfl⟩
        have hn4 := HBW.out
        rw [← hst] at hn4
        have d0 : wr.cell? ⟨w.heap.size, 0, none⟩ = some (.string ⟨n.toArray⟩) := by rw [cell_of_row _ _ 0 _ _ _ hn4]; rfl
        have d1 : wr.cell? ⟨w.heap.size, 1, none⟩ = some (.string st) := by rw [cell_of_row _ _ 1 _ _ _ hn4]; rfl
        have HST := Lib.hid hst
        clear hst hn4
        go_wp2_with (at_builtin; go_must (refine wpList_appO _ rfl _ _ rfl w.heap.size g0 w3 _ _ rfl wr (n, t) (by rw [← HST.out]; rfl) HO.out rfl (Nat.le_trans HLN.out (by decide)) (Nat.le_of_lt (Nat.lt_trans HG.out.1 HG.out.2)) ?_))
        intro v5 w5 ho5 _ _
        have HO5 := Lib.hid ho5
        clear ho5
        go_wp2
        go_ret
        refine ⟨_, rfl, ?_, HB3.out.trans (HO5.out.fr.below (Nat.le_of_lt (Nat.lt_trans HG.out.1 HG.out.2)) fun j hj e => by have := HG.out.1; omega)⟩
        rw [← HU2.out]
        exact HO5.out.own
      · have HU2 : Hid (out = fput l n t) := Lib.hid (by
          have := HU.out
          unfold Upt at this
          rw [if_pos rfl, List.drop_length, List.append_nil] at this
          rw [HR2.out, ← this])
        go_wp2
        go_ret
        refine ⟨_, rfl, ?_, HBF.out⟩
        rw [← HU2.out]
        exact HO.out.own

end Go.Proofs.YtmjpckodcafjiaaGreat
