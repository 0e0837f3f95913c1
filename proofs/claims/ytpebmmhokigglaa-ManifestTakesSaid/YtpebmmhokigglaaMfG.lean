/- Package manifest: takeMany, takeParts. -/
import Derived.Test.YtpebmmhokigglaaMfF
namespace Go.Proofs.Ytpebmmhokigglaa
open Go.RowKit

set_option maxHeartbeats 1000000 in
set_option maxRecDepth 100000 in
theorem mtakeMany_any {w : World} {p : Nat} {rv : Value} {row : List Nat} {place c : Nat} (h : Rd w p rv row place c) :
    Calls Try.prog 42 #[.pointer (some ⟨p, 0, none⟩)] w (ManyPost p rv row place c 1024 w) := by
  go_enter Try.func42, Try.ntmps42
  go_wp2_with fail
  refine (number_any h).mono ?_
  rintro e w1 ⟨n, place', c1, rfl, hn, hrd, hg⟩
  clear h
  have HN := Lib.hid hn
  clear hn
  by_cases hb : (1024 : Int) < (n : Int)
  · have HB := Lib.hid (many_bad (c := c1) (n := n) (most := 1024) (.inr hb))
    have hfl := fail_any hrd 3
    rw [errV_pos (by decide)] at hfl
    have HFL := Lib.hid hfl
    clear hfl hrd
    go_wp2_with fail
    refine HFL.out.mono ?_
    rintro e w2 ⟨rfl, hrd2, hg2⟩
    have HR := Lib.hid hrd2
    clear hrd2
    go_wp2
    go_ret
    exact ⟨n, place', c1, by rw [HB.out.1]; rfl, HN.out, by rw [HB.out.2]; exact HR.out, grownBy_trans hg hg2 (fun j hj _ => hj)⟩
  · have HB := Lib.hid (many_good (c := c1) (n := n) (most := 1024) (by omega))
    have hn2 : (n : Int) ≤ 1024 := by omega
    go_wp2
    go_ret
    exact ⟨n, place', c1, by rw [HB.out.1]; rfl, HN.out, by rw [HB.out.2]; exact hrd, hg⟩

/-- What takeParts does. -/
def TPsPost (p : Nat) (rv : Value) (row : List Nat) (place c : Nat) (x0 : Int) (w : World) (e : Ending) (w' : World) : Prop :=
  ∃ (v : Value) (n pl1 c1 : Nat) (ls : List (Nat × Nat × List Nat)) (pl2 c2 : Nat), e = .returned v ∧ NumRel (row.drop place) c n (row.drop pl1) c1 ∧ TPs (manyR n 1024) (row.drop pl1) (manyC n c1 1024) ls (row.drop pl2) c2 ∧ Rd w' p rv row pl2 c2 ∧ w.grownBy w' (some p) ∧
    PsAt w' (fun j => w.heap.size ≤ j) v (if c2 = 0 then mkParts x0 ls else [])
theorem manyR_1024 (n : Nat) : manyR n 1024 ≤ 1024 := by
  unfold manyR
  split <;> omega
theorem manyC_bad {n c1 : Nat} {rest r : List Nat} {c : Nat} (h : NumRel rest c n r c1) (hc : manyC n c1 1024 ≠ 0) : manyR n 1024 = 0 := manyR_zero h hc

/-- How far takeParts has come. -/
structure MTI (w W : World) (p : Nat) (rv : Value) (row : List Nat) (pl0 c0 m : Nat) (x0 : Int) (wr : World) (k pl c : Nat) (v : Value) (done : List (Nat × Nat × List Nat)) : Prop where
  kle : k ≤ m
  len : done.length = k
  go : k < m → c = 0
  rows : RecOwn wr W.heap.size 49 35 v ((mkParts x0 done).map ptRow)
  dg : ∀ q ∈ mkParts x0 done, Dg q.2.2.2
  rd : Rd wr p rv row pl c
  cont : MCont m (row.drop pl0) c0 k (row.drop pl) c done
  gr : w.grownBy wr (some p)
  big : W.heap.size ≤ wr.heap.size
  pw : p < w.heap.size ∧ w.heap.size ≤ W.heap.size
  x : 0 ≤ endParts x0 done ∧ endParts x0 done ≤ 1048576 + 64 * (k : Int)
  bad : c ≠ 0 → done = []
theorem Try.infoPart : (Try.prog.info? 49).map (fun i => (i.zero, i.size, i.bytes)) = some (some (.agg (ptRow (0, 0, 0, zero32)).toArray), 35, 56) := by kernel_rfl
theorem withinR_le (n m : Nat) : withinR n m ≤ m := by unfold withinR; split <;> omega
theorem dig_ok {rest out r : List Nat} {c c' : Nat} (h : FixRel rest c 32 out r c') (h8 : ∀ y ∈ rest, y < 256) : Dg (dig out) := by
  have hl := fix_len32 h
  refine ⟨dig_length (by rcases hl with rfl | h; simp; omega), ?_⟩
  intro y hy
  unfold dig at hy
  rcases List.mem_append.1 hy with hy | hy
  · rcases h with ⟨_, rfl, _⟩ | ⟨_, _, rfl, _⟩ | ⟨_, _, _, rfl, _⟩
    · cases hy
    · cases hy
    · exact h8 y (List.mem_of_mem_take hy)
  · rw [(List.mem_replicate.1 hy).2]; decide
theorem rd_part {w w' : World} {p q : Nat} {rv : Value} {row : List Nat} {place c : Nat} {r : PT} {T : TypeId} (h : Rd w p rv row place c) (hq : PB w q r T) (hT : T ≠ 90 ∧ T ≠ 5) (hg : w.grownBy w' (some q)) : Rd w' p rv row place c := by
  refine h.grown hg ?_ ?_
  · intro e
    cases e
    have := h.blk.symm.trans hq
    injection this with this
    injection this with _ h2 _
    exact hT.1 h2.symm
  · cases hv : rv.ownBlock with
    | none => exact .inl rfl
    | some j =>
      right
      intro e
      cases e
      rcases h.own.2 with ⟨h1, _⟩ | ⟨g, cap, cur, h1, _, h3, _⟩
      · rw [h1] at hv; cases hv
      · rw [h1] at hv
        cases hv
        have := h3.symm.trans hq
        injection this with this
        injection this with _ h2 _
        exact hT.2 h2.symm

/-- A struct put cell by cell over one of noughts. -/
theorem fold_put_aux : ∀ (row : List Value) (k : Nat) (Z : Array Value), k + row.length ≤ Z.size → (List.foldl (fun (cs : Array Value) (x : Value × Nat) => cs.setIfInBounds x.2 x.1) Z (row.zipIdx k)).toList = Z.toList.take k ++ row ++ Z.toList.drop (k + row.length)
  | [], k, Z, _ => by simp
  | v :: r, k, Z, h => by
    rw [List.length_cons] at h
    rw [List.zipIdx_cons, List.foldl_cons, fold_put_aux r (k + 1) (Z.setIfInBounds k v) (by simp; omega)]
    refine List.ext_getElem? fun i => ?_
    simp only [Array.toList_setIfInBounds, List.getElem?_append, List.length_append, List.length_take, List.length_set, Array.length_toList, List.length_cons, List.getElem?_drop, List.getElem?_set, List.getElem?_take]
    by_cases h1 : i < k
    · simp [h1, show i < k + 1 by omega, show i < min (k + 1) Z.size + r.length by omega, show i < min (k + 1) Z.size by omega, show i < min k Z.size + (r.length + 1) by omega, show i < min k Z.size by omega, show k ≠ i by omega]
    · by_cases h2 : i = k
      · subst h2
        simp [show i < min (i + 1) Z.size + r.length by omega, show i < min (i + 1) Z.size by omega, show i < min i Z.size + (r.length + 1) by omega, show ¬ i < min i Z.size by omega, show i < Z.size by omega, show i - min i Z.size = 0 by omega]
      · by_cases h3 : i < k + 1 + r.length
        · simp [show i < min (k + 1) Z.size + r.length by omega, show ¬ i < min (k + 1) Z.size by omega, show i < min k Z.size + (r.length + 1) by omega, show ¬ i < min k Z.size by omega, show i - min k Z.size = (i - min (k + 1) Z.size) + 1 by omega]
        · simp [show ¬ i < min (k + 1) Z.size + r.length by omega, show ¬ i < min k Z.size + (r.length + 1) by omega, show k + 1 + r.length + (i - (min (k + 1) Z.size + r.length)) = i by omega, show k + (r.length + 1) + (i - (min k Z.size + (r.length + 1))) = i by omega, show k ≠ i by omega]
theorem fold_put {row : List Value} {Z : Array Value} (h : row.length = Z.size) : List.foldl (fun (cs : Array Value) (x : Value × Nat) => cs.setIfInBounds x.2 x.1) Z row.zipIdx = row.toArray := by
  apply Array.toList_inj.1
  rw [fold_put_aux row 0 Z (by omega)]
  simp [h]
theorem fold_put35 {row : List Value} (h : row.length = 35) : List.foldl (fun (cs : Array Value) (x : Value × Nat) => cs.setIfInBounds x.2 x.1) #[.int .i64 0, .int .i64 0, .int .i64 0, .int .u8 0, .int .u8 0, .int .u8 0, .int .u8 0, .int .u8 0, .int .u8 0, .int .u8 0, .int .u8 0, .int .u8 0, .int .u8 0, .int .u8 0, .int .u8 0, .int .u8 0, .int .u8 0, .int .u8 0, .int .u8 0, .int .u8 0, .int .u8 0, .int .u8 0, .int .u8 0, .int .u8 0, .int .u8 0, .int .u8 0, .int .u8 0, .int .u8 0, .int .u8 0, .int .u8 0, .int .u8 0, .int .u8 0, .int .u8 0, .int .u8 0, .int .u8 0] row.zipIdx = row.toArray := fold_put h

set_option maxHeartbeats 8000000 in
set_option maxRecDepth 100000 in
theorem takeParts_any {w : World} {p : Nat} {rv : Value} {row : List Nat} {place c : Nat} (h : Rd w p rv row place c) (x0 : Int) (hx : 0 ≤ x0 ∧ x0 ≤ 1048576) :
    Calls Try.prog 20 #[.pointer (some ⟨p, 0, none⟩), .int .i64 x0] w (TPsPost p rv row place c x0 w) := by
  have HTM := Lib.hid (mtakeMany_any h)
  have HPW := Lib.hid h.lt
  have H8 := Lib.hid h.byte
  have HX0 := Lib.hid hx
  clear h hx
  go_enter Try.func20, Try.ntmps20
  go_wp2_with fail
  refine HTM.out.mono ?_
  rintro r w2 ⟨n, pl1, c1, rfl, hn, hrd2, hg2⟩
  have HN := Lib.hid hn
  have HG2 := Lib.hid hg2
  have hm4 : ((manyR n 1024 : Nat) : Int) ≤ 1024 := by have := manyR_1024 n; omega
  have HS : Hid (MTI w w2 p rv row pl1 (manyC n c1 1024) (manyR n 1024) x0 w2 0 pl1 (manyC n c1 1024) (.slice none 0 0) []) := Lib.hid ⟨Nat.zero_le _, rfl, fun hk => by
      by_cases hc : manyC n c1 1024 = 0
      · exact hc
      · have := manyC_bad hn hc
        omega, recOwn_nil _ _ _ _, (by intro q hq; cases hq), hrd2, mcont_start, hg2, Nat.le_refl _, ⟨HPW.out, hg2.size⟩, (by have := HX0.out; exact ⟨this.1, by show x0 ≤ _; omega⟩), fun _ => rfl⟩
  obtain ⟨m, hm⟩ : ∃ m, m = manyR n 1024 := ⟨_, rfl⟩
  obtain ⟨c0, hc0⟩ : ∃ m, m = manyC n c1 1024 := ⟨_, rfl⟩
  rw [← hm, ← hc0] at HS
  rw [← hm] at hm4 ⊢
  have HM := Lib.hid hm
  have HC0 := Lib.hid hc0
  clear hn hrd2 hg2 hm hc0
  go_wp2
  go_loopw [1, 5, 6, 9] (fun xv pv _ iv wr => ∃ (k pl c : Nat) (done : List (Nat × Nat × List Nat)), iv = .int .i64 (k : Int) ∧ xv = .int .i64 (endParts x0 done) ∧ MTI w w2 p rv row pl1 c0 m x0 wr k pl c pv done)
    (fun _ _ _ iv _ => m - (intOf iv).toNat)
  case atStart => exact ⟨0, pl1, c0, [], rfl, rfl, HS.out⟩
  case round =>
    obtain ⟨k, pl, c, done, rfl, rfl, ht⟩ := hrel
    have HT := Lib.hid ht
    obtain ⟨aov, capv, hpv, _, _, _⟩ := ht.rows.val
    rw [List.length_map, mkParts_length, ht.len] at hpv
    subst hpv
    by_cases hlt : k < m
    rotate_left
    · have hkm : k = m := by have := ht.kle; omega
      clear ht
      go_wp2
      go_ret
      refine ⟨_, n, pl1, c1, done, pl, c, rfl, HN.out, ?_, HT.out.rd, HT.out.gr, ?_⟩
      · rw [← HM.out, ← HC0.out]
        have := HT.out.cont
        rw [hkm] at this
        exact this.done
      · have hps : PsAt wr (fun j => w.heap.size ≤ j) (.slice aov k capv) (mkParts x0 done) := ⟨HT.out.rows.at'.mono fun j _ hj => Nat.le_trans HT.out.pw.2 hj.2, HT.out.dg⟩
        by_cases hc : c = 0
        · rw [if_pos hc]; exact hps
        · rw [if_neg hc]
          have := HT.out.bad hc
          rw [this] at hps
          exact hps
    · have hc0 := ht.go hlt
      obtain ⟨x, hx⟩ : ∃ x, x = endParts x0 done := ⟨_, rfl⟩
      rw [← hx]
      have HXX := Lib.hid hx
      obtain ⟨q, hq⟩ : ∃ q, q = wr.heap.size := ⟨_, rfl⟩
      have HQ := Lib.hid hq
      have hrd := ht.rd
      rw [hc0] at hrd
      have HRD := Lib.hid hrd
      have HCO : Hid (MCont m (row.drop pl1) c0 k (row.drop pl) 0 done) := Lib.hid (by have := ht.cont; rw [hc0] at this; exact this)
      have HKL : Hid (k < m) := Lib.hid hlt
      have hki : (k : Int) < (m : Int) := by omega
      have HSZ0 : Hid ((Try.prog.info? 49).map (·.size) = some (ptRow (x, 0, 0, zero32)).toArray.size) := Lib.hid (by rw [ptRow_size dg_zero]; exact Try.sizePT)
      have HPQ : Hid (p < q) := Lib.hid (by rw [hq]; exact hrd.lt)
      have HBW : Hid (w2.heap.size ≤ q) := Lib.hid (by rw [hq]; exact ht.big)
      have HW2 : Hid (p < w.heap.size ∧ w.heap.size ≤ w2.heap.size) := Lib.hid ht.pw
      clear ht hlt hrd hx hc0
      go_wp2_with (((with_reducible show wpList _ _ _ (Oper.mk none _ _ _ _ _ :: _) _ _); go_must (refine wpList_store_new rfl 49 (.tmp 6) (.tmp 12) rfl wr _ (ptRow (x, 0, 0, zero32)).toArray rfl rfl _ HSZ0.out rfl (all_one (ptRow_one _)) ?_)))
      intro W3 hq3 hb3 hs3
      have hq3 : PB W3 wr.heap.size (x, 0, 0, zero32) 49 := hq3
      rw [← hq] at hq3 hs3 ⊢
      have HQ3 := Lib.hid hq3
      have HB3 := Lib.hid hb3
      have hrd3 := HRD.out.below hb3 (Nat.le_refl _)
      have HE3 := Lib.hid (within_any hrd3 64)
      clear hq3 hb3 hrd3 hq
      go_wp2_with fail
      refine HE3.out.mono ?_
      rintro r w4 ⟨n4, pl4, c4, rfl, hn4, hrd4, hg4⟩
      obtain ⟨mn, hmn⟩ : ∃ a, a = withinR n4 64 := ⟨_, rfl⟩
      obtain ⟨mc, hmc⟩ : ∃ a, a = withinC n4 c4 64 := ⟨_, rfl⟩
      rw [← hmc] at hrd4
      rw [← hmn]
      have HMN := Lib.hid hmn
      have HMC := Lib.hid hmc
      have HN4 := Lib.hid hn4
      have hq4 : PB w4 q (x, 0, 0, zero32) 49 := (hg4.block q HQ3.out.lt (fun e => by have := HPQ.out; cases e; omega)).trans HQ3.out
      have HG4 : Hid (wr.grownBy w4 (some p)) := Lib.hid (grown_low2 HB3.out hg4)
      obtain ⟨W5, hW5⟩ : ∃ W, W = w4.setCell ⟨q, 1, none⟩ (.int .i64 (mn : Int)) := ⟨_, rfl⟩
      have hq5 : PB W5 q (x, (mn : Int), 0, zero32) 49 := by rw [hW5]; exact hq4.set1 _
      have hrd5 : Rd W5 p rv row pl4 mc := by rw [hW5]; exact rd_part hrd4 hq4 ⟨by decide, by decide⟩ (grown_set _ _ _ _)
      have HG5 : Hid (wr.grownBy W5 (some p)) := Lib.hid (by rw [hW5]; exact grown_low HG4.out ((Below.refl _ _).setCell (by rw [HQ.out]; exact Nat.le_refl _) _) (Nat.le_refl _))
      have HQ5 := Lib.hid hq5
      have HE5 := Lib.hid (within_any hrd5 65536)
      obtain ⟨_, y1, y2⟩ := hq4.x
      have f1 := hq4.fz 1
      have HW5 := Lib.hid hW5
      clear hmn hmc hn4 hrd4 hg4 hq4 hW5 hq5 hrd5
      go_wp2_with fail
      rw [← HW5.out]
      clear y1 y2 f1
      refine HE5.out.mono ?_
      rintro r w6 ⟨n6, pl6, c6, rfl, hn6, hrd6, hg6⟩
      obtain ⟨sn, hsn⟩ : ∃ a, a = withinR n6 65536 := ⟨_, rfl⟩
      obtain ⟨sc, hsc⟩ : ∃ a, a = withinC n6 c6 65536 := ⟨_, rfl⟩
      rw [← hsc] at hrd6
      rw [← hsn]
      have HSN := Lib.hid hsn
      have HSC := Lib.hid hsc
      have HN6 := Lib.hid hn6
      have hq6 : PB w6 q (x, (mn : Int), 0, zero32) 49 := (hg6.block q HQ5.out.lt (fun e => by have := HPQ.out; cases e; omega)).trans HQ5.out
      have HG6 : Hid (wr.grownBy w6 (some p)) := Lib.hid (grownBy_trans HG5.out hg6 fun j hj _ => hj)
      obtain ⟨W7, hW7⟩ : ∃ W, W = w6.setCell ⟨q, 2, none⟩ (.int .i64 (sn : Int)) := ⟨_, rfl⟩
      have hq7 : PB W7 q (x, (mn : Int), (sn : Int), zero32) 49 := by rw [hW7]; exact hq6.set2 _
      have hrd7 : Rd W7 p rv row pl6 sc := by rw [hW7]; exact rd_part hrd6 hq6 ⟨by decide, by decide⟩ (grown_set _ _ _ _)
      have HG7 : Hid (wr.grownBy W7 (some p)) := Lib.hid (by rw [hW7]; exact grown_low HG6.out ((Below.refl _ _).setCell (by rw [HQ.out]; exact Nat.le_refl _) _) (Nat.le_refl _))
      have HQ7 := Lib.hid hq7
      have HE7 := Lib.hid (takeDigest_any hrd7)
      obtain ⟨_, y1, y2⟩ := hq6.x
      have f1 := hq6.fz 2
      have HW7 := Lib.hid hW7
      clear hsn hsc hn6 hrd6 hg6 hq6 hW7 hq7 hrd7
      go_wp2_with fail
      rw [← HW7.out]
      clear y1 y2 f1
      refine HE7.out.mono ?_
      rintro r w8 ⟨out, pl8, c8, rfl, hfx8, hrd8, hg8⟩
      have hq8 : PB w8 q (x, (mn : Int), (sn : Int), zero32) 49 := (hg8.block q HQ7.out.lt (fun e => by have := HPQ.out; cases e; omega)).trans HQ7.out
      have HDG : Hid (Dg (dig out)) := Lib.hid (dig_ok hfx8 (fun y hy => H8.out y (List.mem_of_mem_drop hy)))
      obtain ⟨D, hD⟩ : ∃ D, D = dig out := ⟨_, rfl⟩
      rw [← hD] at HDG ⊢
      have HD := Lib.hid hD
      have HFX := Lib.hid hfx8
      have HG8 : Hid (wr.grownBy w8 (some p)) := Lib.hid (grownBy_trans HG7.out hg8 fun j hj _ => hj)
      have HQ8 := Lib.hid hq8
      have HRD8 := Lib.hid hrd8
      have HAS : Hid ((Try.prog.info? 24).map (·.size) = some (vals .u8 D).toArray.size) := Lib.hid (by rw [List.size_toArray, vals_length, HDG.out.1]; exact Try.sizeDG)
      have HFT : Hid (3 + (vals .u8 D).toArray.size ≤ (ptRow (x, (mn : Int), (sn : Int), zero32)).toArray.size) := Lib.hid (by rw [List.size_toArray, vals_length, HDG.out.1, ptRow_size dg_zero]; decide)
      have HPS := Lib.hid (ptRow_store x (mn : Int) (sn : Int) (l := zero32) (D := D) dg_zero.1 HDG.out.1)
      clear hfx8 hrd8 hg8 hq8 hD
      go_wp2_with (((with_reducible show wpList _ _ _ (Oper.mk none _ _ _ _ _ :: _) _ _); go_must (refine wpList_store_part rfl 24 (.tmp 21) (.tmp 20) rfl q 3 (vals .u8 D).toArray (ptRow (x, (mn : Int), (sn : Int), D)).toArray rfl rfl 49 (ptRow (x, (mn : Int), (sn : Int), zero32)).toArray HQ8.out HAS.out HFT.out (all_one (vals_one8 D)) HPS.out ?_)))
      intro W9 hq9 hg9 hs9
      have hq9 : PB W9 q (x, (mn : Int), (sn : Int), D) 49 := hq9
      have hrd9 : Rd W9 p rv row pl8 c8 := rd_part HRD8.out HQ8.out ⟨by decide, by decide⟩ hg9
      have HG9 : Hid (wr.grownBy W9 (some p)) := Lib.hid ⟨hg9.os.trans HG8.out.os, hg9.tape.trans HG8.out.tape, hg9.output.trans HG8.out.output, Nat.le_trans HG8.out.size hg9.size, fun j hj hne => (hg9.block j (Nat.lt_of_lt_of_le hj HG8.out.size) (fun e => by have := HQ.out; cases e; omega)).trans (HG8.out.block j hj hne)⟩
      have HQ9 := Lib.hid hq9
      have HRD9 := Lib.hid hrd9
      have HER := Lib.hid (err_any hrd9)
      have HNX : Hid (MCont m (row.drop pl1) c0 (k + 1) (row.drop pl8) c8 (done ++ [(mn, sn, D)])) := Lib.hid (by
        rw [HMN.out, HSN.out, HD.out]
        exact HCO.out.next HKL.out HN4.out (by rw [← HMC.out]; exact HN6.out) (by rw [← HSC.out]; exact HFX.out))
      have HGW : Hid (w.grownBy W9 (some p)) := Lib.hid (grownBy_trans HT.out.gr HG9.out fun j hj _ => hj)
      obtain ⟨_, y1, _⟩ := hq9.x
      clear hq9 hg9 hs9 hrd9
      by_cases hz : c8 = 0
      rotate_left
      · have HZ := Lib.hid hz
        rw [errV_pos hz] at HER
        clear hz
        go_wp2_with fail
        refine HER.out.mono ?_
        rintro r w10 ⟨rfl, rfl⟩
        go_wp2
        go_ret
        refine ⟨.slice none 0 0, n, pl1, c1, done ++ [(mn, sn, D)], pl8, c8, rfl, HN.out, ?_, HRD9.out, HGW.out, ?_⟩
        · rw [← HM.out, ← HC0.out]
          exact HNX.out.stop HZ.out
        · rw [if_neg HZ.out]; exact ps_nil _ _
      have HROW : Hid (RecOwn W9 w2.heap.size 49 35 (.slice aov k capv) ((mkParts x0 done).map ptRow)) := Lib.hid (HT.out.rows.keep fun j hj => by
        obtain ⟨h1, h2, cs, h3⟩ := HT.out.rows.block hj
        exact HG9.out.block j h2 (fun e => by have := HW2.out; cases e; omega))
      have HSZ : Hid ((Try.prog.info? 49).map (·.size) = some (ptRow (x, (mn : Int), (sn : Int), D)).toArray.size) := Lib.hid (by rw [ptRow_size HDG.out]; exact Try.sizePT)
      rw [hz, errV_zero] at HER
      have HZ8 := Lib.hid hz
      clear hz y1
      have hrl := fold_put35 (ptRow_len (p := (x, (mn : Int), (sn : Int), D)) HDG.out)
      have HRL := Lib.hid hrl
      clear hrl
      have hr35 : (ptRow (x, (mn : Int), (sn : Int), D)).length = 35 := ptRow_len HDG.out
      have HRA : Hid (RecOwn (W9.alloc (.cells (ptRow (x, (mn : Int), (sn : Int), D)).toArray 49)) w2.heap.size 49 35 (.slice aov k capv) ((mkParts x0 done).map ptRow)) := Lib.hid (HROW.out.keep fun j hj => by
        obtain ⟨h1, h2, _⟩ := HROW.out.block hj
        exact Below.heap_alloc _ _ _ h2)
      have HLN : Hid (((mkParts x0 done).map ptRow).length + 1 ≤ maxLen ∧ (((mkParts x0 done).map ptRow).length + 1) * 56 ≤ 140737488355328) := Lib.hid (by
        rw [List.length_map, mkParts_length, HT.out.len]
        have := HKL.out
        unfold maxLen
        omega)
      have HSB : Hid (w2.heap.size ≤ (W9.alloc (.cells (ptRow (x, (mn : Int), (sn : Int), D)).toArray 49)).heap.size) := Lib.hid (by have := HG9.out.size; have := HT.out.big; simp; omega)
      go_wp2_with fail
      refine HER.out.mono ?_
      rintro r W9 ⟨rfl, rfl⟩
      go_wp2_with (first
        | ((with_reducible show wpList _ _ _ (Oper.mk (some 26) _ _ _ _ _ :: _) _ _); go_must (refine wpList_load_row rfl 49 (.tmp 6) rfl q rfl _ (ptRow (x, (mn : Int), (sn : Int), D)).toArray _ _ HQ9.out Try.underlying49 rfl HSZ.out ?_))
        | (at_builtin; rw [HRL.out]; go_must (refine wpList_appRec _ rfl _ _ 25 rfl w2.heap.size 49 (.agg (ptRow (0, 0, 0, zero32)).toArray) 35 56 Try.underlying25 Try.infoPart rfl (by decide) (.slice aov k capv) ((mkParts x0 done).map ptRow) rfl HRA.out (ptRow (x, (mn : Int), (sn : Int), D)) (ptRow_len HDG.out) (ptRow_one _) ⟨W9.heap.size, 0, none⟩ rfl (rec_cell W9 _ _) HLN.out.1 HLN.out.2 HSB.out ?_)))
      intro v' w10 ho' hg' hl'
      have hbw : Below w2.heap.size W9 w10 := ((Below.refl W9.heap.size W9).alloc (Nat.le_refl _) _ |>.mono (Nat.le_trans HT.out.big HG9.out.size)).grown hg' (by have := HG9.out.size; have := HT.out.big; simp; omega) (fun j hj => (HROW.out.block hj).1)
      have hq10 : PB w10 q (x, (mn : Int), (sn : Int), D) 49 := by
        refine (hg'.block q (by have := HQ9.out.lt; simp; omega) ?_).trans ((Below.heap_alloc _ _ _ HQ9.out.lt).trans HQ9.out)
        intro e
        have := (HT.out.rows.block (j := q) e.symm).2.1
        rw [HQ.out] at this
        omega
      obtain ⟨ao10, cap10, hv10, _, _, _⟩ := ho'.val
      rw [List.length_append, List.length_map, mkParts_length, HT.out.len] at hv10
      subst hv10
      have hrd10 : Rd w10 p rv row pl8 c8 := mf_rd_low HRD9.out hbw (by have := HW2.out; omega)
      have hxe : endParts x0 (done ++ [(mn, sn, D)]) = x + (mn : Int) := by rw [endParts_snoc, ← HXX.out]
      have hxb := HT.out.x
      rw [← HXX.out] at hxb
      have hmn64 : mn ≤ 64 := by rw [HMN.out]; exact withinR_le _ _
      have hwr : wrap64 (x + (mn : Int)) = x + (mn : Int) := IntWalk.wrap64_in _ (by have := HKL.out; omega)
      have HWR := Lib.hid hwr
      have HMT : Hid (MTI w w2 p rv row pl1 c0 m x0 w10 (k + 1) pl8 c8 (.slice ao10 (k + 1) cap10) (done ++ [(mn, sn, D)])) := Lib.hid ⟨HKL.out, by rw [List.length_append, HT.out.len]; rfl, fun _ => HZ8.out, by
          rw [mkParts_snoc, List.map_append, ← HXX.out]
          exact ho', by
          rw [mkParts_snoc]
          intro r hr
          rcases List.mem_append.1 hr with hr | hr
          · exact HT.out.dg r hr
          · rw [List.mem_singleton.1 hr]; exact HDG.out, hrd10, HNX.out, grown_low HGW.out hbw HW2.out.2, Nat.le_trans HT.out.big (Nat.le_trans HG9.out.size hbw.size), HW2.out, by rw [hxe]; omega, fun h => absurd HZ8.out h⟩
      have HXE := Lib.hid hxe
      obtain ⟨_, y1, _⟩ := hq10.x
      clear hbw hq10 hrd10 hxe hxb hmn64 ho' hg' hl'
      go_wp2
      go_roundw
      case rel => exact ⟨k + 1, pl8, c8, done ++ [(mn, sn, D)], by go_num, by rw [HXE.out, HWR.out], HMT.out⟩
      case measure => have := HKL.out; simp [intOf]; omega

end Go.Proofs.Ytpebmmhokigglaa
