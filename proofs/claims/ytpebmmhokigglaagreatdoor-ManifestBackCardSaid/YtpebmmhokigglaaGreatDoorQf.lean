/- Package manifest: takeDigest, takeMany, takeParts. · Package manifest: takeMany, takeParts. · Package manifest: Take. -/
import Derived.Test.YtpebmmhokigglaaGreatDoorQe
import Derived.Test.YtpebmmhokigglaaGreatDoorRdP
import Derived.Deep.RegionLawGrows
import Derived.Laws.CopyOwn
import Derived.Test.YtpebmmhokigglaaGreatDoorFbP
import Derived.Test.YtpebmmhokigglaaGreatDoorRaP
namespace Go.Proofs.YtpebmmhokigglaaGreatDoor
open Go.RowKit

/-- What takeDigest does. -/
def DigPost (p : Nat) (rv : Value) (row : List Nat) (place c : Nat) (w : World) (e : Ending) (w' : World) : Prop :=
  ∃ (out : List Nat) (place' c' : Nat), e = .returned (.agg (vals .u8 (dig out)).toArray) ∧ FixRel (row.drop place) c 32 out (row.drop place') c' ∧ Rd w' p rv row place' c' ∧ w.grownBy w' (some p)
theorem dig_length {out : List Nat} (h : out.length ≤ 32) : (dig out).length = 32 := by unfold dig; rw [List.length_append, List.length_replicate]; omega
theorem fix_len32 {rest : List Nat} {c : Nat} {out rest' : List Nat} {c' : Nat} (h : FixRel rest c 32 out rest' c') : out = [] ∨ out.length = 32 := by
  rcases h with ⟨_, rfl, _⟩ | ⟨_, _, rfl, _⟩ | ⟨_, _, h, rfl, _⟩
  · exact .inl rfl
  · exact .inl rfl
  · right; rw [List.length_take]; have : (32 : Int).toNat = 32 := rfl; omega
theorem splice_dig {out : List Nat} (h : out = [] ∨ out.length = 32) : splice (vals .u8 zero32) 0 (vals .u8 out) = vals .u8 (dig out) := by
  rcases h with rfl | h
  · rfl
  · rw [dig_full h]
    unfold splice
    rw [List.take_zero, List.nil_append, List.drop_eq_nil_of_le (by rw [vals_length, vals_length, h]; simp [zero32]), List.append_nil]

theorem mf_rd_low {w w' : World} {p B : Nat} {rv : Value} {row : List Nat} {place c : Nat} (h : Rd w p rv row place c) (hb : Below B w w') (hp : p < B) : Rd w' p rv row place c := by
  refine ⟨(hb.block p hp).trans h.blk, ?_, h.off, h.le, h.byte, h.len⟩
  have ho := h.own
  refine ⟨ho.1, ?_⟩
  rcases ho.2 with h2 | ⟨g, cap, cur, h1, h2, h3, r⟩
  · exact .inl h2
  · exact .inr ⟨g, cap, cur, h1, h2, by rw [hb.block g (by have := h.off g (by rw [h1]; rfl); omega)]; exact h3, r⟩
theorem grown_low {w w1 w2 : World} {row : Option Nat} {B : Nat} (h : w.grownBy w1 row) (hb : Below B w1 w2) (hB : w.heap.size ≤ B) : w.grownBy w2 row :=
  ⟨hb.os.trans h.os, hb.tape.trans h.tape, hb.output.trans h.output, Nat.le_trans h.size hb.size, fun j hj hne => (hb.block j (Nat.lt_of_lt_of_le hj hB)).trans (h.block j hj hne)⟩
theorem grown_low2 {w w1 w2 : World} {row : Option Nat} (hb : Below w.heap.size w w1) (h : w1.grownBy w2 row) : w.grownBy w2 row :=
  ⟨h.os.trans hb.os, h.tape.trans hb.tape, h.output.trans hb.output, Nat.le_trans hb.size h.size, fun j hj hne => (h.block j (Nat.lt_of_lt_of_le hj hb.size) hne).trans (hb.block j hj)⟩

theorem fix_drew {w w' : World} {p : Nat} {rv : Value} {row : List Nat} {place c : Nat} {many : Int} {e : Ending} (h : FixPost p rv row place c many w.drew e w') : FixPost p rv row place c many w e w' := by
  obtain ⟨v, out, pl, c', h1, h2, h3, h4, h5⟩ := h
  exact ⟨v, out, pl, c', h1, h2, h3, h4, grownBy_trans (grown_drewN w 1 _) h5 fun j hj _ => hj⟩

set_option maxHeartbeats 4000000 in
set_option maxRecDepth 100000 in
theorem takeDigest_any {w : World} {p : Nat} {rv : Value} {row : List Nat} {place c : Nat} (h : Rd w p rv row place c) :
    Calls Tryz.prog 37 #[.pointer (some ⟨p, 0, none⟩)] w (DigPost p rv row place c w) := by
  obtain ⟨W2, hW2⟩ : ∃ W, W = (w.alloc (.cells (vals .u8 zero32).toArray 26)).alloc (.cells (vals .u8 zero32).toArray 26) := ⟨_, rfl⟩
  have hb2 : Below w.heap.size w W2 := by rw [hW2]; exact ((Below.refl _ _).alloc (Nat.le_refl _) _).alloc (by simp) _
  have hr2 : W2.heap[w.heap.size]? = some (.cells (vals .u8 zero32).toArray 26 (0, 0)) := by rw [hW2, Below.heap_alloc _ _ _ (by simp)]; exact heap_alloc_new _ _
  have hd2 : W2.heap[w.heap.size + 1]? = some (.cells (vals .u8 zero32).toArray 26 (0, 0)) := by
    have := heap_alloc_new (w.alloc (.cells (vals .u8 zero32).toArray 26)) (.cells (vals .u8 zero32).toArray 26)
    rw [hW2]; simpa using this
  have hp := h.lt
  have HFX : Hid (Calls Tryz.prog 68 #[.pointer (some ⟨p, 0, none⟩), .int .i64 32] W2.drew (FixPost p rv row place c 32 W2)) := Lib.hid ((fixed_any ((h.below hb2 (Nat.le_refl _)).drewN 1) 32).mono fun _ _ h => fix_drew h)
  have HB2 := Lib.hid hb2
  have HR2 := Lib.hid hr2
  have HD2 := Lib.hid hd2
  have HPW := Lib.hid hp
  rw [zero_valsM] at hW2
  have HW2 := Lib.hid hW2
  clear hb2 hr2 hd2 hp hW2 h
  go_enter Tryz.func37, Tryz.ntmps37
  go_upto_region 2 with fail
  rw [← HW2.out]
  go_region_law (first
    | (refine step_copy_splice (by rfl) (.tmp 4) (.tmp 6) 29 29 (by rfl) 5 Tryz.underlying29 (by kernel_rfl) (some ⟨w.heap.size + 1, 0, none⟩) sp 32 32 sl sc (by rfl) (by rfl) (w.heap.size + 1) 0 (vals .u8 zero32) 26 HD5.out (vals .u8 out) HCN.out (fun hp => ⟨rfl, HSRC.out hp⟩) HFIT.out (vals_one8 out) (w.heap.size + 1) w5 (Below.refl _ _) (Nat.le_refl _) ?_
       intro w6 hg6 hb6
       rw [splice_dig HL.out] at hg6
       have HB6 := Lib.hid hb6
       clear hb6)
    | (go_simp
       go_at_call 68
       refine HFX.out.mono ?_
       rintro r w5 ⟨v5, out, pl5, c5, rfl, hfx, ho5, hrd5, hg5⟩
       obtain ⟨sp, sc, hv5, _, _, _⟩ := ho5.reads.val
       obtain ⟨sl, hsl⟩ : ∃ k, k = out.length := ⟨_, rfl⟩
       rw [← hsl] at hv5
       subst hv5
       have hl := fix_len32 hfx
       have HL := Lib.hid hl
       have HD5 : Hid (w5.heap[w.heap.size + 1]? = some (.cells (vals .u8 zero32).toArray 26 (0, 0))) := Lib.hid ((hg5.block _ (Array.getElem?_eq_some_iff.1 HD2.out).1 (fun e => by have := HPW.out; cases e; omega)).trans HD2.out)
       have HCN : Hid ((vals .u8 out).length = Nat.min sl 32) := Lib.hid (by rw [vals_length]; rcases hl with rfl | hl; simp [hsl]; rw [hsl, hl]; rfl)
       have HFIT : Hid (0 + (vals .u8 out).length ≤ (vals .u8 zero32).length) := Lib.hid (by rw [vals_length, vals_length]; simp [zero32]; rcases hl with rfl | hl; simp; omega)
       have HSRC : Hid (0 < (vals .u8 out).length → ∃ ad, sp = some ad ∧ ∀ j v, (vals .u8 out)[j]? = some v → w5.cell? (ad.add j) = some v) := Lib.hid fun hp => by
         rw [vals_length] at hp
         obtain ⟨b, off, h1, _, h2⟩ := ho5.reads.at hp
         refine ⟨_, h1, fun j v hj => ?_⟩
         have hjl : j < out.length := by have := (List.getElem?_eq_some_iff.1 hj).1; rwa [vals_length] at this
         rw [Addr.add_lit, h2 j hjl]
         rw [vals_get .u8 out j hjl] at hj
         exact hj
       have HFX5 := Lib.hid hfx
       have HRD5 := Lib.hid hrd5
       have HG5 := Lib.hid hg5
       clear hfx ho5 hrd5 hg5 hl hsl))
  all_goals
    obtain ⟨D, hD⟩ : ∃ D, D = dig out := ⟨_, rfl⟩
    rw [← hD] at hg6
    have HDD := Lib.hid hD
    have hDl : D.length = 32 := by rw [hD]; exact dig_length (by rcases HL.out with rfl | h; simp; omega)
    have hAs : (Tryz.prog.info? 26).map (·.size) = some (vals .u8 D).toArray.size := by rw [List.size_toArray, vals_length, hDl]; exact Tryz.sizeDG
    have hAz : (vals .u8 zero32).toArray.size = (vals .u8 D).toArray.size := by rw [List.size_toArray, List.size_toArray, vals_length, vals_length, hDl]; simp [zero32]
    have HR6 : Hid (w6.heap[w.heap.size]? = some (.cells (vals .u8 zero32).toArray 26 (0, 0))) := Lib.hid ((HB6.out.block _ (by omega)).trans ((HG5.out.block _ (by have := (Array.getElem?_eq_some_iff.1 HD2.out).1; omega) (fun e => by have := HPW.out; cases e; omega)).trans HR2.out))
    clear hD
    go_wp2_with (first
      | ((with_reducible show wpList _ _ _ (Oper.mk (some 8) _ _ _ _ _ :: _) _ _); go_must (refine wpList_load_row rfl 26 (.tmp 3) rfl (w.heap.size + 1) rfl _ (vals .u8 D).toArray _ _ hg6.out Tryz.underlying26 rfl hAs ?_))
      | ((with_reducible show wpList _ _ _ (Oper.mk none _ _ _ _ _ :: _) _ _); go_must (refine wpList_store_row rfl 26 (.tmp 2) (.tmp 8) rfl w.heap.size (vals .u8 D).toArray rfl rfl _ _ HR6.out hAs hAz (all_one (vals_one8 D)) ?_)))
    refine bodyPost_ret (v := .agg (vals .u8 D).toArray) (results_cell_row (p := 2) rfl _ _ w.heap.size _ _ _ _ rfl (setRow_heap _ _ _ _ _ _ HR6.out) Tryz.underlying26 rfl hAs) rfl ?_
    have hbs : Below w.heap.size w5 (w6.setRow w.heap.size (vals .u8 D).toArray) := (HB6.out.mono (Nat.le_succ _)).trans ⟨rfl, rfl, rfl, by simp [World.setRow], fun k hk => setRow_other _ _ k _ (by omega)⟩
    exact ⟨out, pl5, c5, by rw [HDD.out], HFX5.out, mf_rd_low HRD5.out hbs HPW.out, grown_low (grown_low2 HB2.out HG5.out) hbs (Nat.le_refl _)⟩

end Go.Proofs.YtpebmmhokigglaaGreatDoor

namespace Go.Proofs.YtpebmmhokigglaaGreatDoor
open Go.RowKit

set_option maxHeartbeats 1000000 in
set_option maxRecDepth 100000 in
theorem mtakeMany_any {w : World} {p : Nat} {rv : Value} {row : List Nat} {place c : Nat} (h : Rd w p rv row place c) :
    Calls Tryz.prog 69 #[.pointer (some ⟨p, 0, none⟩)] w (ManyPost p rv row place c 1024 w) := by
  go_enter Tryz.func69, Tryz.ntmps69
  go_wp2_with fail
  refine (number_any h).mono ?_
  rintro e w1 ⟨n, place', c1, rfl, hn, hrd, hg⟩
  clear h
  have HN := Lib.hid hn
  clear hn
  by_cases hb : (1024 : Int) < (n : Int)
  · have HB := Lib.hid (many_bad (c := c1) (n := n) (most := 1024) (.inr hb))
    have hfl := fail_any hrd 3
    rw [errV_pos (by decide)] at hfl
    have HFL := Lib.hid hfl
    clear hfl hrd
    go_wp2_with fail
    refine HFL.out.mono ?_
    rintro e w2 ⟨rfl, hrd2, hg2⟩
    have HR := Lib.hid hrd2
    clear hrd2
    go_wp2
    go_ret
    exact ⟨n, place', c1, by rw [HB.out.1]; rfl, HN.out, by rw [HB.out.2]; exact HR.out, grownBy_trans hg hg2 (fun j hj _ => hj)⟩
  · have HB := Lib.hid (many_good (c := c1) (n := n) (most := 1024) (by omega))
    have hn2 : (n : Int) ≤ 1024 := by omega
    go_wp2
    go_ret
    exact ⟨n, place', c1, by rw [HB.out.1]; rfl, HN.out, by rw [HB.out.2]; exact hrd, hg⟩

/-- What takeParts does. -/
def TPsPost (p : Nat) (rv : Value) (row : List Nat) (place c : Nat) (x0 : Int) (w : World) (e : Ending) (w' : World) : Prop :=
  ∃ (v : Value) (n pl1 c1 : Nat) (ls : List (Nat × Nat × List Nat)) (pl2 c2 : Nat), e = .returned v ∧ NumRel (row.drop place) c n (row.drop pl1) c1 ∧ TPs (manyR n 1024) (row.drop pl1) (manyC n c1 1024) ls (row.drop pl2) c2 ∧ Rd w' p rv row pl2 c2 ∧ w.grownBy w' (some p) ∧
    PsAt w' (fun j => w.heap.size ≤ j) v (if c2 = 0 then mkParts x0 ls else [])
theorem manyR_1024 (n : Nat) : manyR n 1024 ≤ 1024 := by
  unfold manyR
  split <;> omega
theorem manyC_bad {n c1 : Nat} {rest r : List Nat} {c : Nat} (h : NumRel rest c n r c1) (hc : manyC n c1 1024 ≠ 0) : manyR n 1024 = 0 := manyR_zero h hc

/-- How far takeParts has come. -/
structure MTI (w W : World) (p : Nat) (rv : Value) (row : List Nat) (pl0 c0 m : Nat) (x0 : Int) (wr : World) (k pl c : Nat) (v : Value) (done : List (Nat × Nat × List Nat)) : Prop where
  kle : k ≤ m
  len : done.length = k
  go : k < m → c = 0
  rows : RecOwn wr W.heap.size 28 35 v ((mkParts x0 done).map ptRow)
  dg : ∀ q ∈ mkParts x0 done, Dg q.2.2.2
  rd : Rd wr p rv row pl c
  cont : MCont m (row.drop pl0) c0 k (row.drop pl) c done
  gr : w.grownBy wr (some p)
  big : W.heap.size ≤ wr.heap.size
  pw : p < w.heap.size ∧ w.heap.size ≤ W.heap.size
  x : 0 ≤ endParts x0 done ∧ endParts x0 done ≤ 1048576 + 64 * (k : Int)
  bad : c ≠ 0 → done = []
theorem Tryz.infoPart : (Tryz.prog.info? 28).map (fun i => (i.zero, i.size, i.bytes)) = some (some (.agg (ptRow (0, 0, 0, zero32)).toArray), 35, 56) := by kernel_rfl
theorem withinR_le (n m : Nat) : withinR n m ≤ m := by unfold withinR; split <;> omega
theorem dig_ok {rest out r : List Nat} {c c' : Nat} (h : FixRel rest c 32 out r c') (h8 : ∀ y ∈ rest, y < 256) : Dg (dig out) := by
  have hl := fix_len32 h
  refine ⟨dig_length (by rcases hl with rfl | h; simp; omega), ?_⟩
  intro y hy
  unfold dig at hy
  rcases List.mem_append.1 hy with hy | hy
  · rcases h with ⟨_, rfl, _⟩ | ⟨_, _, rfl, _⟩ | ⟨_, _, _, rfl, _⟩
    · cases hy
    · cases hy
    · exact h8 y (List.mem_of_mem_take hy)
  · rw [(List.mem_replicate.1 hy).2]; decide
theorem rd_part {w w' : World} {p q : Nat} {rv : Value} {row : List Nat} {place c : Nat} {r : PT} {T : TypeId} (h : Rd w p rv row place c) (hq : PB w q r T) (hT : T ≠ 128 ∧ T ≠ 5) (hg : w.grownBy w' (some q)) : Rd w' p rv row place c := by
  refine h.grown hg ?_ ?_
  · intro e
    cases e
    have := h.blk.symm.trans hq
    injection this with this
    injection this with _ h2 _
    exact hT.1 h2.symm
  · cases hv : rv.ownBlock with
    | none => exact .inl rfl
    | some j =>
      right
      intro e
      cases e
      rcases h.own.2 with ⟨h1, _⟩ | ⟨g, cap, cur, h1, _, h3, _⟩
      · rw [h1] at hv; cases hv
      · rw [h1] at hv
        cases hv
        have := h3.symm.trans hq
        injection this with this
        injection this with _ h2 _
        exact hT.2 h2.symm

/-- A struct put cell by cell over one of noughts. -/
theorem fold_put_aux : ∀ (row : List Value) (k : Nat) (Z : Array Value), k + row.length ≤ Z.size → (List.foldl (fun (cs : Array Value) (x : Value × Nat) => cs.setIfInBounds x.2 x.1) Z (row.zipIdx k)).toList = Z.toList.take k ++ row ++ Z.toList.drop (k + row.length)
  | [], k, Z, _ => by simp
  | v :: r, k, Z, h => by
    rw [List.length_cons] at h
    rw [List.zipIdx_cons, List.foldl_cons, fold_put_aux r (k + 1) (Z.setIfInBounds k v) (by simp; omega)]
    refine List.ext_getElem? fun i => ?_
    simp only [Array.toList_setIfInBounds, List.getElem?_append, List.length_append, List.length_take, List.length_set, Array.length_toList, List.length_cons, List.getElem?_drop, List.getElem?_set, List.getElem?_take]
    by_cases h1 : i < k
    · simp [h1, show i < k + 1 by omega, show i < min (k + 1) Z.size + r.length by omega, show i < min (k + 1) Z.size by omega, show i < min k Z.size + (r.length + 1) by omega, show i < min k Z.size by omega, show k ≠ i by omega]
    · by_cases h2 : i = k
      · subst h2
        simp [show i < min (i + 1) Z.size + r.length by omega, show i < min (i + 1) Z.size by omega, show i < min i Z.size + (r.length + 1) by omega, show ¬ i < min i Z.size by omega, show i < Z.size by omega, show i - min i Z.size = 0 by omega]
      · by_cases h3 : i < k + 1 + r.length
        · simp [show i < min (k + 1) Z.size + r.length by omega, show ¬ i < min (k + 1) Z.size by omega, show i < min k Z.size + (r.length + 1) by omega, show ¬ i < min k Z.size by omega, show i - min k Z.size = (i - min (k + 1) Z.size) + 1 by omega]
        · simp [show ¬ i < min (k + 1) Z.size + r.length by omega, show ¬ i < min k Z.size + (r.length + 1) by omega, show k + 1 + r.length + (i - (min (k + 1) Z.size + r.length)) = i by omega, show k + (r.length + 1) + (i - (min k Z.size + (r.length + 1))) = i by omega, show k ≠ i by omega]
theorem fold_put {row : List Value} {Z : Array Value} (h : row.length = Z.size) : List.foldl (fun (cs : Array Value) (x : Value × Nat) => cs.setIfInBounds x.2 x.1) Z row.zipIdx = row.toArray := by
  apply Array.toList_inj.1
  rw [fold_put_aux row 0 Z (by omega)]
  simp [h]
theorem fold_put35 {row : List Value} (h : row.length = 35) : List.foldl (fun (cs : Array Value) (x : Value × Nat) => cs.setIfInBounds x.2 x.1) #[.int .i64 0, .int .i64 0, .int .i64 0, .int .u8 0, .int .u8 0, .int .u8 0, .int .u8 0, .int .u8 0, .int .u8 0, .int .u8 0, .int .u8 0, .int .u8 0, .int .u8 0, .int .u8 0, .int .u8 0, .int .u8 0, .int .u8 0, .int .u8 0, .int .u8 0, .int .u8 0, .int .u8 0, .int .u8 0, .int .u8 0, .int .u8 0, .int .u8 0, .int .u8 0, .int .u8 0, .int .u8 0, .int .u8 0, .int .u8 0, .int .u8 0, .int .u8 0, .int .u8 0, .int .u8 0, .int .u8 0] row.zipIdx = row.toArray := fold_put h

set_option maxHeartbeats 8000000 in
set_option maxRecDepth 100000 in
theorem takeParts_any {w : World} {p : Nat} {rv : Value} {row : List Nat} {place c : Nat} (h : Rd w p rv row place c) (x0 : Int) (hx : 0 ≤ x0 ∧ x0 ≤ 1048576) :
    Calls Tryz.prog 38 #[.pointer (some ⟨p, 0, none⟩), .int .i64 x0] w (TPsPost p rv row place c x0 w) := by
  have HTM := Lib.hid (mtakeMany_any h)
  have HPW := Lib.hid h.lt
  have H8 := Lib.hid h.byte
  have HX0 := Lib.hid hx
  clear h hx
  go_enter Tryz.func38, Tryz.ntmps38
  go_wp2_with fail
  refine HTM.out.mono ?_
  rintro r w2 ⟨n, pl1, c1, rfl, hn, hrd2, hg2⟩
  have HN := Lib.hid hn
  have HG2 := Lib.hid hg2
  have hm4 : ((manyR n 1024 : Nat) : Int) ≤ 1024 := by have := manyR_1024 n; omega
  have HS : Hid (MTI w w2 p rv row pl1 (manyC n c1 1024) (manyR n 1024) x0 w2 0 pl1 (manyC n c1 1024) (.slice none 0 0) []) := Lib.hid ⟨Nat.zero_le _, rfl, fun hk => by
      by_cases hc : manyC n c1 1024 = 0
      · exact hc
      · have := manyC_bad hn hc
        omega, recOwn_nil _ _ _ _, (by intro q hq; cases hq), hrd2, mcont_start, hg2, Nat.le_refl _, ⟨HPW.out, hg2.size⟩, (by have := HX0.out; exact ⟨this.1, by show x0 ≤ _; omega⟩), fun _ => rfl⟩
  obtain ⟨m, hm⟩ : ∃ m, m = manyR n 1024 := ⟨_, rfl⟩
  obtain ⟨c0, hc0⟩ : ∃ m, m = manyC n c1 1024 := ⟨_, rfl⟩
  rw [← hm, ← hc0] at HS
  rw [← hm] at hm4 ⊢
  have HM := Lib.hid hm
  have HC0 := Lib.hid hc0
  clear hn hrd2 hg2 hm hc0
  go_wp2
  go_loopw [1, 5, 6, 9] (fun xv pv _ iv wr => ∃ (k pl c : Nat) (done : List (Nat × Nat × List Nat)), iv = .int .i64 (k : Int) ∧ xv = .int .i64 (endParts x0 done) ∧ MTI w w2 p rv row pl1 c0 m x0 wr k pl c pv done)
    (fun _ _ _ iv _ => m - (intOf iv).toNat)
  case atStart => exact ⟨0, pl1, c0, [], rfl, rfl, HS.out⟩
  case round =>
    obtain ⟨k, pl, c, done, rfl, rfl, ht⟩ := hrel
    have HT := Lib.hid ht
    obtain ⟨aov, capv, hpv, _, _, _⟩ := ht.rows.val
    rw [List.length_map, mkParts_length, ht.len] at hpv
    subst hpv
    by_cases hlt : k < m
    rotate_left
    · have hkm : k = m := by have := ht.kle; omega
      clear ht
      go_wp2
      go_ret
      refine ⟨_, n, pl1, c1, done, pl, c, rfl, HN.out, ?_, HT.out.rd, HT.out.gr, ?_⟩
      · rw [← HM.out, ← HC0.out]
        have := HT.out.cont
        rw [hkm] at this
        exact this.done
      · have hps : PsAt wr (fun j => w.heap.size ≤ j) (.slice aov k capv) (mkParts x0 done) := ⟨HT.out.rows.at'.mono fun j _ hj => Nat.le_trans HT.out.pw.2 hj.2, HT.out.dg⟩
        by_cases hc : c = 0
        · rw [if_pos hc]; exact hps
        · rw [if_neg hc]
          have := HT.out.bad hc
          rw [this] at hps
          exact hps
    · have hc0 := ht.go hlt
      obtain ⟨x, hx⟩ : ∃ x, x = endParts x0 done := ⟨_, rfl⟩
      rw [← hx]
      have HXX := Lib.hid hx
      obtain ⟨q, hq⟩ : ∃ q, q = wr.heap.size := ⟨_, rfl⟩
      have HQ := Lib.hid hq
      have hrd := ht.rd
      rw [hc0] at hrd
      have HRD := Lib.hid hrd
      have HCO : Hid (MCont m (row.drop pl1) c0 k (row.drop pl) 0 done) := Lib.hid (by have := ht.cont; rw [hc0] at this; exact this)
      have HKL : Hid (k < m) := Lib.hid hlt
      have hki : (k : Int) < (m : Int) := by omega
      have HSZ0 : Hid ((Tryz.prog.info? 28).map (·.size) = some (ptRow (x, 0, 0, zero32)).toArray.size) := Lib.hid (by rw [ptRow_size dg_zero]; exact Tryz.sizePT)
      have HPQ : Hid (p < q) := Lib.hid (by rw [hq]; exact hrd.lt)
      have HBW : Hid (w2.heap.size ≤ q) := Lib.hid (by rw [hq]; exact ht.big)
      have HW2 : Hid (p < w.heap.size ∧ w.heap.size ≤ w2.heap.size) := Lib.hid ht.pw
      clear ht hlt hrd hx hc0
      go_wp2_with (((with_reducible show wpList _ _ _ (Oper.mk none _ _ _ _ _ :: _) _ _); go_must (refine wpList_store_new rfl 28 (.tmp 6) (.tmp 12) rfl wr _ (ptRow (x, 0, 0, zero32)).toArray rfl rfl _ HSZ0.out rfl (all_one (ptRow_one _)) ?_)))
      intro W3 hq3 hb3 hs3
      have hq3 : PB W3 wr.heap.size (x, 0, 0, zero32) 28 := hq3
      rw [← hq] at hq3 hs3 ⊢
      have HQ3 := Lib.hid hq3
      have HB3 := Lib.hid hb3
      have hrd3 := HRD.out.below hb3 (Nat.le_refl _)
      have HE3 := Lib.hid (within_any hrd3 64)
      clear hq3 hb3 hrd3 hq
      go_wp2_with fail
      refine HE3.out.mono ?_
      rintro r w4 ⟨n4, pl4, c4, rfl, hn4, hrd4, hg4⟩
      obtain ⟨mn, hmn⟩ : ∃ a, a = withinR n4 64 := ⟨_, rfl⟩
      obtain ⟨mc, hmc⟩ : ∃ a, a = withinC n4 c4 64 := ⟨_, rfl⟩
      rw [← hmc] at hrd4
      rw [← hmn]
      have HMN := Lib.hid hmn
      have HMC := Lib.hid hmc
      have HN4 := Lib.hid hn4
      have hq4 : PB w4 q (x, 0, 0, zero32) 28 := (hg4.block q HQ3.out.lt (fun e => by have := HPQ.out; cases e; omega)).trans HQ3.out
      have HG4 : Hid (wr.grownBy w4 (some p)) := Lib.hid (grown_low2 HB3.out hg4)
      obtain ⟨W5, hW5⟩ : ∃ W, W = w4.setCell ⟨q, 1, none⟩ (.int .i64 (mn : Int)) := ⟨_, rfl⟩
      have hq5 : PB W5 q (x, (mn : Int), 0, zero32) 28 := by rw [hW5]; exact hq4.set1 _
      have hrd5 : Rd W5 p rv row pl4 mc := by rw [hW5]; exact rd_part hrd4 hq4 ⟨by decide, by decide⟩ (grown_set _ _ _ _)
      have HG5 : Hid (wr.grownBy W5 (some p)) := Lib.hid (by rw [hW5]; exact grown_low HG4.out ((Below.refl _ _).setCell (by rw [HQ.out]; exact Nat.le_refl _) _) (Nat.le_refl _))
      have HQ5 := Lib.hid hq5
      have HE5 := Lib.hid (within_any hrd5 65536)
      obtain ⟨_, y1, y2⟩ := hq4.x
      have f1 := hq4.fz 1
      have HW5 := Lib.hid hW5
      clear hmn hmc hn4 hrd4 hg4 hq4 hW5 hq5 hrd5
      go_wp2_with fail
      rw [← HW5.out]
      clear y1 y2 f1
      refine HE5.out.mono ?_
      rintro r w6 ⟨n6, pl6, c6, rfl, hn6, hrd6, hg6⟩
      obtain ⟨sn, hsn⟩ : ∃ a, a = withinR n6 65536 := ⟨_, rfl⟩
      obtain ⟨sc, hsc⟩ : ∃ a, a = withinC n6 c6 65536 := ⟨_, rfl⟩
      rw [← hsc] at hrd6
      rw [← hsn]
      have HSN := Lib.hid hsn
      have HSC := Lib.hid hsc
      have HN6 := Lib.hid hn6
      have hq6 : PB w6 q (x, (mn : Int), 0, zero32) 28 := (hg6.block q HQ5.out.lt (fun e => by have := HPQ.out; cases e; omega)).trans HQ5.out
      have HG6 : Hid (wr.grownBy w6 (some p)) := Lib.hid (grownBy_trans HG5.out hg6 fun j hj _ => hj)
      obtain ⟨W7, hW7⟩ : ∃ W, W = w6.setCell ⟨q, 2, none⟩ (.int .i64 (sn : Int)) := ⟨_, rfl⟩
      have hq7 : PB W7 q (x, (mn : Int), (sn : Int), zero32) 28 := by rw [hW7]; exact hq6.set2 _
      have hrd7 : Rd W7 p rv row pl6 sc := by rw [hW7]; exact rd_part hrd6 hq6 ⟨by decide, by decide⟩ (grown_set _ _ _ _)
      have HG7 : Hid (wr.grownBy W7 (some p)) := Lib.hid (by rw [hW7]; exact grown_low HG6.out ((Below.refl _ _).setCell (by rw [HQ.out]; exact Nat.le_refl _) _) (Nat.le_refl _))
      have HQ7 := Lib.hid hq7
      have HE7 := Lib.hid (takeDigest_any hrd7)
      obtain ⟨_, y1, y2⟩ := hq6.x
      have f1 := hq6.fz 2
      have HW7 := Lib.hid hW7
      clear hsn hsc hn6 hrd6 hg6 hq6 hW7 hq7 hrd7
      go_wp2_with fail
      rw [← HW7.out]
      clear y1 y2 f1
      refine HE7.out.mono ?_
      rintro r w8 ⟨out, pl8, c8, rfl, hfx8, hrd8, hg8⟩
      have hq8 : PB w8 q (x, (mn : Int), (sn : Int), zero32) 28 := (hg8.block q HQ7.out.lt (fun e => by have := HPQ.out; cases e; omega)).trans HQ7.out
      have HDG : Hid (Dg (dig out)) := Lib.hid (dig_ok hfx8 (fun y hy => H8.out y (List.mem_of_mem_drop hy)))
      obtain ⟨D, hD⟩ : ∃ D, D = dig out := ⟨_, rfl⟩
      rw [← hD] at HDG ⊢
      have HD := Lib.hid hD
      have HFX := Lib.hid hfx8
      have HG8 : Hid (wr.grownBy w8 (some p)) := Lib.hid (grownBy_trans HG7.out hg8 fun j hj _ => hj)
      have HQ8 := Lib.hid hq8
      have HRD8 := Lib.hid hrd8
      have HAS : Hid ((Tryz.prog.info? 26).map (·.size) = some (vals .u8 D).toArray.size) := Lib.hid (by rw [List.size_toArray, vals_length, HDG.out.1]; exact Tryz.sizeDG)
      have HFT : Hid (3 + (vals .u8 D).toArray.size ≤ (ptRow (x, (mn : Int), (sn : Int), zero32)).toArray.size) := Lib.hid (by rw [List.size_toArray, vals_length, HDG.out.1, ptRow_size dg_zero]; decide)
      have HPS := Lib.hid (ptRow_store x (mn : Int) (sn : Int) (l := zero32) (D := D) dg_zero.1 HDG.out.1)
      clear hfx8 hrd8 hg8 hq8 hD
      go_wp2_with (((with_reducible show wpList _ _ _ (Oper.mk none _ _ _ _ _ :: _) _ _); go_must (refine wpList_store_part rfl 26 (.tmp 21) (.tmp 20) rfl q 3 (vals .u8 D).toArray (ptRow (x, (mn : Int), (sn : Int), D)).toArray rfl rfl 28 (ptRow (x, (mn : Int), (sn : Int), zero32)).toArray HQ8.out HAS.out HFT.out (all_one (vals_one8 D)) HPS.out ?_)))
      intro W9 hq9 hg9 hs9
      have hq9 : PB W9 q (x, (mn : Int), (sn : Int), D) 28 := hq9
      have hrd9 : Rd W9 p rv row pl8 c8 := rd_part HRD8.out HQ8.out ⟨by decide, by decide⟩ hg9
      have HG9 : Hid (wr.grownBy W9 (some p)) := Lib.hid ⟨hg9.os.trans HG8.out.os, hg9.tape.trans HG8.out.tape, hg9.output.trans HG8.out.output, Nat.le_trans HG8.out.size hg9.size, fun j hj hne => (hg9.block j (Nat.lt_of_lt_of_le hj HG8.out.size) (fun e => by have := HQ.out; cases e; omega)).trans (HG8.out.block j hj hne)⟩
      have HQ9 := Lib.hid hq9
      have HRD9 := Lib.hid hrd9
      have HER := Lib.hid (err_any hrd9)
      have HNX : Hid (MCont m (row.drop pl1) c0 (k + 1) (row.drop pl8) c8 (done ++ [(mn, sn, D)])) := Lib.hid (by
        rw [HMN.out, HSN.out, HD.out]
        exact HCO.out.next HKL.out HN4.out (by rw [← HMC.out]; exact HN6.out) (by rw [← HSC.out]; exact HFX.out))
      have HGW : Hid (w.grownBy W9 (some p)) := Lib.hid (grownBy_trans HT.out.gr HG9.out fun j hj _ => hj)
      obtain ⟨_, y1, _⟩ := hq9.x
      clear hq9 hg9 hs9 hrd9
      by_cases hz : c8 = 0
      rotate_left
      · have HZ := Lib.hid hz
        rw [errV_pos hz] at HER
        clear hz
        go_wp2_with fail
        refine HER.out.mono ?_
        rintro r w10 ⟨rfl, rfl⟩
        go_wp2
        go_ret
        refine ⟨.slice none 0 0, n, pl1, c1, done ++ [(mn, sn, D)], pl8, c8, rfl, HN.out, ?_, HRD9.out, HGW.out, ?_⟩
        · rw [← HM.out, ← HC0.out]
          exact HNX.out.stop HZ.out
        · rw [if_neg HZ.out]; exact ps_nil _ _
      have HROW : Hid (RecOwn W9 w2.heap.size 28 35 (.slice aov k capv) ((mkParts x0 done).map ptRow)) := Lib.hid (HT.out.rows.keep fun j hj => by
        obtain ⟨h1, h2, cs, h3⟩ := HT.out.rows.block hj
        exact HG9.out.block j h2 (fun e => by have := HW2.out; cases e; omega))
      have HSZ : Hid ((Tryz.prog.info? 28).map (·.size) = some (ptRow (x, (mn : Int), (sn : Int), D)).toArray.size) := Lib.hid (by rw [ptRow_size HDG.out]; exact Tryz.sizePT)
      rw [hz, errV_zero] at HER
      have HZ8 := Lib.hid hz
      clear hz y1
      have hrl := fold_put35 (ptRow_len (p := (x, (mn : Int), (sn : Int), D)) HDG.out)
      have HRL := Lib.hid hrl
      clear hrl
      have hr35 : (ptRow (x, (mn : Int), (sn : Int), D)).length = 35 := ptRow_len HDG.out
      have HRA : Hid (RecOwn (W9.alloc (.cells (ptRow (x, (mn : Int), (sn : Int), D)).toArray 28)) w2.heap.size 28 35 (.slice aov k capv) ((mkParts x0 done).map ptRow)) := Lib.hid (HROW.out.keep fun j hj => by
        obtain ⟨h1, h2, _⟩ := HROW.out.block hj
        exact Below.heap_alloc _ _ _ h2)
      have HLN : Hid (((mkParts x0 done).map ptRow).length + 1 ≤ maxLen ∧ (((mkParts x0 done).map ptRow).length + 1) * 56 ≤ 140737488355328) := Lib.hid (by
        rw [List.length_map, mkParts_length, HT.out.len]
        have := HKL.out
        unfold maxLen
        omega)
      have HSB : Hid (w2.heap.size ≤ (W9.alloc (.cells (ptRow (x, (mn : Int), (sn : Int), D)).toArray 28)).heap.size) := Lib.hid (by have := HG9.out.size; have := HT.out.big; simp; omega)
      go_wp2_with fail
      refine HER.out.mono ?_
      rintro r W9 ⟨rfl, rfl⟩
      go_wp2_with (first
        | ((with_reducible show wpList _ _ _ (Oper.mk (some 26) _ _ _ _ _ :: _) _ _); go_must (refine wpList_load_row rfl 28 (.tmp 6) rfl q rfl _ (ptRow (x, (mn : Int), (sn : Int), D)).toArray _ _ HQ9.out Tryz.underlying28 rfl HSZ.out ?_))
        | (at_builtin; rw [HRL.out]; go_must (refine wpList_appRec _ rfl _ _ 55 rfl w2.heap.size 28 (.agg (ptRow (0, 0, 0, zero32)).toArray) 35 56 Tryz.underlying55 Tryz.infoPart rfl (by decide) (.slice aov k capv) ((mkParts x0 done).map ptRow) rfl HRA.out (ptRow (x, (mn : Int), (sn : Int), D)) (ptRow_len HDG.out) (ptRow_one _) ⟨W9.heap.size, 0, none⟩ rfl (rec_cell W9 _ _) HLN.out.1 HLN.out.2 HSB.out ?_)))
      intro v' w10 ho' hg' hl'
      have hbw : Below w2.heap.size W9 w10 := ((Below.refl W9.heap.size W9).alloc (Nat.le_refl _) _ |>.mono (Nat.le_trans HT.out.big HG9.out.size)).grown hg' (by have := HG9.out.size; have := HT.out.big; simp; omega) (fun j hj => (HROW.out.block hj).1)
      have hq10 : PB w10 q (x, (mn : Int), (sn : Int), D) 28 := by
        refine (hg'.block q (by have := HQ9.out.lt; simp; omega) ?_).trans ((Below.heap_alloc _ _ _ HQ9.out.lt).trans HQ9.out)
        intro e
        have := (HT.out.rows.block (j := q) e.symm).2.1
        rw [HQ.out] at this
        omega
      obtain ⟨ao10, cap10, hv10, _, _, _⟩ := ho'.val
      rw [List.length_append, List.length_map, mkParts_length, HT.out.len] at hv10
      subst hv10
      have hrd10 : Rd w10 p rv row pl8 c8 := mf_rd_low HRD9.out hbw (by have := HW2.out; omega)
      have hxe : endParts x0 (done ++ [(mn, sn, D)]) = x + (mn : Int) := by rw [endParts_snoc, ← HXX.out]
      have hxb := HT.out.x
      rw [← HXX.out] at hxb
      have hmn64 : mn ≤ 64 := by rw [HMN.out]; exact withinR_le _ _
      have hwr : wrap64 (x + (mn : Int)) = x + (mn : Int) := IntWalk.wrap64_in _ (by have := HKL.out; omega)
      have HWR := Lib.hid hwr
      have HMT : Hid (MTI w w2 p rv row pl1 c0 m x0 w10 (k + 1) pl8 c8 (.slice ao10 (k + 1) cap10) (done ++ [(mn, sn, D)])) := Lib.hid ⟨HKL.out, by rw [List.length_append, HT.out.len]; rfl, fun _ => HZ8.out, by
          rw [mkParts_snoc, List.map_append, ← HXX.out]
          exact ho', by
          rw [mkParts_snoc]
          intro r hr
          rcases List.mem_append.1 hr with hr | hr
          · exact HT.out.dg r hr
          · rw [List.mem_singleton.1 hr]; exact HDG.out, hrd10, HNX.out, grown_low HGW.out hbw HW2.out.2, Nat.le_trans HT.out.big (Nat.le_trans HG9.out.size hbw.size), HW2.out, by rw [hxe]; omega, fun h => absurd HZ8.out h⟩
      have HXE := Lib.hid hxe
      obtain ⟨_, y1, _⟩ := hq10.x
      clear hbw hq10 hrd10 hxe hxb hmn64 ho' hg' hl'
      go_wp2
      go_roundw
      case rel => exact ⟨k + 1, pl8, c8, done ++ [(mn, sn, D)], by go_num, by rw [HXE.out, HWR.out], HMT.out⟩
      case measure => have := HKL.out; simp [intOf]; omega

end Go.Proofs.YtpebmmhokigglaaGreatDoor

namespace Go.Proofs.YtpebmmhokigglaaGreatDoor
open Go.RowKit

/-- Two results, the first of which lies in a cell row. -/
theorem results_row_tmp {P : Program} {fn : Func} {p s : Tmp} {ty : TypeId} (h : fn.results = #[.cell p ty, .tmp s]) (tmps : Array Value) (w : World) (g : Nat) (t : TypeId) (cs : Array Value) (fr : Nat × Nat) (d : TypeDesc) (u : Value)
    (hp : tmps.getD p undef = .pointer (some ⟨g, 0, none⟩)) (hs : tmps.getD s undef = u) (hg : w.heap[g]? = some (.cells cs t fr))
    (hu : P.underlying ty = some d) (hd : (match d with | .struct _ | .array _ _ => true | _ => false) = true) (hi : (P.info? ty).map (·.size) = some cs.size) :
    (results fn tmps).run P w = .ok (.tuple #[.agg cs, u]) w := by
  have hp' : tmps[p]?.getD undef = .pointer (some ⟨g, 0, none⟩) := by simpa using hp
  have hs' : tmps[s]?.getD undef = u := by simpa using hs
  simp [results, h, hp', hs', asAddr, run_loadVar_row w g t ty cs fr d hg hu hd hi]

/-- A struct that is stored whole into a box. -/
theorem wpList_store_box {P : Program} {ops : Array Oper} {rest : List Oper} {o : Oper} {a : Act} {w : World} {Q : Exit → Act → World → Prop} (hgd : o.guard = none) (ty : TypeId) (x y : Operand) (ho : o.op = .store ty x y)
    (g : Nat) (cells : Array Value) (hx : a.eval x = .pointer (some ⟨g, 0, none⟩)) (hy : a.eval y = .agg cells)
    (t : TypeId) (old : Array Value) (hg : w.heap[g]? = some (.cells old t (0, 0))) (hi : (P.info? ty).map (·.size) = some cells.size)
    (hold : old.size = cells.size) (h1 : cells.all (·.oneCell') = true)
    (h : ∀ W2 : World, W2.heap[g]? = some (.cells cells t (0, 0)) → Below g w W2 → (∀ k, k ≠ g → W2.heap[k]? = w.heap[k]?) → wpList P ops Q rest (a.put o.dst undef) W2) : wpList P ops Q (o :: rest) a w :=
  wpList_store_row hgd ty x y ho g cells hx hy t old hg hi hold h1 (h _ (setRow_heap _ _ _ _ _ _ hg) ⟨rfl, rfl, rfl, by simp [World.setRow], fun k hk => setRow_other _ _ k _ (by omega)⟩ fun k hk => setRow_other _ _ k _ hk)
theorem mf0_cells : (mfRow mf0 (.slice none 0 0)).toArray = #[.int .i64 0, .int .i64 0, .int .i64 0, .int .i64 0, .int .u8 0, .int .u8 0, .int .u8 0, .int .u8 0, .int .u8 0, .int .u8 0, .int .u8 0, .int .u8 0, .int .u8 0, .int .u8 0, .int .u8 0, .int .u8 0, .int .u8 0, .int .u8 0, .int .u8 0, .int .u8 0, .int .u8 0, .int .u8 0, .int .u8 0, .int .u8 0, .int .u8 0, .int .u8 0, .int .u8 0, .int .u8 0, .int .u8 0, .int .u8 0, .int .u8 0, .int .u8 0, .int .u8 0, .int .u8 0, .int .u8 0, .int .u8 0, .slice none 0 0] := by rfl
theorem rd_box {w w' : World} {p q : Nat} {rv : Value} {row : List Nat} {place c : Nat} {cs : Array Value} {T : TypeId} (h : Rd w p rv row place c) (hq : w.heap[q]? = some (.cells cs T (0, 0))) (hT : T ≠ 128 ∧ T ≠ 5) (hg : w.grownBy w' (some q)) : Rd w' p rv row place c := by
  refine h.grown hg ?_ ?_
  · intro e
    cases e
    have := h.blk.symm.trans hq
    injection this with this
    injection this with _ h2 _
    exact hT.1 h2.symm
  · cases hv : rv.ownBlock with
    | none => exact .inl rfl
    | some j =>
      right
      intro e
      cases e
      rcases h.own.2 with ⟨h1, _⟩ | ⟨g, cap, cur, h1, _, h3, _⟩
      · rw [h1] at hv; cases hv
      · rw [h1] at hv
        cases hv
        have := h3.symm.trans hq
        injection this with this
        injection this with _ h2 _
        exact hT.2 h2.symm

/-- What Take answers. -/
def MTakePost (b : List Nat) (w : World) (r : Ending) (w' : World) : Prop :=
  Below w.heap.size w w' ∧ ∃ (m : MF) (c : Nat) (v : Value), RMan b m c ∧ r = .returned (.tuple #[.agg (mfRow m v).toArray, errV c]) ∧ PsAt w' (fun j => w.heap.size ≤ j) v m.ps
theorem mtake_bad {b : List Nat} {w w' : World} {c : Nat} (hb : Below w.heap.size w w') (h : RMan b mf0 c) : MTakePost b w (.returned (.tuple #[.agg (mfRow mf0 (.slice none 0 0)).toArray, errV c])) w' := ⟨hb, mf0, c, _, h, rfl, ps_nil _ _⟩

set_option maxHeartbeats 16000000 in
set_option maxRecDepth 100000 in
theorem mtake_any (v : Value) (b : List Nat) (w : World) (hr : Reads w .u8 v b) (hb : ∀ y ∈ b, y < 256) (hx : b.length ≤ 80000000000000) :
    Calls Tryz.prog 18 #[v] w (MTakePost b w) := by
  obtain ⟨ao, cap, rfl, _, _, _⟩ := hr.val
  obtain ⟨W1, hW1⟩ : ∃ W1, W1 = w.alloc (.cells (mfRow mf0 (.slice none 0 0)).toArray 57) := ⟨_, rfl⟩
  have hb1 : Below w.heap.size w W1 := by rw [hW1]; exact (Below.refl _ _).alloc (Nat.le_refl _) _
  have hx1 : MB W1 w.heap.size mf0 (.slice none 0 0) 57 := by rw [hW1]; exact mb_new _ _ _ _
  have HONE := Lib.hid (frameOne_any _ b W1 (hr.new hb1) hb (by omega))
  have HBB := Lib.hid hb
  have HB1 := Lib.hid hb1
  have HX1 := Lib.hid hx1
  generalize b.length = nb at *
  rw [mf0_cells] at hW1
  have HW1 := Lib.hid hW1
  have HMS : Hid ((Tryz.prog.info? 57).map (·.size) = some (mfRow mf0 (.slice none 0 0)).toArray.size) := Lib.hid (by rw [mfRow_size dg_zero]; exact Tryz.sizeMF)
  clear hr hb hx hb1 hx1 hW1
  go_enter Tryz.func18, Tryz.ntmps18
  go_wp2_with fail
  rw [← HW1.out]
  refine HONE.out.mono ?_
  rintro r w2 ⟨v2, t, c0, rfl, hfo, hat, hb2⟩
  obtain ⟨ao2, cap2, rfl, _, _, _⟩ := hat.reads.val
  have HFO := Lib.hid hfo
  have HR2 := Lib.hid hat.reads
  have HB2 : Hid (Below W1.heap.size W1 w2) := Lib.hid hb2
  have HX2 := Lib.hid (HX1.out.old hb2)
  have HBW2 : Hid (Below w.heap.size w w2) := Lib.hid (HB1.out.trans (hb2.mono HB1.out.size))
  have HT8 := Lib.hid (mf_fo_good HBB.out hfo)
  obtain ⟨nt, hnt⟩ : ∃ n, n = t.length := ⟨_, rfl⟩
  rw [← hnt] at HR2
  rw [← hnt]
  clear hfo hat hb2 hnt
  by_cases hz : c0 = 0
  rotate_left
  · have HZ := Lib.hid hz
    rw [errV_pos hz]
    clear hz
    go_wp2_with (((with_reducible show wpList _ _ _ (Oper.mk none _ _ _ _ _ :: _) _ _); go_must (refine wpList_store_box rfl 57 (.tmp 2) (.tmp 17) rfl w.heap.size (mfRow mf0 (.slice none 0 0)).toArray rfl rfl _ _ HX2.out HMS.out rfl (all_one (mfRow_one _ rfl)) ?_)))
    intro W3 hq3 hb3 _
    have HQ3 := Lib.hid hq3
    have HB3 : Hid (Below w.heap.size w W3) := Lib.hid (HBW2.out.trans hb3)
    clear hq3 hb3
    go_wp2
    refine bodyPost_ret (v := .tuple #[.agg (mfRow mf0 (.slice none 0 0)).toArray, .iface 68 (.int .i64 (c0 : Int))]) (results_row_tmp rfl _ _ w.heap.size _ _ _ _ _ rfl rfl HQ3.out Tryz.underlying57 rfl HMS.out) rfl ?_
    rw [← errV_pos HZ.out]
    exact mtake_bad HB3.out ⟨t, c0, HFO.out, by rw [if_pos HZ.out]; exact ⟨rfl, rfl⟩⟩
  have HT88 := Lib.hid (HT8.out hz)
  have HNEW := Lib.hid (new_any _ t w2 HR2.out HT88.out.1 (by have := HT88.out.2.1; omega))
  have HFZ : Hid (FO b t 0) := Lib.hid (by rw [← hz]; exact HFO.out)
  rw [hz, errV_zero]
  clear hz HT8
  go_wp2_with fail
  refine HNEW.out.mono ?_
  rintro r w3 ⟨p, rv, rfl, hrd3, hb3, hp3, _⟩
  have HB3 : Hid (Below W1.heap.size W1 w3) := Lib.hid (HB2.out.trans (hb3.mono HB2.out.size))
  have HPW : Hid (W1.heap.size ≤ p) := Lib.hid (Nat.le_trans HB2.out.size hp3)
  obtain ⟨W4, hW4⟩ : ∃ W, W = w3.alloc (.cells (mfRow mf0 (.slice none 0 0)).toArray 57) := ⟨_, rfl⟩
  have hb4 : Below w3.heap.size w3 W4 := by rw [hW4]; exact (Below.refl _ _).alloc (Nat.le_refl _) _
  have hq4 : MB W4 w3.heap.size mf0 (.slice none 0 0) 57 := by rw [hW4]; exact mb_new _ _ _ _
  have HPQ0 := hrd3.lt
  have hrd4 := hrd3.below hb4 (Nat.le_refl _)
  have HB4 : Hid (Below W1.heap.size W1 W4) := Lib.hid (HB3.out.trans (hb4.mono HB3.out.size))
  have HE4 := Lib.hid (within_any hrd4 999999)
  rw [mf0_cells] at hW4
  obtain ⟨q, hq⟩ : ∃ q, q = w3.heap.size := ⟨_, rfl⟩
  rw [← hq] at hq4 HPQ0
  have HPQ := Lib.hid HPQ0
  have HQ4 := Lib.hid hq4
  have HQQ := Lib.hid hq
  have HQG : Hid (W1.heap.size ≤ q) := Lib.hid (by have := HPQ.out; have := HPW.out; omega)
  have HW4 := Lib.hid hW4
  clear hrd3 hb3 hp3 hW4 hb4 hq4 HPQ0 hrd4 hq
  go_wp2_with fail
  rw [← HW4.out, ← HQQ.out]
  refine HE4.out.mono ?_
  rintro r w5 ⟨n1, pl1, c1, rfl, hn1, hrd5, hg5⟩
  obtain ⟨k1, hk1⟩ : ∃ a, a = withinR n1 999999 := ⟨_, rfl⟩
  obtain ⟨d1, hd1⟩ : ∃ a, a = withinC n1 c1 999999 := ⟨_, rfl⟩
  rw [← hd1] at hrd5
  rw [← hk1]
  have HK1 := Lib.hid hk1
  have HD1 := Lib.hid hd1
  have HN1 := Lib.hid hn1
  have hq5 : MB w5 q ⟨0, 0, 0, 0, zero32, []⟩ (.slice none 0 0) 57 := (hg5.block q HQ4.out.lt (fun e => by have := HPQ.out; cases e; omega)).trans HQ4.out
  have HB5 : Hid (Below W1.heap.size W1 w5) := Lib.hid (HB4.out.grown hg5 HB4.out.size fun j hj => by cases hj; exact HPW.out)
  obtain ⟨W6, hW6⟩ : ∃ W, W = w5.setCell ⟨q, 0, none⟩ (.int .i64 (k1 : Int)) := ⟨_, rfl⟩
  have hq6 : MB W6 q ⟨(k1 : Int), 0, 0, 0, zero32, []⟩ (.slice none 0 0) 57 := by rw [hW6]; exact hq5.set0 _
  have hrd6 : Rd W6 p rv t pl1 d1 := by rw [hW6]; exact rd_box hrd5 hq5 ⟨by decide, by decide⟩ (grown_set _ _ _ _)
  have HB6 : Hid (Below W1.heap.size W1 W6) := Lib.hid (by rw [hW6]; exact HB5.out.setCell HQG.out _)
  have HQ6 := Lib.hid hq6
  have HE6 := Lib.hid (within_any hrd6 1048576)
  obtain ⟨x0, x1, x2, x3, _⟩ := hq5.x dg_zero
  have f0 := hq5.fz 0
  have HW6 := Lib.hid hW6
  clear hk1 hd1 hn1 hrd5 hg5 hq5 hW6 hq6 hrd6
  go_wp2_with fail
  rw [← HW6.out]
  clear x0 x1 x2 x3 f0
  refine HE6.out.mono ?_
  rintro r w7 ⟨n2, pl2, c2, rfl, hn2, hrd7, hg7⟩
  obtain ⟨k2, hk2⟩ : ∃ a, a = withinR n2 1048576 := ⟨_, rfl⟩
  obtain ⟨d2, hd2⟩ : ∃ a, a = withinC n2 c2 1048576 := ⟨_, rfl⟩
  rw [← hd2] at hrd7
  rw [← hk2]
  have HK2 := Lib.hid hk2
  have HD2 := Lib.hid hd2
  have HN2 := Lib.hid hn2
  have hq7 : MB w7 q ⟨(k1 : Int), 0, 0, 0, zero32, []⟩ (.slice none 0 0) 57 := (hg7.block q HQ6.out.lt (fun e => by have := HPQ.out; cases e; omega)).trans HQ6.out
  have HB7 : Hid (Below W1.heap.size W1 w7) := Lib.hid (HB6.out.grown hg7 HB6.out.size fun j hj => by cases hj; exact HPW.out)
  obtain ⟨W8, hW8⟩ : ∃ W, W = w7.setCell ⟨q, 1, none⟩ (.int .i64 (k2 : Int)) := ⟨_, rfl⟩
  have hq8 : MB W8 q ⟨(k1 : Int), (k2 : Int), 0, 0, zero32, []⟩ (.slice none 0 0) 57 := by rw [hW8]; exact hq7.set1 _
  have hrd8 : Rd W8 p rv t pl2 d2 := by rw [hW8]; exact rd_box hrd7 hq7 ⟨by decide, by decide⟩ (grown_set _ _ _ _)
  have HB8 : Hid (Below W1.heap.size W1 W8) := Lib.hid (by rw [hW8]; exact HB7.out.setCell HQG.out _)
  have HQ8 := Lib.hid hq8
  have HE8 := Lib.hid (within_any hrd8 1048576)
  obtain ⟨x0, x1, x2, x3, _⟩ := hq7.x dg_zero
  have f0 := hq7.fz 1
  have HW8 := Lib.hid hW8
  clear hk2 hd2 hn2 hrd7 hg7 hq7 hW8 hq8 hrd8
  go_wp2_with fail
  rw [← HW8.out]
  clear x0 x1 x2 x3 f0
  refine HE8.out.mono ?_
  rintro r w9 ⟨n3, pl3, c3, rfl, hn3, hrd9, hg9⟩
  obtain ⟨k3, hk3⟩ : ∃ a, a = withinR n3 1048576 := ⟨_, rfl⟩
  obtain ⟨d3, hd3⟩ : ∃ a, a = withinC n3 c3 1048576 := ⟨_, rfl⟩
  rw [← hd3] at hrd9
  rw [← hk3]
  have HK3 := Lib.hid hk3
  have HD3 := Lib.hid hd3
  have HN3 := Lib.hid hn3
  have hq9 : MB w9 q ⟨(k1 : Int), (k2 : Int), 0, 0, zero32, []⟩ (.slice none 0 0) 57 := (hg9.block q HQ8.out.lt (fun e => by have := HPQ.out; cases e; omega)).trans HQ8.out
  have HB9 : Hid (Below W1.heap.size W1 w9) := Lib.hid (HB8.out.grown hg9 HB8.out.size fun j hj => by cases hj; exact HPW.out)
  obtain ⟨W10, hW10⟩ : ∃ W, W = w9.setCell ⟨q, 2, none⟩ (.int .i64 (k3 : Int)) := ⟨_, rfl⟩
  have hq10 : MB W10 q ⟨(k1 : Int), (k2 : Int), (k3 : Int), 0, zero32, []⟩ (.slice none 0 0) 57 := by rw [hW10]; exact hq9.set2 _
  have hrd10 : Rd W10 p rv t pl3 d3 := by rw [hW10]; exact rd_box hrd9 hq9 ⟨by decide, by decide⟩ (grown_set _ _ _ _)
  have HB10 : Hid (Below W1.heap.size W1 W10) := Lib.hid (by rw [hW10]; exact HB9.out.setCell HQG.out _)
  have HQ10 := Lib.hid hq10
  have HE10 := Lib.hid (within_any hrd10 1048576)
  obtain ⟨x0, x1, x2, x3, _⟩ := hq9.x dg_zero
  have f0 := hq9.fz 2
  have HW10 := Lib.hid hW10
  clear hk3 hd3 hn3 hrd9 hg9 hq9 hW10 hq10 hrd10
  go_wp2_with fail
  rw [← HW10.out]
  clear x0 x1 x2 x3 f0
  refine HE10.out.mono ?_
  rintro r w11 ⟨n4, pl4, c4, rfl, hn4, hrd11, hg11⟩
  obtain ⟨k4, hk4⟩ : ∃ a, a = withinR n4 1048576 := ⟨_, rfl⟩
  obtain ⟨d4, hd4⟩ : ∃ a, a = withinC n4 c4 1048576 := ⟨_, rfl⟩
  rw [← hd4] at hrd11
  rw [← hk4]
  have HK4 := Lib.hid hk4
  have HD4 := Lib.hid hd4
  have HN4 := Lib.hid hn4
  have hq11 : MB w11 q ⟨(k1 : Int), (k2 : Int), (k3 : Int), 0, zero32, []⟩ (.slice none 0 0) 57 := (hg11.block q HQ10.out.lt (fun e => by have := HPQ.out; cases e; omega)).trans HQ10.out
  have HB11 : Hid (Below W1.heap.size W1 w11) := Lib.hid (HB10.out.grown hg11 HB10.out.size fun j hj => by cases hj; exact HPW.out)
  obtain ⟨W12, hW12⟩ : ∃ W, W = w11.setCell ⟨q, 3, none⟩ (.int .i64 (k4 : Int)) := ⟨_, rfl⟩
  have hq12 : MB W12 q ⟨(k1 : Int), (k2 : Int), (k3 : Int), (k4 : Int), zero32, []⟩ (.slice none 0 0) 57 := by rw [hW12]; exact hq11.set3 _
  have hrd12 : Rd W12 p rv t pl4 d4 := by rw [hW12]; exact rd_box hrd11 hq11 ⟨by decide, by decide⟩ (grown_set _ _ _ _)
  have HB12 : Hid (Below W1.heap.size W1 W12) := Lib.hid (by rw [hW12]; exact HB11.out.setCell HQG.out _)
  have HQ12 := Lib.hid hq12
  have HE12 := Lib.hid (takeDigest_any hrd12)
  obtain ⟨x0, x1, x2, x3, _⟩ := hq11.x dg_zero
  have f0 := hq11.fz 3
  have HW12 := Lib.hid hW12
  clear hk4 hd4 hn4 hrd11 hg11 hq11 hW12 hq12 hrd12
  go_wp2_with fail
  rw [← HW12.out]
  clear x0 x1 x2 x3 f0
  refine HE12.out.mono ?_
  rintro r w13 ⟨out, pl5, c5, rfl, hfx, hrd13, hg13⟩
  have hq13 : MB w13 q ⟨(k1 : Int), (k2 : Int), (k3 : Int), (k4 : Int), zero32, []⟩ (.slice none 0 0) 57 := (hg13.block q HQ12.out.lt (fun e => by have := HPQ.out; cases e; omega)).trans HQ12.out
  have HDG : Hid (Dg (dig out)) := Lib.hid (dig_ok hfx (fun y hy => HT88.out.1 y (List.mem_of_mem_drop hy)))
  obtain ⟨D, hD⟩ : ∃ D, D = dig out := ⟨_, rfl⟩
  rw [← hD] at HDG ⊢
  have HDD := Lib.hid hD
  have HFX := Lib.hid hfx
  have HB13 : Hid (Below W1.heap.size W1 w13) := Lib.hid (HB12.out.grown hg13 HB12.out.size fun j hj => by cases hj; exact HPW.out)
  have HQ13 := Lib.hid hq13
  have HRD13 := Lib.hid hrd13
  have HAS : Hid ((Tryz.prog.info? 26).map (·.size) = some (vals .u8 D).toArray.size) := Lib.hid (by rw [List.size_toArray, vals_length, HDG.out.1]; exact Tryz.sizeDG)
  have HFT : Hid (4 + (vals .u8 D).toArray.size ≤ (mfRow ⟨(k1 : Int), (k2 : Int), (k3 : Int), (k4 : Int), zero32, []⟩ (.slice none 0 0)).toArray.size) := Lib.hid (by rw [List.size_toArray, vals_length, HDG.out.1, mfRow_size dg_zero]; decide)
  have HPS : Hid (_ = (mfRow ⟨(k1 : Int), (k2 : Int), (k3 : Int), (k4 : Int), D, []⟩ (.slice none 0 0)).toArray) := Lib.hid (mfRow_store (m := ⟨(k1 : Int), (k2 : Int), (k3 : Int), (k4 : Int), zero32, []⟩) (v := .slice none 0 0) (D := D) dg_zero.1 HDG.out.1)
  clear hfx hrd13 hg13 hq13 hD
  go_wp2_with (((with_reducible show wpList _ _ _ (Oper.mk none _ _ _ _ _ :: _) _ _); go_must (refine wpList_store_part rfl 26 (.tmp 35) (.tmp 34) rfl q 4 (vals .u8 D).toArray (mfRow ⟨(k1 : Int), (k2 : Int), (k3 : Int), (k4 : Int), D, []⟩ (.slice none 0 0)).toArray rfl rfl 57 (mfRow ⟨(k1 : Int), (k2 : Int), (k3 : Int), (k4 : Int), zero32, []⟩ (.slice none 0 0)).toArray HQ13.out HAS.out HFT.out (all_one (vals_one8 D)) HPS.out ?_)))
  intro W14 hq14 hg14 hs14
  have hq14 : MB W14 q ⟨(k1 : Int), (k2 : Int), (k3 : Int), (k4 : Int), D, []⟩ (.slice none 0 0) 57 := hq14
  have hrd14 : Rd W14 p rv t pl5 c5 := rd_box HRD13.out HQ13.out ⟨by decide, by decide⟩ hg14
  have HB14 : Hid (Below W1.heap.size W1 W14) := Lib.hid (HB13.out.grown hg14 HB13.out.size fun j hj => by cases hj; exact HQG.out)
  have HQ14 := Lib.hid hq14
  have HTP := Lib.hid (takeParts_any hrd14 (k2 : Int) (by have := HK2.out; have := withinR_le n2 1048576; omega))
  obtain ⟨_, x1, _, _, _⟩ := hq14.x HDG.out
  clear hq14 hrd14 hg14 hs14
  go_wp2_with fail
  clear x1
  refine HTP.out.mono ?_
  rintro r w15 ⟨v15, n6, pl6, c6, ls, pl7, c7, rfl, hn6, htp, hrd15, hg15, hps⟩
  obtain ⟨ps, hpsd⟩ : ∃ ps, ps = if c7 = 0 then mkParts (k2 : Int) ls else [] := ⟨_, rfl⟩
  rw [← hpsd] at hps
  have HPSD := Lib.hid hpsd
  obtain ⟨ao15, cap15, rfl, _, _, _⟩ := hps.val
  obtain ⟨np, hnp⟩ : ∃ n, n = ps.length := ⟨_, rfl⟩
  rw [← hnp] at hps ⊢
  have hq15 : MB w15 q ⟨(k1 : Int), (k2 : Int), (k3 : Int), (k4 : Int), D, []⟩ (.slice none 0 0) 57 := (hg15.block q HQ14.out.lt (fun e => by have := HPQ.out; cases e; omega)).trans HQ14.out
  have HB15 : Hid (Below W1.heap.size W1 w15) := Lib.hid (HB14.out.grown hg15 HB14.out.size fun j hj => by cases hj; exact HPW.out)
  obtain ⟨W16, hW16⟩ : ∃ W, W = w15.setCell ⟨q, 36, none⟩ (.slice ao15 np cap15) := ⟨_, rfl⟩
  have hq16 : MB W16 q ⟨(k1 : Int), (k2 : Int), (k3 : Int), (k4 : Int), D, []⟩ (.slice ao15 np cap15) 57 := by rw [hW16]; exact hq15.set36 HDG.out.1 _
  have hrd16 : Rd W16 p rv t pl7 c7 := by rw [hW16]; exact rd_box hrd15 hq15 ⟨by decide, by decide⟩ (grown_set _ _ _ _)
  have HB16 : Hid (Below W1.heap.size W1 W16) := Lib.hid (by rw [hW16]; exact HB15.out.setCell HQG.out _)
  have HPS16 : Hid (PsAt W16 (fun j => W14.heap.size ≤ j) (.slice ao15 np cap15) ps) := Lib.hid (hps.keep ⟨by rw [hW16]; simp, fun j hj hB => by rw [hW16]; exact heap_setCell_other _ _ _ _ (by have h1 := HQ14.out.lt; show j ≠ q; omega)⟩)
  have HQ16 := Lib.hid hq16
  have HN6 := Lib.hid hn6
  have HTPS := Lib.hid htp
  have HNP := Lib.hid hnp
  have HEN := Lib.hid (end_any hrd16)
  obtain ⟨_, _, _, _, x36⟩ := hq15.x HDG.out
  have f36 := hq15.fz 36
  have HW16 := Lib.hid hW16
  obtain ⟨c9, hc9⟩ : ∃ c9, c9 = endC (t.length - pl7) c7 := ⟨_, rfl⟩
  rw [← hc9] at HEN
  have HC9 : Hid (c9 = endC (t.drop pl7).length c7) := Lib.hid (by rw [hc9, List.length_drop])
  have HTM : Hid (TMan t ⟨(k1 : Int), (k2 : Int), (k3 : Int), (k4 : Int), D, mkParts (k2 : Int) ls⟩ (t.drop pl7) c7) := Lib.hid (by
    rw [HK1.out, HK2.out, HK3.out, HK4.out, HDD.out]
    refine ⟨n1, t.drop pl1, c1, n2, t.drop pl2, c2, n3, t.drop pl3, c3, n4, t.drop pl4, c4, out, t.drop pl5, c5, n6, t.drop pl6, c6, ls, ?_, ?_, ?_, ?_, ?_, HN6.out, ?_, rfl⟩
    · have := HN1.out; rwa [List.drop_zero] at this
    · rw [← HD1.out]; exact HN2.out
    · rw [← HD2.out]; exact HN3.out
    · rw [← HD3.out]; exact HN4.out
    · rw [← HD4.out]; exact HFX.out
    · exact HTPS.out)
  clear hn6 htp hrd15 hg15 hps hpsd hnp hq15 hW16 hq16 hrd16 hc9
  go_wp2_with fail
  rw [← HW16.out]
  clear x36 f36
  refine HEN.out.mono ?_
  rintro r w17 ⟨rfl, nd, rfl⟩
  have hD17 : Below W16.heap.size W16 (W16.drewN nd) := ⟨rfl, rfl, rfl, Nat.le_refl _, fun _ _ => rfl⟩
  obtain ⟨W17, hW17⟩ : ∃ W, W = W16.drewN nd := ⟨_, rfl⟩
  rw [← hW17] at hD17 ⊢
  have HB17 : Hid (Below W1.heap.size W1 W17) := Lib.hid (HB16.out.trans (hD17.mono HB16.out.size))
  have HQ17 := Lib.hid (HQ16.out.old hD17)
  have HX17 := Lib.hid (HX1.out.old HB17.out)
  have HPS17 := Lib.hid (HPS16.out.old hD17)
  have HBW17 : Hid (Below w.heap.size w W17) := Lib.hid (HB1.out.trans (HB17.out.mono HB1.out.size))
  clear hD17 hW17
  by_cases hz2 : c9 = 0
  rotate_left
  · have HZ := Lib.hid hz2
    rw [errV_pos hz2]
    clear hz2
    go_wp2_with (((with_reducible show wpList _ _ _ (Oper.mk none _ _ _ _ _ :: _) _ _); go_must (refine wpList_store_box rfl 57 (.tmp 2) (.tmp 45) rfl w.heap.size (mfRow mf0 (.slice none 0 0)).toArray rfl rfl _ _ HX17.out HMS.out rfl (all_one (mfRow_one _ rfl)) ?_)))
    intro W18 hq18 hb18 _
    have HQ18 := Lib.hid hq18
    have HB18 : Hid (Below w.heap.size w W18) := Lib.hid (HBW17.out.trans hb18)
    clear hq18 hb18
    go_wp2
    refine bodyPost_ret (v := .tuple #[.agg (mfRow mf0 (.slice none 0 0)).toArray, .iface 68 (.int .i64 (c9 : Int))]) (results_row_tmp rfl _ _ w.heap.size _ _ _ _ _ rfl rfl HQ18.out Tryz.underlying57 rfl HMS.out) rfl ?_
    rw [← errV_pos HZ.out]
    refine mtake_bad HB18.out ⟨t, 0, HFZ.out, ?_⟩
    rw [if_neg (by decide)]
    exact ⟨_, _, _, HTM.out, by rw [← HC9.out, if_pos HZ.out]; exact ⟨rfl, rfl⟩⟩
  have HZ2 : Hid (¬ endC (t.drop pl7).length c7 ≠ 0) := Lib.hid (by rw [← HC9.out, hz2]; simp)
  have HPP : Hid (ps = mkParts (k2 : Int) ls) := Lib.hid (by rw [HPSD.out, if_pos (mf_endC_zero HZ2.out).2])
  have HTMP : Hid (TMan t ⟨(k1 : Int), (k2 : Int), (k3 : Int), (k4 : Int), D, ps⟩ (t.drop pl7) c7) := Lib.hid (by rw [HPP.out]; exact HTM.out)
  have HMS2 : Hid ((Tryz.prog.info? 57).map (·.size) = some (mfRow ⟨(k1 : Int), (k2 : Int), (k3 : Int), (k4 : Int), D, ps⟩ (.slice ao15 np cap15)).toArray.size) := Lib.hid (by rw [mfRow_size HDG.out]; exact Tryz.sizeMF)
  have hck := mcheck_any ⟨(k1 : Int), (k2 : Int), (k3 : Int), (k4 : Int), D, ps⟩ (.slice ao15 np cap15) W17 _ HPS17.out HDG.out
  have hq17 : MB W17 q ⟨(k1 : Int), (k2 : Int), (k3 : Int), (k4 : Int), D, ps⟩ (.slice ao15 np cap15) 57 := HQ17.out
  obtain ⟨M, hM⟩ : ∃ M : MF, M = ⟨(k1 : Int), (k2 : Int), (k3 : Int), (k4 : Int), D, ps⟩ := ⟨_, rfl⟩
  rw [← hM] at HTMP HMS2 hck hq17
  have HPSM : Hid (PsAt W17 (fun j => W14.heap.size ≤ j) (.slice ao15 np cap15) M.ps) := Lib.hid (by rw [hM]; exact HPS17.out)
  have HDM : Hid (Dg M.prev) := Lib.hid (by rw [hM]; exact HDG.out)
  obtain ⟨c10, hc10⟩ : ∃ x, x = mchk M := ⟨_, rfl⟩
  rw [← hc10] at hck
  have HC10 := Lib.hid hc10
  have HCK := Lib.hid hck
  have HQM := Lib.hid hq17
  have HQLT : Hid (W1.heap.size ≤ W14.heap.size) := Lib.hid HB14.out.size
  rw [hz2, errV_zero]
  clear hz2 hck hq17 hM hc10
  go_wp2_with (((with_reducible show wpList _ _ _ (Oper.mk (some 47) _ _ _ _ _ :: _) _ _); go_must (refine wpList_load_row rfl 57 (.tmp 7) rfl q rfl _ (mfRow M (.slice ao15 np cap15)).toArray _ _ HQM.out Tryz.underlying57 rfl HMS2.out ?_)))
  refine HCK.out.mono ?_
  rintro r w18 ⟨rfl, hb18⟩
  have HQ18 := Lib.hid (HQM.out.old hb18)
  have HB18 : Hid (Below W1.heap.size W1 w18) := Lib.hid (HB17.out.trans (hb18.mono HB17.out.size))
  have HX18 := Lib.hid (HX1.out.old HB18.out)
  have HPS18 := Lib.hid (HPSM.out.old hb18)
  have HBW18 : Hid (Below w.heap.size w w18) := Lib.hid (HB1.out.trans (HB18.out.mono HB1.out.size))
  clear hb18
  by_cases hz3 : c10 = 0
  rotate_left
  · have HZ := Lib.hid hz3
    rw [errV_pos hz3]
    clear hz3
    go_wp2_with (((with_reducible show wpList _ _ _ (Oper.mk none _ _ _ _ _ :: _) _ _); go_must (refine wpList_store_box rfl 57 (.tmp 2) (.tmp 51) rfl w.heap.size (mfRow mf0 (.slice none 0 0)).toArray rfl rfl _ _ HX18.out HMS.out rfl (all_one (mfRow_one _ rfl)) ?_)))
    intro W19 hq19 hb19 _
    have HQ19 := Lib.hid hq19
    have HB19 : Hid (Below w.heap.size w W19) := Lib.hid (HBW18.out.trans hb19)
    clear hq19 hb19
    go_wp2
    refine bodyPost_ret (v := .tuple #[.agg (mfRow mf0 (.slice none 0 0)).toArray, .iface 68 (.int .i64 (c10 : Int))]) (results_row_tmp rfl _ _ w.heap.size _ _ _ _ _ rfl rfl HQ19.out Tryz.underlying57 rfl HMS.out) rfl ?_
    rw [← errV_pos HZ.out]
    refine mtake_bad HB19.out ⟨t, 0, HFZ.out, ?_⟩
    rw [if_neg (by decide)]
    refine ⟨_, _, _, HTMP.out, ?_⟩
    rw [if_neg HZ2.out]
    exact ⟨HC10.out, by rw [if_neg HZ.out]⟩
  have HZ3 := Lib.hid hz3
  have HSZ2 : Hid ((mfRow mf0 (.slice none 0 0)).toArray.size = (mfRow M (.slice ao15 np cap15)).toArray.size) := Lib.hid (by rw [mfRow_size dg_zero, mfRow_size HDM.out])
  rw [hz3, errV_zero]
  clear hz3
  go_wp2_with (first
    | ((with_reducible show wpList _ _ _ (Oper.mk (some 53) _ _ _ _ _ :: _) _ _); go_must (refine wpList_load_row rfl 57 (.tmp 7) rfl q rfl _ (mfRow M (.slice ao15 np cap15)).toArray _ _ HQ18.out Tryz.underlying57 rfl HMS2.out ?_))
    | ((with_reducible show wpList _ _ _ (Oper.mk none _ _ _ _ _ :: _) _ _); go_must (refine wpList_store_box rfl 57 (.tmp 2) (.tmp 53) rfl w.heap.size (mfRow M (.slice ao15 np cap15)).toArray rfl rfl _ _ HX18.out HMS2.out HSZ2.out (all_one (mfRow_one _ rfl)) ?_)))
  intro W19 hq19 hb19 ho19
  have HQ19 := Lib.hid hq19
  have HB19 : Hid (Below w.heap.size w W19) := Lib.hid (HBW18.out.trans hb19)
  have HPS19 : Hid (PsAt W19 (fun j => w.heap.size ≤ j) (.slice ao15 np cap15) M.ps) := Lib.hid ((HPS18.out.keep ⟨hb19.size, fun j hj hB => ho19 j (by have := HQLT.out; have := HX1.out.lt; have := HB1.out.size; omega)⟩).mono fun j _ hB => by have := HQLT.out; have := HB1.out.size; omega)
  clear hq19 hb19 ho19
  go_wp2
  refine bodyPost_ret (v := .tuple #[.agg (mfRow M (.slice ao15 np cap15)).toArray, .nilIface]) (results_row_tmp rfl _ _ w.heap.size _ _ _ _ _ rfl rfl HQ19.out Tryz.underlying57 rfl HMS2.out) rfl ?_
  refine ⟨HB19.out, M, 0, _, ⟨t, 0, HFZ.out, ?_⟩, by rw [errV_zero], HPS19.out⟩
  rw [if_neg (by decide)]
  refine ⟨_, _, _, HTMP.out, ?_⟩
  rw [if_neg HZ2.out, ← HC10.out, HZ3.out]
  exact ⟨rfl, by rw [if_pos rfl]⟩

end Go.Proofs.YtpebmmhokigglaaGreatDoor
