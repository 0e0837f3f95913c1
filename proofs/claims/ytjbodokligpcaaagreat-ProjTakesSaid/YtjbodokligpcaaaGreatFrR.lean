/- The contracts of the document's own frames. -/
import Derived.Test.YtjbodokligpcaaaGreatFaP
import Derived.Test.YtjbodokligpcaaaGreatTeP
import Derived.Test.YtjbodokligpcaaaGreatCrcR
import Derived.Test.YtjbodokligpcaaaGreatMidA
import Derived.Deep.RegionHeldLaw
namespace Go.Proofs.YtjbodokligpcaaaGreat
open Go.RowKit

theorem At.mid {w : World} {B : Nat → Prop} {k : IntKind} {ao : Option Addr} {n cap : Nat} {l : List Nat} (h : At w B k (.slice ao n cap) l) {m j : Nat} (hm : m ≤ j) (hj : j ≤ l.length) : At w B k (.slice (if cap = m then ao else ao.map fun x => x.add m) (j - m) (cap - m)) ((l.take j).drop m) :=
  (h.head hj (h.reads.head hj)).tail (by rw [List.length_take]; omega) (h.reads.mid hm hj)

theorem ownsV_below {w w' : World} {base : Nat} {e : TypeId} {v : Value} {n : Nat} {us : List Value} (h : w.ownsRow base e 1 v n us) (hb : Below w.heap.size w w') : w'.ownsRow base e 1 v n us :=
  h.kept (row := none) ⟨hb.os, hb.tape, hb.output, hb.size, fun j hj _ => hb.block j hj⟩ (by cases v.ownBlock <;> simp)

/-- What the document's own take answers. -/
def RefFT (A : Nat → Prop) (b : List Nat) (w : World) (e : Ending) (w' : World) : Prop :=
  ∃ (v' : Value) (t : List Nat) (s c : Nat), e = .returned (.tuple #[v', .int .i64 (s : Int), .int .i64 (c : Int)]) ∧ FT b t s c ∧ At w' A .u8 v' t ∧ Below w.heap.size w w'

/-- In which block the answer lies, if it has room at all. -/
def BlkU (A : Nat → Prop) (w : World) (v : Value) : Prop := ∃ ao n cap, v = .slice ao n cap ∧ (cap = 0 ∨ ∃ b off, ao = some ⟨b, off, none⟩ ∧ A b ∧ b < w.heap.size)
/-- The same, and in which block the answer lies. -/
def RefFTU (A : Nat → Prop) (b : List Nat) (w : World) (e : Ending) (w' : World) : Prop :=
  ∃ (v' : Value) (t : List Nat) (s c : Nat), e = .returned (.tuple #[v', .int .i64 (s : Int), .int .i64 (c : Int)]) ∧ FT b t s c ∧ At w' A .u8 v' t ∧ Below w.heap.size w w' ∧ BlkU A w v'
theorem refFT_bad {A : Nat → Prop} {b : List Nat} {w w' : World} {c : Nat} (h : FT b [] 0 c) (hb : Below w.heap.size w w') : RefFTU A b w (.returned (.tuple #[.slice none 0 0, .int .i64 0, .int .i64 (c : Int)])) w' :=
  ⟨_, [], 0, c, rfl, h, ⟨(owns_nil w' 0 5 .u8).reads, .inl rfl⟩, hb, _, _, _, rfl, .inl rfl⟩
theorem At.blkU {w : World} {A : Nat → Prop} {ao : Option Addr} {n cap : Nat} {l : List Nat} (h : At w A .u8 (.slice ao n cap) l) (hl : 0 < l.length) (k : Nat) :
    ∃ b off, (if cap = k then ao else ao.map fun x => x.add k) = some ⟨b, off, none⟩ ∧ A b ∧ b < w.heap.size := by
  obtain ⟨⟨ao', cap', hv, _, _, _, h4⟩, h5⟩ := h
  simp only [Value.slice.injEq] at hv
  obtain ⟨rfl, _, rfl⟩ := hv
  rcases h4 with rfl | ⟨b, off, rfl, hb, _⟩
  · cases hl
  · rcases h5 with rfl | ⟨b', off', _, _, hv, hB⟩
    · cases hl
    · cases hv
      by_cases hc : cap = k
      · exact ⟨b, off, by rw [if_pos hc], hB, hb⟩
      · exact ⟨b, off + k, by rw [if_neg hc, Option.map_some, Addr.add_lit], hB, hb⟩

set_option maxHeartbeats 1000000 in
set_option maxRecDepth 100000 in
theorem refFrTakeU_any (v : Value) (b : List Nat) (w : World) (A : Nat → Prop) (hA : At w A .u8 v b) (hb : ∀ y ∈ b, y < 256) :
    Calls Tryz.prog 23 #[v] w (RefFTU A b w) := by
  obtain ⟨ao, cap, rfl, h1, h2, h3⟩ := hA.reads.val
  have HR := Lib.hid hA.reads
  have HAT := Lib.hid hA; clear hA
  go_enter Tryz.func23, Tryz.ntmps23
  go_wp2_with fail
  refine (refTake_any _ b w HR.out hb).mono ?_
  rintro e w1 ⟨m, k, ok, rfl, ht, hb1⟩
  have HB1 := Lib.hid hb1
  have HR1 := Lib.hid (HR.out.new hb1)
  clear hb1
  rcases ht with ⟨rfl, hu, hp, hk⟩ | ⟨hok, rfl, rfl, hno⟩
  · rw [show (Value.int .i64 (if true = true then (0 : Int) else 2)) = .int .i64 0 from rfl]
    have HP := Lib.hid hp; clear hp
    have hk10 := enc_len10 hu
    have HK := Lib.hid hk
    by_cases hl : (65536 : Int) < (m : Int)
    · have HF : Hid (FT b [] 0 3) := Lib.hid (.inr ⟨m, hu, HP.out, .inl ⟨rfl, rfl, rfl, by omega⟩⟩)
      go_wp2
      go_ret3
      exact refFT_bad HF.out HB1.out
    · have hm16 : (m : Int) ≤ 65536 := by omega
      have hkb : (k : Int) ≤ 10 := by omega
      obtain ⟨q, hq⟩ : ∃ q, k + m = q := ⟨_, rfl⟩
      have hqi : (k : Int) + (m : Int) = (q : Int) := by omega
      have hq4 : (q : Int) ≤ 65600 := by omega
      obtain ⟨r, hr⟩ : ∃ r, q + 4 = r := ⟨_, rfl⟩
      have hri : (q : Int) + 4 = (r : Int) := by omega
      have hwr : IntKind.i64.wrap (r : Int) = (r : Int) := by rw [IntKind.wrap_i64]; omega
      by_cases hs : (b.length : Int) < (r : Int)
      · have HF : Hid (FT b [] 0 2) := Lib.hid (.inr ⟨m, hu, HP.out, .inr (.inl ⟨rfl, rfl, rfl, by omega, by omega⟩)⟩)
        clear hk hk10 hu
        go_wp2
        go_ret3
        exact refFT_bad HF.out HB1.out
      · have hle : q + 4 ≤ b.length := by omega
        have hkq : k ≤ q := by omega
        have hsl1 := fun w => slice_head w ao b.length cap q (by omega)
        have hsl2 := fun w => slice_mid w ao b.length cap q r (by omega) (by omega)
        have hsl3 := fun w => slice_mid w ao b.length cap k q hkq (by omega)
        have hrt := fun W (hW : Below w1.heap.size w1 W) => conv_reads _ _ W ((HR1.out.new hW).mid (show q ≤ r by omega) (show r ≤ b.length by omega))
        have hcut : (b.take r).drop q = (b.drop q).take 4 := by rw [List.drop_take]; congr 1; omega
        rw [hcut] at hrt
        have ham := (HAT.out.old HB1.out).mid hkq (show q ≤ b.length by omega)
        have hbk := HAT.out.blkU (show 0 < b.length by omega) k
        have HH : Hid (Reads w1 .u8 (.slice ao q cap) (b.take q)) := Lib.hid (HR1.out.head (by omega))
        generalize (if cap = q then ao else ao.map fun x => x.add q) = ao2 at hsl2 hrt
        generalize (if cap = k then ao else ao.map fun x => x.add k) = ao3 at hsl3 ham hbk
        have HBK := Lib.hid hbk
        clear hbk
        have hbt : ∀ y ∈ b.take q, y < 256 := fun y hy => hb y (List.mem_of_mem_take hy)
        have hbd : ∀ y ∈ (b.drop q).take 4, y < 256 := fun y hy => hb y (List.mem_of_mem_drop (List.mem_of_mem_take hy))
        have hcf := fun W v' (h : Reads W .u8 v' (four (crcx 0 (b.take q)))) => conv_reads v' _ W h
        have hcmp := str_beq (four_byte (crcx 0 (b.take q))) hbd
        have HG : Hid (four (crcx 0 (b.take q)) = (b.drop q).take 4 → FT b ((b.take q).drop k) (q + 4) 0) := Lib.hid fun h4 => .inr ⟨m, hu, HP.out, .inr (.inr (.inr ⟨rfl, by rw [← HK.out, hq], by rw [← HK.out, hq], by omega, by rw [← HK.out, hq]; exact hle, by rw [← HK.out, hq]; exact h4⟩))⟩
        have HN : Hid (four (crcx 0 (b.take q)) ≠ (b.drop q).take 4 → FT b [] 0 11) := Lib.hid fun h4 => .inr ⟨m, hu, HP.out, .inr (.inr (.inl ⟨rfl, rfl, rfl, by omega, by rw [← HK.out, hq]; exact hle, by rw [← HK.out, hq]; exact h4⟩))⟩
        have HAM := Lib.hid ham
        generalize strOfNums (((b.drop q).take 4).map (fun n : Nat => (n : Int))) = sb at hrt hcmp
        generalize strOfNums ((four (crcx 0 (b.take q))).map (fun n : Nat => (n : Int))) = sa at hcf hcmp
        have HRT := Lib.hid hrt
        have HCF := Lib.hid hcf
        clear hrt hcf ham hbd hk hk10 hu hcut hle
        by_cases heq : four (crcx 0 (b.take q)) = (b.drop q).take 4
        · rw [decide_eq_true heq] at hcmp
          have HF : Hid (FT b ((b.take q).drop k) (q + 4) 0) := Lib.hid (HG.out heq)
          clear heq
          go_wp2_with fail
          go_region_held_law (fun W => (convert 22 9 (.slice ao2 (r - q) (cap - q))).run Tryz.prog W = .ok (.string sb) W) (first | exact HRT.out _ (Below.refl _ _) | exact HRT.out _ (Below.refl _ _).drew | exact HRT.out _ HD8.out | exact HRT.out _ HD8.out.drew) (first
            | (go_at_call 55; refine (refSum_any _ (b.take q) _ (by first | exact HH.out | exact HH.out.drewN 1) hbt).mono ?_; rintro e w' ⟨rfl, rfl⟩)
            | (go_at_call 54; refine (refFour_any (crcx 0 (b.take q)) _).mono ?_; rintro e w8 ⟨v8, rfl, ho8, hd8⟩
               obtain ⟨ao8, cap8, rfl, _, _, _⟩ := ho8.reads.val
               have hc8 := HCF.out _ _ ho8.reads
               have hc8' := HCF.out w8.drew _ ho8.reads
               have HD8 : Hid (Below w1.heap.size w1 w8) := Lib.hid (by first | exact hd8 | exact ⟨hd8.os, hd8.tape, hd8.output, hd8.size, hd8.block⟩)
               clear ho8 hd8))
          go_wp2
          go_ret3
          exact ⟨_, _, q + 4, 0, by rw [hr]; rfl, HF.out, HAM.out.old HD8.out, HB1.out.trans (HD8.out.mono HB1.out.size), _, _, _, rfl, .inr HBK.out⟩
        · rw [decide_eq_false heq] at hcmp
          have HF : Hid (FT b [] 0 11) := Lib.hid (HN.out heq)
          clear heq
          go_wp2_with fail
          go_region_held_law (fun W => (convert 22 9 (.slice ao2 (r - q) (cap - q))).run Tryz.prog W = .ok (.string sb) W) (first | exact HRT.out _ (Below.refl _ _) | exact HRT.out _ (Below.refl _ _).drew | exact HRT.out _ HD8.out | exact HRT.out _ HD8.out.drew) (first
            | (go_at_call 55; refine (refSum_any _ (b.take q) _ (by first | exact HH.out | exact HH.out.drewN 1) hbt).mono ?_; rintro e w' ⟨rfl, rfl⟩)
            | (go_at_call 54; refine (refFour_any (crcx 0 (b.take q)) _).mono ?_; rintro e w8 ⟨v8, rfl, ho8, hd8⟩
               obtain ⟨ao8, cap8, rfl, _, _, _⟩ := ho8.reads.val
               have hc8 := HCF.out _ _ ho8.reads
               have hc8' := HCF.out w8.drew _ ho8.reads
               have HD8 : Hid (Below w1.heap.size w1 w8) := Lib.hid (by first | exact hd8 | exact ⟨hd8.os, hd8.tape, hd8.output, hd8.size, hd8.block⟩)
               clear ho8 hd8))
          go_wp2
          go_ret3
          exact refFT_bad HF.out (HB1.out.trans (HD8.out.mono HB1.out.size))
  · obtain rfl : ok = false := by simpa using hok
    rw [show (Value.int .i64 (if false = true then (0 : Int) else 2)) = .int .i64 2 from rfl]
    have HF : Hid (FT b [] 0 2) := Lib.hid (.inl ⟨rfl, rfl, rfl, hno⟩)
    clear hno
    go_wp2
    go_ret3
    exact refFT_bad HF.out HB1.out

theorem refFrTake_any (v : Value) (b : List Nat) (w : World) (A : Nat → Prop) (hA : At w A .u8 v b) (hb : ∀ y ∈ b, y < 256) :
    Calls Tryz.prog 23 #[v] w (RefFT A b w) :=
  (refFrTakeU_any v b w A hA hb).mono fun _ _ ⟨v', t, s, c, h1, h2, h3, h4, _⟩ => ⟨v', t, s, c, h1, h2, h3, h4⟩

/-- What the document's own prefix answers. -/
def RefLed (A : Nat → Prop) (b : List Nat) (w : World) (e : Ending) (w' : World) : Prop :=
  ∃ (v' : Value) (ls : List (List Nat)) (k c : Nat), e = .returned (.tuple #[v', .int .i64 (k : Int), .int .i64 (c : Int)]) ∧ Led b ls k c ∧ Txs w' (fun j => A j ∨ w.heap.size ≤ j) v' ls ∧ Below w.heap.size w w'

theorem txs_held {w : World} {base : Nat} {A : Nat → Prop} {e : TypeId} {v : Value} {us : List Value} {ls : List (List Nat)} (h : w.ownsRow base e 1 v us.length us) (hl : us.length = ls.length)
    (hs : ∀ i, i < ls.length → At w A .u8 (us.getD i .nilIface) (ls.getD i [])) : Txs w (fun j => A j ∨ base ≤ j) v ls := by
  refine ⟨us, hl, (owned_row h).mono fun _ _ hB => .inr hB.1, fun u hu => ?_, fun i hi => (hs i hi).mono fun _ _ hB => .inl hB⟩
  obtain ⟨i, hi, rfl⟩ := List.getElem_of_mem hu
  have := (hs i (by omega)).oneCell
  rwa [List.getD_eq_getElem?_getD, List.getElem?_eq_getElem hi] at this

theorem txs_snoc' {w : World} {A : Nat → Prop} {u : Value} {us : List Value} {ls : List (List Nat)} {t : List Nat} (hl : us.length = ls.length)
    (hs : ∀ i, i < ls.length → At w A .u8 (us.getD i .nilIface) (ls.getD i [])) (hu : At w A .u8 u t) :
    (us ++ [u]).length = (ls ++ [t]).length ∧ ∀ i, i < (ls ++ [t]).length → At w A .u8 ((us ++ [u]).getD i .nilIface) ((ls ++ [t]).getD i []) := by
  refine ⟨by simp [hl], fun i hi => ?_⟩
  rw [List.length_append, List.length_singleton] at hi
  by_cases h : i < ls.length
  · rw [List.getD_eq_getElem?_getD, List.getD_eq_getElem?_getD, List.getElem?_append_left (by omega), List.getElem?_append_left h, ← List.getD_eq_getElem?_getD, ← List.getD_eq_getElem?_getD]
    exact hs i h
  · obtain rfl : i = ls.length := by omega
    rw [List.getD_eq_getElem?_getD, List.getD_eq_getElem?_getD, List.getElem?_append_right (by omega), List.getElem?_append_right (Nat.le_refl _), hl]
    simpa using hu

theorem at_low {w w' : World} {A : Nat → Prop} {B : Nat} {k : IntKind} {v : Value} {l : List Nat} (h : At w (fun j => A j ∧ j < B) k v l) (hb : Below B w w') : At w' (fun j => A j ∧ j < B) k v l :=
  h.keep ((kept_below hb).mono fun _ _ hB => hB.2)

end Go.Proofs.YtjbodokligpcaaaGreat
