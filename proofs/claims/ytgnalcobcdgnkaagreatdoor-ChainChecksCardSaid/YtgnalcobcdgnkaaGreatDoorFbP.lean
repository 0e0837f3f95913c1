/- The contract of package frame's take. · The contract of package frame's leading. · The contracts of package frame's Join and Put, and of slices.Concat at rows of bytes. · slices.Grow of no bytes, and slices.Concat of rows of bytes. · The contract of package frame's Put. · A slice's middle. · The contracts of the document's own frames. -/
import Derived.Test.YtgnalcobcdgnkaaGreatDoorDaP
import Derived.Test.YtgnalcobcdgnkaaGreatDoorCqQ
import Derived.Test.YtgnalcobcdgnkaaGreatDoorQa
import Derived.Lib.AppendZerosOnto
import Derived.Lib.SliceRun
import Derived.Lib.Walk
import Derived.Deep.RegionHeldLaw
namespace Go.Proofs.YtgnalcobcdgnkaaGreatDoor
open Go.RowKit

end Go.Proofs.YtgnalcobcdgnkaaGreatDoor

namespace Go.Proofs.YtgnalcobcdgnkaaGreatDoor
open Go.RowKit

theorem owned_maker {w w' : World} {p base : Nat} {e : TypeId} {v : Value} {n : Nat} {us : List Value} (h : w.ownsRow base e 1 v n us) (hp : p < base) (hg : w.grownBy w' (some p)) : w'.ownsRow base e 1 v n us := by
  refine h.kept hg ?_
  cases hv : v.ownBlock with
  | none => exact .inl rfl
  | some j => exact .inr fun he => by have := (h.lt j hv).1; have := Option.some.inj he; omega

end Go.Proofs.YtgnalcobcdgnkaaGreatDoor

namespace Go.Proofs.YtgnalcobcdgnkaaGreatDoor
open Go.RowKit

theorem frs_snoc (ls : List (List Nat)) (t : List Nat) : frs (ls ++ [t]) = frs ls ++ fr t := by rw [frs_append, frs_one]

theorem frs_take_le (ls : List (List Nat)) (k : Nat) : (frs (ls.take k)).length ≤ (frs ls).length := by
  have h := frs_append (ls.take k) (ls.drop k)
  rw [List.take_append_drop] at h
  rw [h, List.length_append]
  omega

theorem Owns.maker {w w' : World} {p base : Nat} {e : TypeId} {k : IntKind} {v : Value} {l : List Nat} (h : Owns w base e k v l) (hp : p < base) (hg : w.grownBy w' (some p)) : Owns w' base e k v l := owned_maker h hp hg

theorem short_snoc {a b : List (List Nat)} {t : List Nat} (h : b = a ++ [t]) (ha : ∀ x ∈ a, x.length ≤ 65536) (ht : t.length ≤ 65536) : ∀ x ∈ b, x.length ≤ 65536 := by
  intro x hx
  rw [h] at hx
  rcases List.mem_append.1 hx with hx | hx
  · exact ha x hx
  · obtain rfl : x = t := by simpa using hx
    exact ht

/-- What Join answers. -/
def Joined (ls : List (List Nat)) (w : World) (e : Ending) (w' : World) : Prop :=
  ∃ (v' : Value) (c : Nat), e = .returned (.tuple #[v', errV c]) ∧ Below w.heap.size w w' ∧
    ((c = 0 ∧ (∀ t ∈ ls, t.length ≤ 65536) ∧ Owns w' w.heap.size 5 .u8 v' (frs ls)) ∨ (c = 3 ∧ (∃ t ∈ ls, 65536 < t.length) ∧ v' = .slice none 0 0))

set_option maxHeartbeats 1000000 in
set_option maxRecDepth 100000 in
theorem join_all (v : Value) (ls : List (List Nat)) (w : World) (B : Nat → Prop) (hr : Txs w B v ls) (hb : ∀ t ∈ ls, ∀ y ∈ t, y < 256) (hn : ls.length ≤ 900000) (hx : (frs ls).length ≤ 80000000000000) :
    Calls Tryz.prog 53 #[v] w (Joined ls w) := by
  obtain ⟨ao, cap, rfl, h1, h2, h3⟩ := hr.val
  have HR := Lib.hid hr; clear hr
  go_enter Tryz.func53, Tryz.ntmps53
  go_wp2_with fail
  refine (newC_any w).mono ?_
  rintro e w1 ⟨p, rfl, hp, hm1, hb1⟩
  have HP := Lib.hid hp
  have HM1 := Lib.hid hm1
  have HB1 := Lib.hid hb1
  have hsz1 := hm1.lt
  clear hp hm1 hb1
  go_wp2
  go_loopw [5, 7, 11] (fun fv _ i wr => ∃ k : Nat, k ≤ ls.length ∧ i = .int .i64 (k : Int) ∧ (∀ t ∈ ls.take k, t.length ≤ 65536) ∧ Mk wr p k ∧ Owns wr w1.heap.size 5 .u8 fv (frs (ls.take k)) ∧ Below w.heap.size w wr ∧ w1.heap.size ≤ wr.heap.size)
    (fun _ _ i _ => ls.length - (intOf i).toNat)
  case atStart => exact ⟨0, Nat.zero_le _, rfl, by simp, HM1.out, owns_nil _ _ _ _, HB1.out, Nat.le_refl _⟩
  case round =>
    obtain ⟨k, hk, rfl, hsh, hmk, hown, hbel, hws⟩ := hrel
    have HSH := Lib.hid hsh
    have HMK := Lib.hid hmk
    have HOWN := Lib.hid hown
    have HBEL := Lib.hid hbel
    have HWS := Lib.hid hws
    clear hmk hown hbel hws hsh
    by_cases hlt : k < ls.length
    · obtain ⟨b, off, u, rfl, _, _, hcell, hat⟩ := (HR.out.old HBEL.out).at hlt
      have hmem : ls.getD k [] ∈ ls := by rw [List.getD_eq_getElem?_getD, List.getElem?_eq_getElem hlt]; exact List.getElem_mem hlt
      have ht2 := hb _ hmem
      have HMEM := Lib.hid hmem
      have hts := lists_take k hlt
      have hle := frs_take_le ls (k + 1)
      rw [hts, frs_snoc, List.length_append, fr_length] at hle
      generalize ls.getD k [] = t at hat ht2 hts hle HMEM
      obtain ⟨aot, capt, rfl, _, _, _⟩ := hat.reads.val
      have HT := Lib.hid hat.reads
      have HTS := Lib.hid hts
      clear hat hts hmem
      have hlti : (k : Int) < ls.length := by omega
      by_cases hlong : (65536 : Int) < (t.length : Int)
      · have HEX : Hid (∃ t ∈ ls, 65536 < t.length) := Lib.hid ⟨t, HMEM.out, by omega⟩
        clear hle ht2
        go_wp2
        go_ret2
        exact ⟨_, 3, rfl, HBEL.out, .inr ⟨rfl, HEX.out, rfl⟩⟩
      have ht1 : t.length ≤ 65536 := by omega
      have ht1i : (t.length : Int) ≤ 65536 := by omega
      have hfs : t.length + 5 ≤ fsize t := fsize_ge t
      have hu : U64 t.length := u64_small ht1
      go_wp2_with fail
      refine (putText_any _ _ [] t wr (owns_nil wr 0 5 .u8).reads HT.out (by simp; omega)).mono ?_
      rintro e w2 ⟨v2, rfl, ho2, hb2⟩
      have ho2' : Owns w2 wr.heap.size 5 .u8 v2 (fbody t) := by simpa [fbody] using ho2
      have HO2 := Lib.hid ho2'
      have HB2 := Lib.hid hb2
      clear ho2 ho2' hb2
      go_wp2_with fail
      refine (sealed_any p k _ (fbody t) w2 (HMK.out.new HB2.out) (by omega) HO2.out.reads (fbody_byte ht2 hu) (by rw [fbody_length]; have := enc_len10 hu; omega)).mono ?_
      rintro e w3 ⟨v3, rfl, ho3, hm3, hg3⟩
      have ho3' : Owns w3 w2.heap.size 5 .u8 v3 (fr t) := ho3
      obtain ⟨ao3, cap3, rfl, _, _, _⟩ := ho3'.reads.val
      have hr3 := ho3'.reads
      have HO3 := Lib.hid hr3
      have HM3 := Lib.hid hm3
      have hown2 := HOWN.out.below HB2.out (Nat.le_refl _)
      have HW3 := Lib.hid (hown2.maker hsz1 hg3)
      have HB3 : Hid (Below w.heap.size w w3) := Lib.hid ((HBEL.out.trans (HB2.out.mono HBEL.out.size)).grown hg3 (Nat.le_trans HBEL.out.size HB2.out.size) (fun j hj => by cases hj; exact HP.out))
      have HS3 : Hid (w1.heap.size ≤ w3.heap.size) := Lib.hid (Nat.le_trans HWS.out (Nat.le_trans HB2.out.size hg3.size))
      clear ho3 ho3' hr3 hm3 hg3 hown2
      go_wp2_with (at_builtin; go_must (refine wpList_app _ rfl _ _ 61 rfl w1.heap.size 5 (.int .u8 0) 1 Tryz.underlying61 Tryz.info5 rfl .u8 _ (frs (ls.take k)) rfl HW3.out _ (fr t) rfl HO3.out (by decide) ?c1 ?c3 ?_))
      case c1 => rw [fr_length]; omega
      case c3 => exact HS3.out
      intro v4 w4 ho4 hg4
      have HM4 : Hid (Mk w4 p (k + 1)) := Lib.hid (HM3.out.keep (hg4.block p HM3.out.lt (fun he => by have := (HW3.out.lt p he.symm).1; omega)) hg4.size)
      have HB4 : Hid (Below w.heap.size w w4) := Lib.hid (HB3.out.grown hg4 HB3.out.size (fun j hj => Nat.le_trans HB1.out.size (HW3.out.lt j hj).1))
      have HO4 : Hid (Owns w4 w1.heap.size 5 .u8 v4 (frs (ls.take (k + 1)))) := Lib.hid (by rw [HTS.out, frs_snoc]; exact ho4)
      have HS4 := Lib.hid (Nat.le_trans HS3.out hg4.size)
      clear ho4 hg4
      go_wp2
      go_roundw
      case rel => exact ⟨k + 1, by omega, by go_num, short_snoc HTS.out HSH.out ht1, HM4.out, HO4.out, HB4.out, HS4.out⟩
      case measure => simp [intOf]; omega
    · obtain rfl : k = ls.length := by omega
      have hlast := HOWN.out
      rw [List.take_length] at hlast
      have HL := Lib.hid hlast
      clear hlast
      go_wp2
      go_ret2
      have hall := HSH.out
      rw [List.take_length] at hall
      exact ⟨_, 0, rfl, HBEL.out, .inl ⟨rfl, hall, HL.out.mono HB1.out.size⟩⟩

/-- Join of texts none of which is too long. -/
theorem join_any (v : Value) (ls : List (List Nat)) (w : World) (B : Nat → Prop) (hr : Txs w B v ls) (hb : ∀ t ∈ ls, t.length ≤ 65536 ∧ ∀ y ∈ t, y < 256) (hn : ls.length ≤ 900000) (hx : (frs ls).length ≤ 80000000000000) :
    Calls Tryz.prog 53 #[v] w fun e w' => ∃ v', e = .returned (.tuple #[v', .nilIface]) ∧ Owns w' w.heap.size 5 .u8 v' (frs ls) ∧ Below w.heap.size w w' := by
  refine (join_all v ls w B hr (fun t ht => (hb t ht).2) hn hx).mono ?_
  rintro e w' ⟨v', c, rfl, hbel, ⟨rfl, _, ho⟩ | ⟨rfl, ⟨t, ht, hl⟩, _⟩⟩
  · exact ⟨v', rfl, ho, hbel⟩
  · have := (hb t ht).1; omega
end Go.Proofs.YtgnalcobcdgnkaaGreatDoor

namespace Go.Proofs.YtgnalcobcdgnkaaGreatDoor
open Go.RowKit

theorem info_at {e : TypeId} {z : Value} {b : Nat} (h : (Tryz.prog.info? e).map (fun i => (i.zero, i.size, i.bytes)) = some (some z, 1, b)) : ∃ i, Tryz.prog.info? e = some i ∧ i.zero = some z ∧ i.size = 1 ∧ i.bytes = b := info_parts h

set_option maxHeartbeats 400000 in
set_option maxRecDepth 100000 in
theorem grow_any (n : Nat) (w : World) (h0 : 0 < n) (hn : n ≤ 90000000000000) :
    Calls Tryz.prog 65 #[.slice none 0 0, .int .i64 (n : Int)] w fun e w' => ∃ v', e = .returned v' ∧ Owns w' w.heap.size 5 .u8 v' [] ∧ Below w.heap.size w w' := by
  obtain ⟨i0, hi0, hz0, hs0, hb0⟩ := info_at Tryz.info5
  have hold : (Builtin.firstCells i0.size 0 (.slice none 0 0)).run Tryz.prog w.drew = .ok ([] : List Value).toArray w.drew := run_firstCells_none w.drew i0.size 0 0 0
  have hrz : ∀ ty, (Builtin.append_ #[61, 3] ty #[.slice none 0 0, .int .i64 (n : Int)]).run Tryz.prog w = _ := fun ty =>
    Lib.run_append_grow_zeros w 61 3 ty 5 i0 (.int .u8 0) .i64 .i64 Tryz.underlying61 Tryz.underlying3 hi0 hz0 none 0 0 [] hold n h0 (by omega) (by omega) (by omega) (by rw [hb0]; omega) (by exact growslice_fits (by omega) (by rw [hb0]; omega))
  have hG := grownCap_ge w (0 + n) 0 5
  have hG2 := grownCap_le_maxLen w (0 + n) 0 5 (by unfold maxLen; omega)
  have hown : ∀ C : Array Value, C.size = grownCap w (0 + n) 0 5 * 1 → Owns (w.drew.alloc (.cells C 5)) w.heap.size 5 .u8 (.slice (some ⟨w.heap.size, 0, none⟩) 0 (grownCap w (0 + n) 0 5)) [] := fun C hC => World.ownsRow_made w.drew C _ (Nat.le_refl _) hG2 hC
  have hsz : (([] : List Value).toArray ++ Builtin.zeroCells (Value.int .u8 0).cells n ++ Builtin.zeroCells (Value.int .u8 0).cells (grownCap w (0 + n) 0 5 - (0 + n))).size = grownCap w (0 + n) 0 5 * 1 := by
    rw [Array.size_append, Array.size_append, size_zeroCells, size_zeroCells]
    show 0 + n * 1 + (_ - _) * 1 = _
    omega
  have hsl1 := fun w => slice_head w none 0 0 0 (Nat.le_refl 0)
  generalize ([] : List Value).toArray ++ Builtin.zeroCells (Value.int .u8 0).cells n ++ Builtin.zeroCells (Value.int .u8 0).cells (grownCap w (0 + n) 0 5 - (0 + n)) = C at hrz hsz
  have HO := Lib.hid (hown C hsz)
  generalize grownCap w (0 + n) 0 5 = G at hrz HO hG hG2
  have hsl2 := fun W => slice_head W (some ⟨w.heap.size, 0, none⟩) (0 + n) G 0 (Nat.zero_le _)
  clear hown hsz hold
  have hn1 : ¬ ((n : Int) < 0) := by omega
  have hn2 : (n : Int) > 0 := by omega
  go_enter Tryz.func65, Tryz.ntmps65
  go_wp2_with (at_builtin; refine Lib.wpList_append_run _ rfl _ _ _ _ rfl _ _ rfl rfl _ _ (hrz _) ?_)
  all_goals (go_ret; exact ⟨_, rfl, HO.out, ((Below.refl _ _).drew).alloc (Nat.le_refl _) _⟩)

theorem texts_take {ls : List (List Nat)} (k : Nat) (h : k < ls.length) : (ls.take (k + 1)).flatten = (ls.take k).flatten ++ ls.getD k [] := by
  rw [lists_take k h, List.flatten_append]; simp
theorem texts_take_le (ls : List (List Nat)) (k : Nat) : (ls.take k).flatten.length ≤ ls.flatten.length := by
  conv => rhs; rw [← List.take_append_drop k ls]
  rw [List.flatten_append, List.length_append]
  omega

set_option maxHeartbeats 1000000 in
set_option maxRecDepth 100000 in
theorem concat_any (v : Value) (ls : List (List Nat)) (out : List Nat) (w : World) (B : Nat → Prop) (hr : Txs w B v ls) (hout : out = ls.flatten) (h0 : 0 < out.length) (hn : out.length ≤ 80000000000000) (hl : ls.length ≤ 80000000000000) :
    Calls Tryz.prog 54 #[v] w fun e w' => ∃ v', e = .returned v' ∧ Owns w' w.heap.size 5 .u8 v' out ∧ Below w.heap.size w w' := by
  obtain ⟨ao, cap, rfl, h1, h2, h3⟩ := hr.val
  have HR := Lib.hid hr; clear hr
  have HOUT := Lib.hid hout; clear hout
  go_enter Tryz.func54, Tryz.ntmps54
  go_wp2
  go_loopw [3, 5, 11] (fun sz _ i wr => ∃ k n : Nat, k ≤ ls.length ∧ i = .int .i64 (k : Int) ∧ sz = .int .i64 (n : Int) ∧ n = (ls.take k).flatten.length ∧ w = wr)
    (fun _ _ i _ => ls.length - (intOf i).toNat)
  case atStart => exact ⟨0, 0, Nat.zero_le _, rfl, rfl, by simp, rfl⟩
  case round =>
    obtain ⟨k, n, hk, rfl, rfl, hnn, rfl⟩ := hrel
    by_cases hlt : k < ls.length
    · obtain ⟨b, off, u, rfl, _, _, hcell, hat⟩ := HR.out.at hlt
      have hts := congrArg List.length (texts_take k hlt)
      rw [List.length_append, ← hnn] at hts
      have hle := texts_take_le ls (k + 1)
      have HOL := congrArg List.length HOUT.out
      generalize ls.getD k [] = t at hat hts
      obtain ⟨aot, capt, rfl, _, _, _⟩ := hat.reads.val
      have hsm : (n : Int) + (t.length : Int) ≤ 80000000000000 := by omega
      have HTS := Lib.hid hts
      clear hat hts hle hnn HOL
      have hlti : (k : Int) < ls.length := by omega
      have hnot : ¬ ((n : Int) + (t.length : Int) < 0) := by omega
      go_wp2
      go_roundw
      case rel => exact ⟨k + 1, n + t.length, by omega, by go_num, by go_num, HTS.out.symm, trivial⟩
      case measure => simp [intOf]; omega
    · obtain rfl : k = ls.length := by omega
      rw [List.take_length, ← HOUT.out] at hnn
      subst hnn
      go_wp2_with fail
      refine (grow_any out.length w h0 (by omega)).mono ?_
      rintro e w1 ⟨v1, rfl, ho1, hb1⟩
      have HO1 := Lib.hid ho1
      have HB1 := Lib.hid hb1
      clear ho1 hb1
      go_wp2
      go_loopw [6, 8, 27] (fun sv _ i wr => ∃ k : Nat, k ≤ ls.length ∧ i = .int .i64 (k : Int) ∧ Owns wr w.heap.size 5 .u8 sv (ls.take k).flatten ∧ Below w.heap.size w wr)
        (fun _ _ i _ => ls.length - (intOf i).toNat)
      case atStart => exact ⟨0, Nat.zero_le _, rfl, HO1.out, HB1.out⟩
      case round =>
        obtain ⟨k, hk, rfl, hown, hbel⟩ := hrel
        have HOWN := Lib.hid hown
        have HBEL := Lib.hid hbel
        clear hown hbel
        by_cases hlt : k < ls.length
        · obtain ⟨b, off, u, rfl, _, _, hcell, hat⟩ := (HR.out.old HBEL.out).at hlt
          have hts := texts_take k hlt
          have hle := texts_take_le ls (k + 1)
          rw [hts, List.length_append] at hle
          have HOL := Lib.hid (congrArg List.length HOUT.out)
          generalize ls.getD k [] = t at hat hts hle
          obtain ⟨aot, capt, rfl, _, _, _⟩ := hat.reads.val
          have HT := Lib.hid hat.reads
          have HTS := Lib.hid hts
          clear hat hts
          have hlti : (k : Int) < ls.length := by omega
          go_wp2_with (at_builtin; go_must (refine wpList_app _ rfl _ _ 61 rfl w.heap.size 5 (.int .u8 0) 1 Tryz.underlying61 Tryz.info5 rfl .u8 _ (ls.take k).flatten rfl HOWN.out _ t rfl HT.out (by decide) ?c1 ?c3 ?_))
          case c1 => have := HOL.out; omega
          case c3 => exact HBEL.out.size
          intro v4 w4 ho4 hg4
          have HB4 : Hid (Below w.heap.size w w4) := Lib.hid (HBEL.out.grown hg4 HBEL.out.size (fun j hj => (HOWN.out.lt j hj).1))
          have HO4 : Hid (Owns w4 w.heap.size 5 .u8 v4 (ls.take (k + 1)).flatten) := Lib.hid (by rw [HTS.out]; exact ho4)
          clear ho4 hg4
          go_wp2
          go_roundw
          case rel => exact ⟨k + 1, by omega, by go_num, HO4.out, HB4.out⟩
          case measure => simp [intOf]; omega
        · obtain rfl : k = ls.length := by omega
          have hlast := HOWN.out
          rw [List.take_length, ← HOUT.out] at hlast
          have HL := Lib.hid hlast
          clear hlast
          go_wp2
          go_ret
          exact ⟨_, rfl, HL.out, HBEL.out⟩

end Go.Proofs.YtgnalcobcdgnkaaGreatDoor

namespace Go.Proofs.YtgnalcobcdgnkaaGreatDoor
open Go.RowKit

set_option maxHeartbeats 1000000 in
set_option maxRecDepth 100000 in
theorem put_good (bv tv : Value) (b t : List Nat) (w : World) (hb : Reads w .u8 bv b) (ht : Reads w .u8 tv t) (h8 : ∀ y ∈ t, y < 256) (hl : t.length ≤ 65536) (hx : b.length ≤ 70000000000000) :
    Calls Tryz.prog 42 #[bv, tv] w fun e w' => ∃ v', e = .returned (.tuple #[v', .nilIface]) ∧ Owns w' w.heap.size 5 .u8 v' (b ++ fr t) ∧ Below w.heap.size w w' := by
  obtain ⟨aob, capb, rfl, _, _, _⟩ := hb.val
  obtain ⟨aot, capt, rfl, _, _, _⟩ := ht.val
  have hfs : fsize t ≤ 65600 := by have := enc_len10 (u64_small hl); unfold fsize; omega
  have hge := fsize_ge t
  have HB := Lib.hid hb; clear hb
  go_enter Tryz.func42, Tryz.ntmps42
  go_wp2_with fail
  refine (join_any _ [t] _ _ (txs_one w _ _ t ht) (by simpa using ⟨hl, h8⟩) (by simp) (by rw [frs_one, fr_length]; omega)).mono ?_
  rintro e w1 ⟨v1, rfl, ho1, hb1⟩
  rw [frs_one] at ho1
  obtain ⟨ao1, cap1, rfl, _, _, _⟩ := ho1.reads.val
  have hb1' : Below w.heap.size w w1 := ((Below.refl _ _).alloc (Nat.le_refl _) _).trans (hb1.mono (by simp))
  have HB1 := Lib.hid hb1'
  have HR1 := Lib.hid ho1.reads
  have HBR := Lib.hid (HB.out.new hb1')
  clear ho1 hb1 hb1'
  have HC : Hid (Below w1.heap.size w1 (w1.alloc (.cells #[.slice aob b.length capb, .slice ao1 (fr t).length cap1] 61))) := Lib.hid ((Below.refl _ _).alloc (Nat.le_refl _) _)
  go_wp2_with fail
  refine (concat_any _ [b, fr t] (b ++ fr t) _ _ (txs_two w1 _ _ _ b (fr t) HBR.out HR1.out) (by simp) (by rw [List.length_append, fr_length]; omega) (by rw [List.length_append, fr_length]; omega) (by simp)).mono ?_
  rintro e w2 ⟨v2, rfl, ho2, hb2⟩
  have HO2 : Hid (Owns w2 w.heap.size 5 .u8 v2 (b ++ fr t)) := Lib.hid (ho2.mono (by have := HB1.out.size; simp; omega))
  have HB2 : Hid (Below w.heap.size w w2) := Lib.hid ((HB1.out.alloc HB1.out.size _).trans (hb2.mono (by have := HB1.out.size; simp; omega)))
  clear ho2 hb2
  go_wp2
  go_ret2
  exact ⟨_, rfl, HO2.out, HB2.out⟩

end Go.Proofs.YtgnalcobcdgnkaaGreatDoor

namespace Go.Proofs.YtgnalcobcdgnkaaGreatDoor
open Go.RowKit

end Go.Proofs.YtgnalcobcdgnkaaGreatDoor

namespace Go.Proofs.YtgnalcobcdgnkaaGreatDoor
open Go.RowKit

set_option maxHeartbeats 1000000 in
set_option maxRecDepth 100000 in
theorem refFrame_any (tv : Value) (t : List Nat) (w : World) (ht : Reads w .u8 tv t) (h8 : ∀ y ∈ t, y < 256) (hl : t.length ≤ 70000000000000) :
    Calls Tryz.prog 35 #[tv] w fun e w' => ∃ v', e = .returned v' ∧ Owns w' w.heap.size 5 .u8 v' (fr t) ∧ Below w.heap.size w w' := by
  have hu : U64 t.length := u64_of_le (by omega)
  have hl10 := enc_len10 hu
  go_enter Tryz.func35, Tryz.ntmps35
  go_wp2_with fail
  refine (refText_any _ t w ht (by omega)).mono ?_
  rintro e w1 ⟨v1, rfl, ho1, hb1⟩
  have ho1' : Owns w1 w.heap.size 5 .u8 v1 (fbody t) := ho1
  have HO1 := Lib.hid ho1'
  have HB1 := Lib.hid hb1
  clear ho1 ho1' hb1
  go_wp2_with fail
  refine (refSum_any _ (fbody t) w1 HO1.out.reads (fbody_byte h8 hu)).mono ?_
  rintro e w' ⟨rfl, rfl⟩
  go_wp2_with fail
  refine (refFour_any (crcx 0 (fbody t)) w1).mono ?_
  rintro e w2 ⟨v2, rfl, ho2, hb2⟩
  have HR2 := Lib.hid ho2.reads
  have HO2 := Lib.hid (HO1.out.below hb2 (Nat.le_refl _))
  have HB2 : Hid (Below w.heap.size w w2) := Lib.hid (HB1.out.trans (hb2.mono HB1.out.size))
  clear ho2 hb2
  go_wp2_with (at_builtin; go_must (refine wpList_app _ rfl _ _ 61 rfl w.heap.size 5 (.int .u8 0) 1 Tryz.underlying61 Tryz.info5 rfl .u8 _ (fbody t) rfl HO2.out _ (four (crcx 0 (fbody t))) rfl HR2.out (by decide) ?c1 ?c3 ?_))
  case c1 => rw [fbody_length]; show (_ + 4) * 1 ≤ _; omega
  case c3 => exact HB2.out.size
  intro v3 w3 ho3 hg3
  have ho3' : Owns w3 w.heap.size 5 .u8 v3 (fr t) := ho3
  have HO3 := Lib.hid ho3'
  have HB3 : Hid (Below w.heap.size w w3) := Lib.hid (HB2.out.grown hg3 HB2.out.size (fun j hj => (HO2.out.lt j hj).1))
  clear ho3 ho3' hg3
  go_wp2
  go_ret
  exact ⟨_, rfl, HO3.out, HB3.out⟩

end Go.Proofs.YtgnalcobcdgnkaaGreatDoor
