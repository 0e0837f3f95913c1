/- The contracts of package frame's Join and Put, and of slices.Concat at rows of bytes. -/
import Derived.Test.YtjbodokligpcaaaGreatFaP
import Derived.Test.YtjbodokligpcaaaGreatPrA
import Derived.Lib.AppendZerosOnto
import Derived.Lib.SliceRun
namespace Go.Proofs.YtjbodokligpcaaaGreat
open Go.RowKit

theorem frs_snoc (ls : List (List Nat)) (t : List Nat) : frs (ls ++ [t]) = frs ls ++ fr t := by rw [frs_append, frs_one]

theorem frs_take_le (ls : List (List Nat)) (k : Nat) : (frs (ls.take k)).length ≤ (frs ls).length := by
  have h := frs_append (ls.take k) (ls.drop k)
  rw [List.take_append_drop] at h
  rw [h, List.length_append]
  omega

theorem Owns.maker {w w' : World} {p base : Nat} {e : TypeId} {k : IntKind} {v : Value} {l : List Nat} (h : Owns w base e k v l) (hp : p < base) (hg : w.grownBy w' (some p)) : Owns w' base e k v l := owned_maker h hp hg

theorem short_snoc {a b : List (List Nat)} {t : List Nat} (h : b = a ++ [t]) (ha : ∀ x ∈ a, x.length ≤ 65536) (ht : t.length ≤ 65536) : ∀ x ∈ b, x.length ≤ 65536 := by
  intro x hx
  rw [h] at hx
  rcases List.mem_append.1 hx with hx | hx
  · exact ha x hx
  · obtain rfl : x = t := by simpa using hx
    exact ht

/-- What Join answers. -/
def Joined (ls : List (List Nat)) (w : World) (e : Ending) (w' : World) : Prop :=
  ∃ (v' : Value) (c : Nat), e = .returned (.tuple #[v', errV c]) ∧ Below w.heap.size w w' ∧
    ((c = 0 ∧ (∀ t ∈ ls, t.length ≤ 65536) ∧ Owns w' w.heap.size 5 .u8 v' (frs ls)) ∨ (c = 3 ∧ (∃ t ∈ ls, 65536 < t.length) ∧ v' = .slice none 0 0))

set_option maxHeartbeats 1000000 in
set_option maxRecDepth 100000 in
theorem join_all (v : Value) (ls : List (List Nat)) (w : World) (B : Nat → Prop) (hr : Txs w B v ls) (hb : ∀ t ∈ ls, ∀ y ∈ t, y < 256) (hn : ls.length ≤ 900000) (hx : (frs ls).length ≤ 80000000000000) :
    Calls Tryz.prog 69 #[v] w (Joined ls w) := by
  obtain ⟨ao, cap, rfl, h1, h2, h3⟩ := hr.val
  have HR := Lib.hid hr; clear hr
  go_enter Tryz.func69, Tryz.ntmps69
  go_wp2_with fail
  refine (newC_any w).mono ?_
  rintro e w1 ⟨p, rfl, hp, hm1, hb1⟩
  have HP := Lib.hid hp
  have HM1 := Lib.hid hm1
  have HB1 := Lib.hid hb1
  have hsz1 := hm1.lt
  clear hp hm1 hb1
  go_wp2
  go_loopw [5, 7, 11] (fun fv _ i wr => ∃ k : Nat, k ≤ ls.length ∧ i = .int .i64 (k : Int) ∧ (∀ t ∈ ls.take k, t.length ≤ 65536) ∧ Mk wr p k ∧ Owns wr w1.heap.size 5 .u8 fv (frs (ls.take k)) ∧ Below w.heap.size w wr ∧ w1.heap.size ≤ wr.heap.size)
    (fun _ _ i _ => ls.length - (intOf i).toNat)
  case atStart => exact ⟨0, Nat.zero_le _, rfl, by simp, HM1.out, owns_nil _ _ _ _, HB1.out, Nat.le_refl _⟩
  case round =>
    obtain ⟨k, hk, rfl, hsh, hmk, hown, hbel, hws⟩ := hrel
    have HSH := Lib.hid hsh
    have HMK := Lib.hid hmk
    have HOWN := Lib.hid hown
    have HBEL := Lib.hid hbel
    have HWS := Lib.hid hws
    clear hmk hown hbel hws hsh
    by_cases hlt : k < ls.length
    · obtain ⟨b, off, u, rfl, _, _, hcell, hat⟩ := (HR.out.old HBEL.out).at hlt
      have hmem : ls.getD k [] ∈ ls := by rw [List.getD_eq_getElem?_getD, List.getElem?_eq_getElem hlt]; exact List.getElem_mem hlt
      have ht2 := hb _ hmem
      have HMEM := Lib.hid hmem
      have hts := lists_take k hlt
      have hle := frs_take_le ls (k + 1)
      rw [hts, frs_snoc, List.length_append, fr_length] at hle
      generalize ls.getD k [] = t at hat ht2 hts hle HMEM
      obtain ⟨aot, capt, rfl, _, _, _⟩ := hat.reads.val
      have HT := Lib.hid hat.reads
      have HTS := Lib.hid hts
      clear hat hts hmem
      have hlti : (k : Int) < ls.length := by omega
      by_cases hlong : (65536 : Int) < (t.length : Int)
      · have HEX : Hid (∃ t ∈ ls, 65536 < t.length) := Lib.hid ⟨t, HMEM.out, by omega⟩
        clear hle ht2
        go_wp2
        go_ret2
        exact ⟨_, 3, rfl, HBEL.out, .inr ⟨rfl, HEX.out, rfl⟩⟩
      have ht1 : t.length ≤ 65536 := by omega
      have ht1i : (t.length : Int) ≤ 65536 := by omega
      have hfs : t.length + 5 ≤ fsize t := fsize_ge t
      have hu : U64 t.length := u64_small ht1
      go_wp2_with fail
      refine (putText_any _ _ [] t wr (owns_nil wr 0 5 .u8).reads HT.out (by simp; omega)).mono ?_
      rintro e w2 ⟨v2, rfl, ho2, hb2⟩
      have ho2' : Owns w2 wr.heap.size 5 .u8 v2 (fbody t) := by simpa [fbody] using ho2
      have HO2 := Lib.hid ho2'
      have HB2 := Lib.hid hb2
      clear ho2 ho2' hb2
      go_wp2_with fail
      refine (sealed_any p k _ (fbody t) w2 (HMK.out.new HB2.out) (by omega) HO2.out.reads (fbody_byte ht2 hu) (by rw [fbody_length]; have := enc_len10 hu; omega)).mono ?_
      rintro e w3 ⟨v3, rfl, ho3, hm3, hg3⟩
      have ho3' : Owns w3 w2.heap.size 5 .u8 v3 (fr t) := ho3
      obtain ⟨ao3, cap3, rfl, _, _, _⟩ := ho3'.reads.val
      have hr3 := ho3'.reads
      have HO3 := Lib.hid hr3
      have HM3 := Lib.hid hm3
      have hown2 := HOWN.out.below HB2.out (Nat.le_refl _)
      have HW3 := Lib.hid (hown2.maker hsz1 hg3)
      have HB3 : Hid (Below w.heap.size w w3) := Lib.hid ((HBEL.out.trans (HB2.out.mono HBEL.out.size)).grown hg3 (Nat.le_trans HBEL.out.size HB2.out.size) (fun j hj => by cases hj; exact HP.out))
      have HS3 : Hid (w1.heap.size ≤ w3.heap.size) := Lib.hid (Nat.le_trans HWS.out (Nat.le_trans HB2.out.size hg3.size))
      clear ho3 ho3' hr3 hm3 hg3 hown2
      go_wp2_with (at_builtin; go_must (refine wpList_app _ rfl _ _ 22 rfl w1.heap.size 5 (.int .u8 0) 1 Tryz.underlying22 Tryz.info5 rfl .u8 _ (frs (ls.take k)) rfl HW3.out _ (fr t) rfl HO3.out (by decide) ?c1 ?c3 ?_))
      case c1 => rw [fr_length]; omega
      case c3 => exact HS3.out
      intro v4 w4 ho4 hg4
      have HM4 : Hid (Mk w4 p (k + 1)) := Lib.hid (HM3.out.keep (hg4.block p HM3.out.lt (fun he => by have := (HW3.out.lt p he.symm).1; omega)) hg4.size)
      have HB4 : Hid (Below w.heap.size w w4) := Lib.hid (HB3.out.grown hg4 HB3.out.size (fun j hj => Nat.le_trans HB1.out.size (HW3.out.lt j hj).1))
      have HO4 : Hid (Owns w4 w1.heap.size 5 .u8 v4 (frs (ls.take (k + 1)))) := Lib.hid (by rw [HTS.out, frs_snoc]; exact ho4)
      have HS4 := Lib.hid (Nat.le_trans HS3.out hg4.size)
      clear ho4 hg4
      go_wp2
      go_roundw
      case rel => exact ⟨k + 1, by omega, by go_num, short_snoc HTS.out HSH.out ht1, HM4.out, HO4.out, HB4.out, HS4.out⟩
      case measure => simp [intOf]; omega
    · obtain rfl : k = ls.length := by omega
      have hlast := HOWN.out
      rw [List.take_length] at hlast
      have HL := Lib.hid hlast
      clear hlast
      go_wp2
      go_ret2
      have hall := HSH.out
      rw [List.take_length] at hall
      exact ⟨_, 0, rfl, HBEL.out, .inl ⟨rfl, hall, HL.out.mono HB1.out.size⟩⟩

/-- Join of texts none of which is too long. -/
theorem join_any (v : Value) (ls : List (List Nat)) (w : World) (B : Nat → Prop) (hr : Txs w B v ls) (hb : ∀ t ∈ ls, t.length ≤ 65536 ∧ ∀ y ∈ t, y < 256) (hn : ls.length ≤ 900000) (hx : (frs ls).length ≤ 80000000000000) :
    Calls Tryz.prog 69 #[v] w fun e w' => ∃ v', e = .returned (.tuple #[v', .nilIface]) ∧ Owns w' w.heap.size 5 .u8 v' (frs ls) ∧ Below w.heap.size w w' := by
  refine (join_all v ls w B hr (fun t ht => (hb t ht).2) hn hx).mono ?_
  rintro e w' ⟨v', c, rfl, hbel, ⟨rfl, _, ho⟩ | ⟨rfl, ⟨t, ht, hl⟩, _⟩⟩
  · exact ⟨v', rfl, ho, hbel⟩
  · have := (hb t ht).1; omega
/-- Join of texts one of which is too long. -/
theorem join_long (v : Value) (ls : List (List Nat)) (w : World) (B : Nat → Prop) (hr : Txs w B v ls) (hb : ∀ t ∈ ls, ∀ y ∈ t, y < 256) (hl : ∃ t ∈ ls, 65536 < t.length) (hn : ls.length ≤ 900000) (hx : (frs ls).length ≤ 80000000000000) :
    Calls Tryz.prog 69 #[v] w fun e w' => e = .returned (.tuple #[.slice none 0 0, errV 3]) ∧ Below w.heap.size w w' := by
  refine (join_all v ls w B hr hb hn hx).mono ?_
  rintro e w' ⟨v', c, rfl, hbel, ⟨rfl, hall, _⟩ | ⟨rfl, _, rfl⟩⟩
  · obtain ⟨t, ht, hl⟩ := hl
    have := hall t ht; omega
  · exact ⟨rfl, hbel⟩

end Go.Proofs.YtjbodokligpcaaaGreat
