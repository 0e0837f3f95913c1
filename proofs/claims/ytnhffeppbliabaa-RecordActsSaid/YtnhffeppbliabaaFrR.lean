/- The contracts of the document's own frames. -/
import Derived.Test.YtnhffeppbliabaaFrB
import Derived.Test.YtnhffeppbliabaaTakeB
import Derived.Test.YtnhffeppbliabaaCrcR
import Derived.Test.YtnhffeppbliabaaMidA
import Derived.Deep.RegionHeldLaw
namespace Go.Proofs.Ytnhffeppbliabaa
open Go.RowKit

set_option maxHeartbeats 1000000 in
set_option maxRecDepth 100000 in
theorem refFrame_any (tv : Value) (t : List Nat) (w : World) (ht : Reads w .u8 tv t) (h8 : ∀ y ∈ t, y < 256) (hl : t.length ≤ 70000000000000) :
    Calls Try.prog 77 #[tv] w fun e w' => ∃ v', e = .returned v' ∧ Owns w' w.heap.size 5 .u8 v' (fr t) ∧ Below w.heap.size w w' := by
  have hu : U64 t.length := u64_of_le (by omega)
  have hl10 := enc_len10 hu
  go_enter Try.func77, Try.ntmps77
  go_wp2_with fail
  refine (refText_any _ t w ht (by omega)).mono ?_
  rintro e w1 ⟨v1, rfl, ho1, hb1⟩
  have ho1' : Owns w1 w.heap.size 5 .u8 v1 (fbody t) := ho1
  have HO1 := Lib.hid ho1'
  have HB1 := Lib.hid hb1
  clear ho1 ho1' hb1
  go_wp2_with fail
  refine (refSum_any _ (fbody t) w1 HO1.out.reads (fbody_byte h8 hu)).mono ?_
  rintro e w' ⟨rfl, rfl⟩
  go_wp2_with fail
  refine (refFour_any (crcx 0 (fbody t)) w1).mono ?_
  rintro e w2 ⟨v2, rfl, ho2, hb2⟩
  have HR2 := Lib.hid ho2.reads
  have HO2 := Lib.hid (HO1.out.below hb2 (Nat.le_refl _))
  have HB2 : Hid (Below w.heap.size w w2) := Lib.hid (HB1.out.trans (hb2.mono HB1.out.size))
  clear ho2 hb2
  go_wp2_with (at_builtin; go_must (refine wpList_app _ rfl _ _ 29 rfl w.heap.size 5 (.int .u8 0) 1 Try.underlying29 Try.info5 rfl .u8 _ (fbody t) rfl HO2.out _ (four (crcx 0 (fbody t))) rfl HR2.out (by decide) ?c1 ?c3 ?_))
  case c1 => rw [fbody_length]; show (_ + 4) * 1 ≤ _; omega
  case c3 => exact HB2.out.size
  intro v3 w3 ho3 hg3
  have ho3' : Owns w3 w.heap.size 5 .u8 v3 (fr t) := ho3
  have HO3 := Lib.hid ho3'
  have HB3 : Hid (Below w.heap.size w w3) := Lib.hid (HB2.out.grown hg3 HB2.out.size (fun j hj => (HO2.out.lt j hj).1))
  clear ho3 ho3' hg3
  go_wp2
  go_ret
  exact ⟨_, rfl, HO3.out, HB3.out⟩

theorem At.mid {w : World} {B : Nat → Prop} {k : IntKind} {ao : Option Addr} {n cap : Nat} {l : List Nat} (h : At w B k (.slice ao n cap) l) {m j : Nat} (hm : m ≤ j) (hj : j ≤ l.length) : At w B k (.slice (if cap = m then ao else ao.map fun x => x.add m) (j - m) (cap - m)) ((l.take j).drop m) :=
  (h.head hj (h.reads.head hj)).tail (by rw [List.length_take]; omega) (h.reads.mid hm hj)

theorem ownsV_below {w w' : World} {base : Nat} {e : TypeId} {v : Value} {n : Nat} {us : List Value} (h : w.ownsRow base e 1 v n us) (hb : Below w.heap.size w w') : w'.ownsRow base e 1 v n us :=
  h.kept (row := none) ⟨hb.os, hb.tape, hb.output, hb.size, fun j hj _ => hb.block j hj⟩ (by cases v.ownBlock <;> simp)

/-- What the document's own take answers. -/
def RefFT (A : Nat → Prop) (b : List Nat) (w : World) (e : Ending) (w' : World) : Prop :=
  ∃ (v' : Value) (t : List Nat) (s c : Nat), e = .returned (.tuple #[v', .int .i64 (s : Int), .int .i64 (c : Int)]) ∧ FT b t s c ∧ At w' A .u8 v' t ∧ Below w.heap.size w w'

theorem refFT_bad {A : Nat → Prop} {b : List Nat} {w w' : World} {c : Nat} (h : FT b [] 0 c) (hb : Below w.heap.size w w') : RefFT A b w (.returned (.tuple #[.slice none 0 0, .int .i64 0, .int .i64 (c : Int)])) w' :=
  ⟨_, [], 0, c, rfl, h, ⟨(owns_nil w' 0 5 .u8).reads, .inl rfl⟩, hb⟩

/-- What the document's own prefix answers. -/
def RefLed (A : Nat → Prop) (b : List Nat) (w : World) (e : Ending) (w' : World) : Prop :=
  ∃ (v' : Value) (ls : List (List Nat)) (k c : Nat), e = .returned (.tuple #[v', .int .i64 (k : Int), .int .i64 (c : Int)]) ∧ Led b ls k c ∧ Txs w' (fun j => A j ∨ w.heap.size ≤ j) v' ls ∧ Below w.heap.size w w'

theorem txs_held {w : World} {base : Nat} {A : Nat → Prop} {e : TypeId} {v : Value} {us : List Value} {ls : List (List Nat)} (h : w.ownsRow base e 1 v us.length us) (hl : us.length = ls.length)
    (hs : ∀ i, i < ls.length → At w A .u8 (us.getD i .nilIface) (ls.getD i [])) : Txs w (fun j => A j ∨ base ≤ j) v ls := by
  refine ⟨us, hl, (owned_row h).mono fun _ _ hB => .inr hB.1, fun u hu => ?_, fun i hi => (hs i hi).mono fun _ _ hB => .inl hB⟩
  obtain ⟨i, hi, rfl⟩ := List.getElem_of_mem hu
  have := (hs i (by omega)).oneCell
  rwa [List.getD_eq_getElem?_getD, List.getElem?_eq_getElem hi] at this

theorem txs_snoc' {w : World} {A : Nat → Prop} {u : Value} {us : List Value} {ls : List (List Nat)} {t : List Nat} (hl : us.length = ls.length)
    (hs : ∀ i, i < ls.length → At w A .u8 (us.getD i .nilIface) (ls.getD i [])) (hu : At w A .u8 u t) :
    (us ++ [u]).length = (ls ++ [t]).length ∧ ∀ i, i < (ls ++ [t]).length → At w A .u8 ((us ++ [u]).getD i .nilIface) ((ls ++ [t]).getD i []) := by
  refine ⟨by simp [hl], fun i hi => ?_⟩
  rw [List.length_append, List.length_singleton] at hi
  by_cases h : i < ls.length
  · rw [List.getD_eq_getElem?_getD, List.getD_eq_getElem?_getD, List.getElem?_append_left (by omega), List.getElem?_append_left h, ← List.getD_eq_getElem?_getD, ← List.getD_eq_getElem?_getD]
    exact hs i h
  · obtain rfl : i = ls.length := by omega
    rw [List.getD_eq_getElem?_getD, List.getD_eq_getElem?_getD, List.getElem?_append_right (by omega), List.getElem?_append_right (Nat.le_refl _), hl]
    simpa using hu

theorem at_low {w w' : World} {A : Nat → Prop} {B : Nat} {k : IntKind} {v : Value} {l : List Nat} (h : At w (fun j => A j ∧ j < B) k v l) (hb : Below B w w') : At w' (fun j => A j ∧ j < B) k v l :=
  h.keep ((kept_below hb).mono fun _ _ hB => hB.2)

end Go.Proofs.Ytnhffeppbliabaa
