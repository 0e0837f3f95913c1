/- The contract of package frame's take. · The contract of package frame's leading. -/
import Derived.Test.YtjbodokligpcaaaGreatAtA
import Derived.Test.YtjbodokligpcaaaGreatFrM
import Derived.Test.YtjbodokligpcaaaGreatTeP
import Derived.Test.YtjbodokligpcaaaGreatCqP
namespace Go.Proofs.YtjbodokligpcaaaGreat
open Go.RowKit

theorem open_take {b : List Nat} {q : Nat} (h : q + 4 ≤ b.length) :
    (four (crcx 0 (b.take q)) = (b.drop q).take 4 → openC (b.take (q + 4)) = 0 ∧ openL (b.take (q + 4)) = b.take q) ∧
    (four (crcx 0 (b.take q)) ≠ (b.drop q).take 4 → openC (b.take (q + 4)) = 11 ∧ openL (b.take (q + 4)) = []) := by
  have e1 : (b.take (q + 4)).length - 4 = q := by rw [List.length_take]; omega
  have e2 : (b.take (q + 4)).take q = b.take q := by rw [List.take_take]; congr 1; omega
  have e3 : b.take (q + 4) = b.take q ++ (b.drop q).take 4 := by rw [List.take_add]
  have hC : openC (b.take (q + 4)) = if four (crcx 0 (b.take q)) = (b.drop q).take 4 then 0 else 11 := by
    unfold openC
    rw [if_neg (by rw [List.length_take]; omega), e1, e2]
    by_cases h4 : four (crcx 0 (b.take q)) = (b.drop q).take 4
    · rw [if_pos h4, if_pos (by rw [h4, e3])]
    · rw [if_neg h4, if_neg]
      intro he
      rw [e3] at he
      exact h4 (List.append_cancel_left he)
  constructor
  · intro h4
    rw [if_pos h4] at hC
    refine ⟨hC, ?_⟩
    unfold openL
    rw [if_pos hC, e1, e2]
  · intro h4
    rw [if_neg h4] at hC
    refine ⟨hC, ?_⟩
    unfold openL
    rw [if_neg (by rw [hC]; decide)]

/-- What the program's take answers. -/
def FrTook (p n : Nat) (b : List Nat) (w : World) (e : Ending) (w' : World) : Prop :=
  ∃ (v' : Value) (t : List Nat) (s c : Nat), e = .returned (.tuple #[v', .int .i64 (s : Int), errV c]) ∧ FT b t s c ∧ At w' (Own w' w.heap.size 5) .u8 v' t ∧ (∃ n', n' ≤ n + 1 ∧ Mk w' p n') ∧ w.grownBy w' (some p)

theorem frTook_bad {p n : Nat} {b : List Nat} {w w' : World} {c n' : Nat} {ev : Value} (h : FT b [] 0 c) (hn : n' ≤ n + 1) (hm : Mk w' p n') (hg : w.grownBy w' (some p)) (he : ev = errV c) :
    FrTook p n b w (.returned (.tuple #[.slice none 0 0, .int .i64 0, ev])) w' :=
  ⟨_, [], 0, c, by rw [he]; rfl, h, (owns_nil w' w.heap.size 5 .u8).at', ⟨n', hn, hm⟩, hg⟩

set_option maxHeartbeats 1000000 in
set_option maxRecDepth 100000 in
theorem frTake_any (p n : Nat) (v : Value) (b : List Nat) (w : World) (hm : Mk w p n) (hn : n < 1000000) (hr : Reads w .u8 v b) (hb : ∀ y ∈ b, y < 256) (hx : b.length ≤ 90000000000000) :
    Calls Tryz.prog 73 #[.pointer (some ⟨p, 0, none⟩), v] w (FrTook p n b w) := by
  obtain ⟨ao, cap, rfl, h1, h2, h3⟩ := hr.val
  have HR := Lib.hid hr; clear hr
  have HM := Lib.hid hm; clear hm
  go_enter Tryz.func73, Tryz.ntmps73
  go_wp2_with fail
  refine (take_any _ b w HR.out hb).mono ?_
  rintro e w' ⟨m, k, ok, rfl, ht, rfl⟩
  rcases ht with ⟨rfl, hu, hp, hk⟩ | ⟨hok, rfl, rfl, hno⟩
  · rw [show formIf true = Value.nilIface from rfl]
    have HP := Lib.hid hp; clear hp
    have hk10 := enc_len10 hu
    have HK := Lib.hid hk
    by_cases hl : (65536 : Int) < (m : Int)
    · have HF : Hid (FT b [] 0 3) := Lib.hid (.inr ⟨m, hu, HP.out, .inl ⟨rfl, rfl, rfl, by omega⟩⟩)
      go_wp2
      go_ret3
      exact frTook_bad HF.out (Nat.le_succ n) HM.out (World.grownBy.refl _ _) rfl
    · have hm16 : (m : Int) ≤ 65536 := by omega
      have hkb : (k : Int) ≤ 10 := by omega
      by_cases hs : (b.length : Int) < (k : Int) + (m : Int) + 4
      · have HF : Hid (FT b [] 0 2) := Lib.hid (.inr ⟨m, hu, HP.out, .inr (.inl ⟨rfl, rfl, rfl, by omega, by omega⟩)⟩)
        clear hk hk10 hu
        go_wp2
        go_ret3
        exact frTook_bad HF.out (Nat.le_succ n) HM.out (World.grownBy.refl _ _) rfl
      · obtain ⟨q, hq⟩ : ∃ q, k + m = q := ⟨_, rfl⟩
        have hsz : (k : Int) + (m : Int) + 4 = ((q + 4 : Nat) : Int) := by omega
        have hle : q + 4 ≤ b.length := by omega
        have hkq : k ≤ q := by omega
        have hsl := fun w => slice_head w ao b.length cap (q + 4) (by omega)
        have hlt : (b.take (q + 4)).length = q + 4 := by rw [List.length_take]; omega
        have HB : Hid (Reads w .u8 (.slice ao (q + 4) cap) (b.take (q + 4))) := Lib.hid (HR.out.head hle)
        have hbl : ∀ y ∈ b.take (q + 4), y < 256 := fun y hy => hb y (List.mem_of_mem_take hy)
        have hot := open_take hle
        by_cases h4 : four (crcx 0 (b.take q)) = (b.drop q).take 4
        · obtain ⟨hC, hL⟩ := hot.1 h4
          have HF : Hid (FT b ((b.take q).drop k) (q + 4) 0) := Lib.hid (.inr ⟨m, hu, HP.out, .inr (.inr (.inr ⟨rfl, by rw [← HK.out, hq], by rw [← HK.out, hq], by omega, by rw [← HK.out, hq]; exact hle, by rw [← HK.out, hq]; exact h4⟩))⟩)
          clear hk hk10 hu hot h4
          go_wp2_with fail
          refine (opened_any p n _ (b.take (q + 4)) w HM.out hn HB.out hbl (by omega)).mono ?_
          rw [hC, hL, errV_zero]
          rintro e w2 ⟨v2, rfl, ho2, hm2, hg2⟩
          obtain ⟨ao2, cap2, rfl, h21, h22, h23⟩ := ho2.reads.val
          have hq2 : (b.take q).length = q := by rw [List.length_take]; omega
          have HA := Lib.hid (ho2.at'.tail (m := k) (by omega) (ho2.reads.tail (by omega)))
          rw [hq2] at HA
          rw [hq2]
          have hsl2 := fun w => slice_tail w ao2 q cap2 k hkq
          generalize (if cap2 = k then ao2 else ao2.map fun x => x.add k) = ao3 at HA hsl2
          have HM2 := Lib.hid hm2
          have HG2 := Lib.hid hg2
          clear ho2 hm2 hg2 hC hL hq2 h21 h22 h23 hlt hbl
          go_wp2
          go_ret3
          exact ⟨_, _, _, 0, rfl, HF.out, HA.out, ⟨n + 1, Nat.le_refl _, HM2.out⟩, HG2.out⟩
        · obtain ⟨hC, hL⟩ := hot.2 h4
          have HF : Hid (FT b [] 0 11) := Lib.hid (.inr ⟨m, hu, HP.out, .inr (.inr (.inl ⟨rfl, rfl, rfl, by omega, by rw [← HK.out, hq]; exact hle, by rw [← HK.out, hq]; exact h4⟩))⟩)
          clear hk hk10 hu hot h4
          go_wp2_with fail
          refine (opened_any p n _ (b.take (q + 4)) w HM.out hn HB.out hbl (by omega)).mono ?_
          rw [hC, hL]
          rintro e w2 ⟨v2, rfl, ho2, hm2, hg2⟩
          rw [errV_pos (by decide)]
          have HM2 := Lib.hid hm2
          have HG2 := Lib.hid hg2
          clear ho2 hm2 hg2 hC hL hlt hbl
          go_wp2
          go_ret3
          exact frTook_bad HF.out (Nat.le_refl _) HM2.out HG2.out rfl
  · obtain rfl : ok = false := by simpa using hok
    rw [show formIf false = Value.iface 68 (.int .i64 2) from rfl]
    have HF : Hid (FT b [] 0 2) := Lib.hid (.inl ⟨rfl, rfl, rfl, hno⟩)
    clear hno
    go_wp2
    go_ret3
    exact frTook_bad HF.out (Nat.le_succ n) HM.out (World.grownBy.refl _ _) rfl

end Go.Proofs.YtjbodokligpcaaaGreat

namespace Go.Proofs.YtjbodokligpcaaaGreat
open Go.RowKit

theorem Tryz.info22 : (Tryz.prog.info? 22).map (fun i => (i.zero, i.size, i.bytes)) = some (some (.slice none 0 0), 1, 24) := by kernel_rfl

/-- What the program's leading answers. -/
def Leading (b : List Nat) (w : World) (e : Ending) (w' : World) : Prop :=
  ∃ (v' : Value) (ls : List (List Nat)) (k c : Nat), e = .returned (.tuple #[v', .int .i64 (k : Int), errV c]) ∧ Led b ls k c ∧ Txs w' (fun j => w.heap.size ≤ j) v' ls ∧ Below w.heap.size w w'

theorem kept_maker {w w' : World} {p base : Nat} (hp : p < base) (hg : w.grownBy w' (some p)) (e : TypeId) : Kept (Own w base e) w w' :=
  (kept_row hg).mono fun j _ hB => by intro h; have := Option.some.inj h; have := hB.1; omega

theorem owned_maker {w w' : World} {p base : Nat} {e : TypeId} {v : Value} {n : Nat} {us : List Value} (h : w.ownsRow base e 1 v n us) (hp : p < base) (hg : w.grownBy w' (some p)) : w'.ownsRow base e 1 v n us := by
  refine h.kept hg ?_
  cases hv : v.ownBlock with
  | none => exact .inl rfl
  | some j => exact .inr fun he => by have := (h.lt j hv).1; have := Option.some.inj he; omega

theorem txs_owned {w : World} {base : Nat} {v : Value} {us : List Value} {ls : List (List Nat)} (h : w.ownsRow base 22 1 v us.length us) (hl : us.length = ls.length)
    (hs : ∀ i, i < ls.length → At w (Own w base 5) .u8 (us.getD i .nilIface) (ls.getD i [])) : Txs w (fun j => base ≤ j) v ls := by
  refine ⟨us, hl, (owned_row h).mono fun _ _ hB => hB.1, fun u hu => ?_, fun i hi => (hs i hi).mono fun _ _ hB => hB.1⟩
  obtain ⟨i, hi, rfl⟩ := List.getElem_of_mem hu
  have := (hs i (by omega)).oneCell
  rwa [List.getD_eq_getElem?_getD, List.getElem?_eq_getElem hi] at this

theorem txs_snoc {w : World} {base : Nat} {u : Value} {us : List Value} {ls : List (List Nat)} {t : List Nat} (hl : us.length = ls.length)
    (hs : ∀ i, i < ls.length → At w (Own w base 5) .u8 (us.getD i .nilIface) (ls.getD i [])) (hu : At w (Own w base 5) .u8 u t) :
    (us ++ [u]).length = (ls ++ [t]).length ∧ ∀ i, i < (ls ++ [t]).length → At w (Own w base 5) .u8 ((us ++ [u]).getD i .nilIface) ((ls ++ [t]).getD i []) := by
  refine ⟨by simp [hl], fun i hi => ?_⟩
  rw [List.length_append, List.length_singleton] at hi
  by_cases h : i < ls.length
  · rw [List.getD_eq_getElem?_getD, List.getD_eq_getElem?_getD, List.getElem?_append_left (by omega), List.getElem?_append_left h, ← List.getD_eq_getElem?_getD, ← List.getD_eq_getElem?_getD]
    exact hs i h
  · obtain rfl : i = ls.length := by omega
    rw [List.getD_eq_getElem?_getD, List.getD_eq_getElem?_getD, List.getElem?_append_right (by omega), List.getElem?_append_right (Nat.le_refl _), hl]
    simpa using hu

end Go.Proofs.YtjbodokligpcaaaGreat
