/- The contract of package frame's leading. -/
import Derived.Test.YtlnmbgaicdlnmaaFrA
namespace Go.Proofs.Ytlnmbgaicdlnmaa
open Go.RowKit

theorem Try.info22 : (Try.prog.info? 22).map (fun i => (i.zero, i.size, i.bytes)) = some (some (.slice none 0 0), 1, 24) := by kernel_rfl

/-- What the program's leading answers. -/
def Leading (b : List Nat) (w : World) (e : Ending) (w' : World) : Prop :=
  ∃ (v' : Value) (ls : List (List Nat)) (k c : Nat), e = .returned (.tuple #[v', .int .i64 (k : Int), errV c]) ∧ Led b ls k c ∧ Txs w' (fun j => w.heap.size ≤ j) v' ls ∧ Below w.heap.size w w'

theorem kept_maker {w w' : World} {p base : Nat} (hp : p < base) (hg : w.grownBy w' (some p)) (e : TypeId) : Kept (Own w base e) w w' :=
  (kept_row hg).mono fun j _ hB => by intro h; have := Option.some.inj h; have := hB.1; omega

theorem owned_maker {w w' : World} {p base : Nat} {e : TypeId} {v : Value} {n : Nat} {us : List Value} (h : w.ownsRow base e 1 v n us) (hp : p < base) (hg : w.grownBy w' (some p)) : w'.ownsRow base e 1 v n us := by
  refine h.kept hg ?_
  cases hv : v.ownBlock with
  | none => exact .inl rfl
  | some j => exact .inr fun he => by have := (h.lt j hv).1; have := Option.some.inj he; omega

theorem txs_owned {w : World} {base : Nat} {v : Value} {us : List Value} {ls : List (List Nat)} (h : w.ownsRow base 22 1 v us.length us) (hl : us.length = ls.length)
    (hs : ∀ i, i < ls.length → At w (Own w base 5) .u8 (us.getD i .nilIface) (ls.getD i [])) : Txs w (fun j => base ≤ j) v ls := by
  refine ⟨us, hl, (owned_row h).mono fun _ _ hB => hB.1, fun u hu => ?_, fun i hi => (hs i hi).mono fun _ _ hB => hB.1⟩
  obtain ⟨i, hi, rfl⟩ := List.getElem_of_mem hu
  have := (hs i (by omega)).oneCell
  rwa [List.getD_eq_getElem?_getD, List.getElem?_eq_getElem hi] at this

theorem txs_snoc {w : World} {base : Nat} {u : Value} {us : List Value} {ls : List (List Nat)} {t : List Nat} (hl : us.length = ls.length)
    (hs : ∀ i, i < ls.length → At w (Own w base 5) .u8 (us.getD i .nilIface) (ls.getD i [])) (hu : At w (Own w base 5) .u8 u t) :
    (us ++ [u]).length = (ls ++ [t]).length ∧ ∀ i, i < (ls ++ [t]).length → At w (Own w base 5) .u8 ((us ++ [u]).getD i .nilIface) ((ls ++ [t]).getD i []) := by
  refine ⟨by simp [hl], fun i hi => ?_⟩
  rw [List.length_append, List.length_singleton] at hi
  by_cases h : i < ls.length
  · rw [List.getD_eq_getElem?_getD, List.getD_eq_getElem?_getD, List.getElem?_append_left (by omega), List.getElem?_append_left h, ← List.getD_eq_getElem?_getD, ← List.getD_eq_getElem?_getD]
    exact hs i h
  · obtain rfl : i = ls.length := by omega
    rw [List.getD_eq_getElem?_getD, List.getD_eq_getElem?_getD, List.getElem?_append_right (by omega), List.getElem?_append_right (Nat.le_refl _), hl]
    simpa using hu

set_option maxHeartbeats 1000000 in
set_option maxRecDepth 100000 in
theorem leading_any (v : Value) (b : List Nat) (w : World) (hr : Reads w .u8 v b) (hb : ∀ y ∈ b, y < 256) (hx : b.length ≤ 500000) :
    Calls Try.prog 33 #[v] w (Leading b w) := by
  obtain ⟨ao, cap, rfl, h1, h2, h3⟩ := hr.val
  have HR := Lib.hid hr; clear hr
  go_enter Try.func33, Try.ntmps33
  go_wp2_with fail
  refine (new_any w).mono ?_
  rintro e w1 ⟨p, rfl, hp, hm1, hb1⟩
  have HP := Lib.hid hp
  have HM1 := Lib.hid hm1
  have HB1 := Lib.hid hb1
  have hsz1 := hm1.lt
  clear hp hm1 hb1
  go_wp2
  go_loopw [6, 7, 8, 9, 10] (fun tv pl _ _ _ wr => ∃ (k n : Nat) (ls : List (List Nat)) (us : List Value), pl = .int .i64 (k : Int) ∧ k ≤ b.length ∧ n ≤ k ∧ Mk wr p n ∧
      (∀ ls2 k2 c, Led (b.drop k) ls2 k2 c → Led b (ls ++ ls2) (k + k2) c) ∧ wr.ownsRow w1.heap.size 22 1 tv us.length us ∧ us.length = ls.length ∧ ls.length ≤ k ∧
      (∀ i, i < ls.length → At wr (Own wr w1.heap.size 5) .u8 (us.getD i .nilIface) (ls.getD i [])) ∧ Below w.heap.size w wr ∧ w1.heap.size ≤ wr.heap.size)
    (fun _ pl _ _ _ _ => b.length - (intOf pl).toNat)
  case atStart => exact ⟨0, 0, [], [], rfl, Nat.zero_le _, Nat.le_refl _, HM1.out, fun _ _ _ h => by simpa using h, World.ownsRow_nil _ _ _ _, rfl, Nat.le_refl _, by simp, HB1.out, Nat.le_refl _⟩
  case round =>
    obtain ⟨k, n, ls, us, rfl, hk, hn, hmk, hled, hown, hul, hlk, htx, hbel, hws⟩ := hrel
    have HMK := Lib.hid hmk
    have HLED := Lib.hid hled
    have HOWN := Lib.hid hown
    have HUL := Lib.hid hul
    have HLK := Lib.hid hlk
    have HTX := Lib.hid htx
    have HBEL := Lib.hid hbel
    have HWS := Lib.hid hws
    clear hmk hled hown hul hlk htx hbel hws
    by_cases hlt : (k : Int) < (b.length : Int)
    · have hsl := fun w => slice_tail w ao b.length cap k hk
      have hrt := (HR.out.new HBEL.out).tail hk
      generalize (if cap = k then ao else ao.map fun x => x.add k) = ao2 at hsl hrt
      have HRT := Lib.hid hrt; clear hrt
      have hbd : ∀ y ∈ b.drop k, y < 256 := fun y hy => hb y (List.mem_of_mem_drop hy)
      go_wp2_with fail
      refine (frTake_any p n _ (b.drop k) wr HMK.out (by omega) HRT.out hbd (by simp; omega)).mono ?_
      rintro e w2 ⟨v2, t, s, c, rfl, hft, hat, ⟨n2, hn2, hm2⟩, hg2⟩
      obtain ⟨ao5, cap5, rfl, _, _, _⟩ := hat.reads.val
      have HB2 : Hid (Below w.heap.size w w2) := Lib.hid (HBEL.out.grown hg2 HBEL.out.size (fun j hj => by cases hj; exact HP.out))
      have HO2 := Lib.hid (owned_maker HOWN.out hsz1 hg2)
      have HT2 : Hid (∀ i, i < ls.length → At w2 (Own w2 w1.heap.size 5) .u8 (us.getD i .nilIface) (ls.getD i [])) := Lib.hid fun i hi => (HTX.out i hi).own (kept_maker hsz1 hg2 _)
      have HS2 : Hid (w1.heap.size ≤ w2.heap.size) := Lib.hid (Nat.le_trans HWS.out hg2.size)
      have HA2 : Hid (At w2 (Own w2 w1.heap.size 5) .u8 (.slice ao5 t.length cap5) t) := Lib.hid (hat.mono fun j _ hB => ⟨Nat.le_trans HWS.out hB.1, hB.2⟩)
      have HM2 := Lib.hid hm2
      clear hat hm2 hg2 hbd
      by_cases hc : c = 0
      · subst hc
        have hgood := hft.good
        have HF := Lib.hid hft; clear hft
        rw [List.length_drop] at hgood
        rw [errV_zero]
        have hsum : (k : Int) + (s : Int) ≤ 500000 := by omega
        go_wp2_with (at_builtin; go_must (refine wpList_appV _ rfl _ _ 40 rfl w1.heap.size 22 (.slice none 0 0) 24 Try.underlying40 Try.info22 rfl _ us rfl (HO2.out.alloc _) _ _ [.slice ao5 t.length cap5] rfl (row_one w2 _ _ _) ?h1 (by decide) ?c1 ?c3 ?_))
        case h1 => intro u hu; obtain rfl : u = .slice ao5 t.length cap5 := by simpa using hu
                   exact HA2.out.oneCell
        case c1 => have := HUL.out; have := HLK.out; simp; omega
        case c3 => have := HS2.out; simp; omega
        intro v3 w3 ho3 hg3
        have hk3 : Kept (Own w2 w1.heap.size 5) w2 w3 := (kept_new ((Below.refl _ _).alloc (Nat.le_refl _) _) _).trans ((kept_row hg3).mono fun j _ hB => own_ne HO2.out (by decide) hB)
        have hb3 : Below w.heap.size w w3 := (HB2.out.alloc HB2.out.size _).grown hg3 (by have := HB2.out.size; simp; omega) (fun j hj => by have := (HO2.out.lt j hj).1; have := HB1.out.size; omega)
        have hs3 := Nat.le_trans (Nat.le_trans HS2.out (show w2.heap.size ≤ (w2.alloc (.cells #[.slice ao5 t.length cap5] 22)).heap.size by simp)) hg3.size
        have hsn := txs_snoc HUL.out (fun i hi => (HT2.out i hi).own hk3) (HA2.out.own hk3)
        have HM3 : Hid (Mk w3 p n2) := Lib.hid ((HM2.out.alloc _).keep (hg3.block p (by have := HM2.out.lt; simp; omega) (fun he => by have := (HO2.out.lt p he.symm).1; omega)) hg3.size)
        have HO3 := Lib.hid ho3
        have HB3 := Lib.hid hb3
        have HS3 := Lib.hid hs3
        have HSN := Lib.hid hsn
        clear ho3 hg3 hk3 hb3 hs3 hsn
        go_wp2
        go_roundw
        case rel =>
          refine ⟨k + s, n2, ls ++ [t], us ++ [.slice ao5 t.length cap5], by go_num, by omega, by omega, HM3.out, ?_, by simpa using HO3.out, HSN.out.1, ?_, HSN.out.2, HB3.out, HS3.out⟩
          · intro ls2 k2 c h
            rw [← List.drop_drop] at h
            have := HLED.out _ _ _ (Led.more HF.out h)
            rw [List.append_assoc, Nat.add_assoc]
            exact this
          · have := HLK.out; simp; omega
        case measure => simp [intOf]; omega
      · obtain ⟨rfl, rfl⟩ := hft.bad hc
        have HF : Hid (Led b ls k c) := Lib.hid (by
          have := HLED.out [] 0 c (Led.bad (fun h => by have := congrArg List.length h; simp at this; omega) hft hc)
          simpa using this)
        have he := errV_pos hc
        clear hft
        rw [he]
        go_wp2
        go_ret3
        exact ⟨_, ls, k, c, by rw [he]; rfl, HF.out, (txs_owned HO2.out HUL.out HT2.out).mono fun j _ hB => Nat.le_trans HB1.out.size hB, HB2.out⟩
    · obtain rfl : k = b.length := by omega
      have HF : Hid (Led b ls b.length 0) := Lib.hid (by
        have := HLED.out [] 0 0 (by rw [List.drop_length]; exact .over)
        simpa using this)
      go_wp2
      go_ret3
      exact ⟨_, ls, b.length, 0, rfl, HF.out, (txs_owned HOWN.out HUL.out HTX.out).mono fun j _ hB => Nat.le_trans HB1.out.size hB, HBEL.out⟩

end Go.Proofs.Ytlnmbgaicdlnmaa
