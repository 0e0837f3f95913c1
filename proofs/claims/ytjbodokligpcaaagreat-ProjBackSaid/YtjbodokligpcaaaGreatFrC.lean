/- The contracts of package frame's Take, All, Prefix, One and Size. -/
import Derived.Test.YtjbodokligpcaaaGreatFaP
import Derived.Test.YtjbodokligpcaaaGreatSizeA
namespace Go.Proofs.YtjbodokligpcaaaGreat
open Go.RowKit

/-- What the program's Take answers. -/
def FTook (b : List Nat) (w : World) (e : Ending) (w' : World) : Prop :=
  ∃ (v' : Value) (t : List Nat) (s c : Nat), e = .returned (.tuple #[v', .int .i64 (s : Int), errV c]) ∧ FT b t s c ∧ At w' (Own w' w.heap.size 5) .u8 v' t ∧ Below w.heap.size w w'

set_option maxHeartbeats 400000 in
set_option maxRecDepth 100000 in
theorem frameTake_any (v : Value) (b : List Nat) (w : World) (hr : Reads w .u8 v b) (hb : ∀ y ∈ b, y < 256) (hx : b.length ≤ 90000000000000) :
    Calls Tryz.prog 46 #[v] w (FTook b w) := by
  go_enter Tryz.func46, Tryz.ntmps46
  go_wp2_with fail
  refine (newC_any w).mono ?_
  rintro e w1 ⟨p, rfl, hp, hm1, hb1⟩
  have HB1 := Lib.hid hb1
  have HP := Lib.hid hp
  have hr1 := hr.new hb1
  clear hb1 hp
  go_wp2_with fail
  refine (frTake_any p 0 _ b w1 hm1 (by decide) hr1 hb hx).mono ?_
  rintro e w2 ⟨v2, t, s, c, rfl, hft, hat, _, hg2⟩
  go_wp2
  go_ret3
  exact ⟨v2, t, s, c, rfl, hft, hat.mono fun j _ hB => ⟨Nat.le_trans HB1.out.size hB.1, hB.2⟩, HB1.out.grown hg2 HB1.out.size (fun j hj => by cases hj; exact HP.out)⟩

/-- What the program's One answers: the text, the error's number. -/
def FO (b t : List Nat) (c : Nat) : Prop := ∃ t1 s1 c1, FT b t1 s1 c1 ∧ if c1 ≠ 0 then t = [] ∧ c = c1 else if s1 < b.length then t = [] ∧ c = 2 else t = t1 ∧ c = 0

set_option maxHeartbeats 400000 in
set_option maxRecDepth 100000 in
theorem frameOne_any (v : Value) (b : List Nat) (w : World) (hr : Reads w .u8 v b) (hb : ∀ y ∈ b, y < 256) (hx : b.length ≤ 90000000000000) :
    Calls Tryz.prog 16 #[v] w fun e w' => ∃ (v' : Value) (t : List Nat) (c : Nat), e = .returned (.tuple #[v', errV c]) ∧ FO b t c ∧ At w' (Own w' w.heap.size 5) .u8 v' t ∧ Below w.heap.size w w' := by
  obtain ⟨ao, cap, rfl, h1, h2, h3⟩ := hr.val
  go_enter Tryz.func16, Tryz.ntmps16
  go_wp2_with fail
  refine (frameTake_any _ b w hr hb hx).mono ?_
  rintro e w1 ⟨v1, t, s, c, rfl, hft, hat, hb1⟩
  have HA := Lib.hid hat
  have HB := Lib.hid hb1
  have HF := Lib.hid hft
  clear hat hb1
  by_cases hc : c = 0
  · subst hc
    clear hft
    rw [errV_zero]
    by_cases hl : (s : Int) < (b.length : Int)
    · go_wp2
      go_ret2
      exact ⟨_, [], 2, rfl, ⟨t, s, 0, HF.out, by rw [if_neg (by simp), if_pos (by omega)]; exact ⟨rfl, rfl⟩⟩, (owns_nil w1 w.heap.size 5 .u8).at', HB.out⟩
    · go_wp2
      go_ret2
      exact ⟨_, t, 0, rfl, ⟨t, s, 0, HF.out, by rw [if_neg (by simp), if_neg (by omega)]; exact ⟨rfl, rfl⟩⟩, HA.out, HB.out⟩
  · obtain ⟨rfl, rfl⟩ := hft.bad hc
    have he := errV_pos hc
    clear hft
    rw [he]
    go_wp2
    go_ret2
    exact ⟨_, [], c, by rw [he]; rfl, ⟨[], 0, c, HF.out, by rw [if_pos hc]; exact ⟨rfl, rfl⟩⟩, (owns_nil w1 w.heap.size 5 .u8).at', HB.out⟩

end Go.Proofs.YtjbodokligpcaaaGreat
