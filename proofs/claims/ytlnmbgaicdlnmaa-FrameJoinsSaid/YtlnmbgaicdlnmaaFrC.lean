/- The contracts of package frame's Take, All, Prefix, One and Size. -/
import Derived.Test.YtlnmbgaicdlnmaaFrB
import Derived.Test.YtlnmbgaicdlnmaaSizeA
namespace Go.Proofs.Ytlnmbgaicdlnmaa
open Go.RowKit

/-- What the program's Take answers. -/
def FTook (b : List Nat) (w : World) (e : Ending) (w' : World) : Prop :=
  ∃ (v' : Value) (t : List Nat) (s c : Nat), e = .returned (.tuple #[v', .int .i64 (s : Int), errV c]) ∧ FT b t s c ∧ At w' (Own w' w.heap.size 5) .u8 v' t ∧ Below w.heap.size w w'

set_option maxHeartbeats 400000 in
set_option maxRecDepth 100000 in
theorem frameTake_any (v : Value) (b : List Nat) (w : World) (hr : Reads w .u8 v b) (hb : ∀ y ∈ b, y < 256) (hx : b.length ≤ 90000000000000) :
    Calls Try.prog 15 #[v] w (FTook b w) := by
  go_enter Try.func15, Try.ntmps15
  go_wp2_with fail
  refine (new_any w).mono ?_
  rintro e w1 ⟨p, rfl, hp, hm1, hb1⟩
  have HB1 := Lib.hid hb1
  have HP := Lib.hid hp
  have hr1 := hr.new hb1
  clear hb1 hp
  go_wp2_with fail
  refine (frTake_any p 0 _ b w1 hm1 (by decide) hr1 hb hx).mono ?_
  rintro e w2 ⟨v2, t, s, c, rfl, hft, hat, _, hg2⟩
  go_wp2
  go_ret3
  exact ⟨v2, t, s, c, rfl, hft, hat.mono fun j _ hB => ⟨Nat.le_trans HB1.out.size hB.1, hB.2⟩, HB1.out.grown hg2 HB1.out.size (fun j hj => by cases hj; exact HP.out)⟩

/-- What the program's One answers: the text, the error's number. -/
def FO (b t : List Nat) (c : Nat) : Prop := ∃ t1 s1 c1, FT b t1 s1 c1 ∧ if c1 ≠ 0 then t = [] ∧ c = c1 else if s1 < b.length then t = [] ∧ c = 2 else t = t1 ∧ c = 0

set_option maxHeartbeats 400000 in
set_option maxRecDepth 100000 in
theorem frameOne_any (v : Value) (b : List Nat) (w : World) (hr : Reads w .u8 v b) (hb : ∀ y ∈ b, y < 256) (hx : b.length ≤ 90000000000000) :
    Calls Try.prog 18 #[v] w fun e w' => ∃ (v' : Value) (t : List Nat) (c : Nat), e = .returned (.tuple #[v', errV c]) ∧ FO b t c ∧ At w' (Own w' w.heap.size 5) .u8 v' t ∧ Below w.heap.size w w' := by
  obtain ⟨ao, cap, rfl, h1, h2, h3⟩ := hr.val
  go_enter Try.func18, Try.ntmps18
  go_wp2_with fail
  refine (frameTake_any _ b w hr hb hx).mono ?_
  rintro e w1 ⟨v1, t, s, c, rfl, hft, hat, hb1⟩
  have HA := Lib.hid hat
  have HB := Lib.hid hb1
  have HF := Lib.hid hft
  clear hat hb1
  by_cases hc : c = 0
  · subst hc
    clear hft
    rw [errV_zero]
    by_cases hl : (s : Int) < (b.length : Int)
    · go_wp2
      go_ret2
      exact ⟨_, [], 2, rfl, ⟨t, s, 0, HF.out, by rw [if_neg (by simp), if_pos (by omega)]; exact ⟨rfl, rfl⟩⟩, (owns_nil w1 w.heap.size 5 .u8).at', HB.out⟩
    · go_wp2
      go_ret2
      exact ⟨_, t, 0, rfl, ⟨t, s, 0, HF.out, by rw [if_neg (by simp), if_neg (by omega)]; exact ⟨rfl, rfl⟩⟩, HA.out, HB.out⟩
  · obtain ⟨rfl, rfl⟩ := hft.bad hc
    have he := errV_pos hc
    clear hft
    rw [he]
    go_wp2
    go_ret2
    exact ⟨_, [], c, by rw [he]; rfl, ⟨[], 0, c, HF.out, by rw [if_pos hc]; exact ⟨rfl, rfl⟩⟩, (owns_nil w1 w.heap.size 5 .u8).at', HB.out⟩

set_option maxHeartbeats 400000 in
set_option maxRecDepth 100000 in
theorem framePrefix_any (v : Value) (b : List Nat) (w : World) (hr : Reads w .u8 v b) (hb : ∀ y ∈ b, y < 256) (hx : b.length ≤ 500000) :
    Calls Try.prog 19 #[v] w fun e w' => ∃ (v' : Value) (ls : List (List Nat)) (k c : Nat), e = .returned (.tuple #[v', .int .i64 (k : Int)]) ∧ Led b ls k c ∧ Txs w' (fun j => w.heap.size ≤ j) v' ls ∧ Below w.heap.size w w' := by
  go_enter Try.func19, Try.ntmps19
  go_wp2_with fail
  refine (leading_any _ b w hr hb hx).mono ?_
  rintro e w1 ⟨v1, ls, k, c, rfl, hled, htx, hb1⟩
  go_wp2
  go_ret2
  exact ⟨v1, ls, k, c, rfl, hled, htx, hb1⟩

set_option maxHeartbeats 400000 in
set_option maxRecDepth 100000 in
theorem frameAll_any (v : Value) (b : List Nat) (w : World) (hr : Reads w .u8 v b) (hb : ∀ y ∈ b, y < 256) (hx : b.length ≤ 500000) :
    Calls Try.prog 20 #[v] w fun e w' => ∃ (v' : Value) (ls : List (List Nat)) (k c : Nat), e = .returned (.tuple #[v', errV c]) ∧ Led b ls k c ∧ Txs w' (fun j => w.heap.size ≤ j) v' (if c = 0 then ls else []) ∧ Below w.heap.size w w' := by
  go_enter Try.func20, Try.ntmps20
  go_wp2_with fail
  refine (leading_any _ b w hr hb hx).mono ?_
  rintro e w1 ⟨v1, ls, k, c, rfl, hled, htx, hb1⟩
  have HL := Lib.hid hled
  have HT := Lib.hid htx
  have HB := Lib.hid hb1
  clear hled htx hb1
  by_cases hc : c = 0
  · subst hc
    rw [errV_zero]
    go_wp2
    go_ret2
    exact ⟨v1, ls, k, 0, rfl, HL.out, HT.out, HB.out⟩
  · have he := errV_pos hc
    rw [he]
    go_wp2
    go_ret2
    exact ⟨_, ls, k, c, by rw [he]; rfl, HL.out, by rw [if_neg hc]; exact txs_nil _ _, HB.out⟩

set_option maxHeartbeats 400000 in
set_option maxRecDepth 100000 in
theorem frameSize_any (v : Value) (t : List Nat) (w : World) (hr : Reads w .u8 v t) (hx : t.length ≤ 90000000000000) :
    Calls Try.prog 14 #[v] w fun e w' => e = .returned (.int .i64 (fsize t : Int)) ∧ w = w' := by
  obtain ⟨ao, cap, rfl, h1, h2, h3⟩ := hr.val
  have hu : U64 t.length := u64_of_le (by omega)
  have hl := enc_len10 hu
  go_enter Try.func14, Try.ntmps14
  go_wp2_with fail
  refine (size_any t.length w hu).mono ?_
  rintro e w1 ⟨rfl, rfl⟩
  have hf : ((enc t.length).length : Int) + (t.length : Int) + 4 = (fsize t : Int) := by unfold fsize; omega
  generalize (enc t.length).length = q at hl hf
  go_wp2
  go_ret
  exact ⟨rfl, rfl⟩

end Go.Proofs.Ytlnmbgaicdlnmaa
