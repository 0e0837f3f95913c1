/- Acts as they are recorded: their bytes. · The contract of the document's own Bytes of a cell. · A region that draws its order, walked by hand under a condition on the world. · Acts as they are recorded: the document's own bytes; an act as the document's. · The contract of a number's size: math/bits.Len64, and Size. · The contracts of package frame's Take, All, Prefix, One and Size. -/
import Derived.Test.YtpebmmhokigglaaGreatDoorQb
import Derived.Test.YtpebmmhokigglaaGreatDoorFbP
import Derived.Test.YtpebmmhokigglaaGreatDoorQa
import Derived.Lib.AtoiErrMem
import Derived.Test.YtpebmmhokigglaaGreatDoorBase
import Derived.OrdersHeld
import Derived.Laws.Rows
import Derived.Laws.AppendOwnNone
import Derived.Deep.RegionLaw
import Derived.Deep.RegionHeld3
import Derived.Test.YtpebmmhokigglaaGreatDoorRows
import Derived.WalkSpells
namespace Go.Proofs.YtpebmmhokigglaaGreatDoor
open Go.RowKit

end Go.Proofs.YtpebmmhokigglaaGreatDoor

namespace Go.Proofs.YtpebmmhokigglaaGreatDoor
open Go.RowKit

end Go.Proofs.YtpebmmhokigglaaGreatDoor

namespace Go.Proofs.YtpebmmhokigglaaGreatDoor
open Go.RowKit

section
variable {P : Program} {md : Region.Mode} {ops : Array Oper} {Q : Exit → Act → World → Prop} {S : World → Prop}

theorem Owns.keep {w w' : World} {base : Nat} {e : TypeId} {k : IntKind} {v : Value} {l : List Nat} (h : Owns w base e k v l) (hb : Below w.heap.size w w') : Owns w' base e k v l := by
  unfold Owns World.ownsRow at *
  obtain ⟨hl, h | ⟨g, cap, cur, hv, hbg, hg, r⟩⟩ := h
  · exact ⟨hl, .inl h⟩
  · exact ⟨hl, .inr ⟨g, cap, cur, hv, hbg, (hb.block g (Array.getElem?_eq_some_iff.1 hg).1).trans hg, r⟩⟩

/-- An append of what reads, nil or not, at a step of a region that draws. -/
theorem step_app_reads {w : World} {o : Oper} {a : Act} {K : Act → World → Prop} {E : Prop} (hgd : o.guard = none) (s x : Operand) (t : TypeId)
    (ho : o.op = .call { callee := .builtin .append, args := #[s, x], argTypes := #[t, t] })
    (base : Nat) (e : TypeId) (z : Value) (bytes : Nat) (ht : P.underlying t = some (.slice e)) (hinfo : (P.info? e).map (fun i => (i.zero, i.size, i.bytes)) = some (some z, 1, bytes)) (hzs : z.cells.size = 1)
    (k : IntKind) (v : Value) (xs : List Nat) (hs : a.eval s = v) (hown : Owns w base e k v xs)
    (sv : Value) (l : List Nat) (hx : a.eval x = sv) (hr : Reads w k sv l)
    (hb0 : 0 < bytes) (hbytes : (xs.length + l.length) * bytes ≤ 140737488355328) (hbase : base ≤ w.heap.size)
    (h : ∀ v' w', Owns w' base e k v' (xs ++ l) → w.grownBy w' v.ownBlock → K (a.put o.dst v') w') : if Region.wanted o (yielded ops a.tmps) = true then Oper.wp P o a w K Q else E := by
  rw [if_pos (by simp only [Region.wanted, hgd])]
  obtain ⟨i, hi, hz, hsz, hby⟩ := info_parts hinfo
  have h63 : xs.length + l.length ≤ 140737488355328 := Nat.le_trans (Nat.le_mul_of_pos_right _ hb0) hbytes
  obtain ⟨ao, cap, rfl, h1, h2, h3, h4⟩ := hr
  cases ao with
  | none =>
    have hl : l = [] := by
      have := h3 rfl
      exact List.length_eq_zero_iff.1 (by omega)
    subst hl
    have hc := h3 rfl
    subst hc
    have hrun := run_append_owned_none (P := P) (w := w) base t o.type e i 1 ht hi v xs.length (vals k xs) hown
    have hK := h v w (by simpa using hown) (World.grownBy.refl _ _)
    have hx' : a.eval x = .slice none 0 0 := hx
    unfold Oper.wp
    simp [execOp, ho, resolve, invoke, builtin, hs, hx', hrun, Result.andThen]
    exact hK
  | some ad =>
    refine wp_append_own w s x t ho base e i z 1 bytes ht hi hz hsz hby hzs (by decide) v xs.length (vals k xs) hs hown ad l.length cap (vals k l) hx (by simp [vals_length]) ?_ (vals_oneCell k l) (by simp only [maxLen]; omega) hbytes hbase ?_
    · intro j u hu
      have hj : j < l.length := by
        have := (List.getElem?_eq_some_iff.1 hu).1
        simpa [vals_length] using this
      rcases h4 with rfl | ⟨b, off, ha, _, hc⟩
      · simp at hj
      · obtain rfl := Option.some.inj ha
        rw [vals_get k l j hj] at hu
        rw [Addr.add_lit, hc j hj]
        exact hu
    · intro v' w' hown' hg _
      exact h v' w' (by unfold Owns; simpa [vals_append] using hown') hg

end

end Go.Proofs.YtpebmmhokigglaaGreatDoor

namespace Go.Proofs.YtpebmmhokigglaaGreatDoor
open Go.RowKit

end Go.Proofs.YtpebmmhokigglaaGreatDoor

namespace Go.Proofs.YtpebmmhokigglaaGreatDoor
open Go.RowKit
set_option linter.unusedVariables false

/-- r is the number of n's bits. -/
def BL (n r : Nat) : Prop := n < 2 ^ r ∧ (r = 0 ∨ 2 ^ (r - 1) ≤ n)

theorem BL.up {n s j t : Nat} (h : BL j t) (h1 : 2 ^ s * j ≤ n) (h2 : n < 2 ^ s * (j + 1)) (h0 : s = 0 ∨ 1 ≤ j) : BL n (s + t) := by
  obtain ⟨a, b⟩ := h
  rcases h0 with rfl | h0
  · simp only [Nat.pow_zero, Nat.one_mul, Nat.zero_add] at *
    obtain rfl : n = j := by omega
    exact ⟨a, b⟩
  · have ht : t ≠ 0 := by rintro rfl; simp at a; omega
    refine ⟨?_, .inr ?_⟩
    · rw [Nat.pow_add]
      exact Nat.lt_of_lt_of_le h2 (Nat.mul_le_mul_left _ (by omega))
    · rcases b with b | b
      · exact absurd b ht
      · rw [show s + t - 1 = s + (t - 1) from by omega, Nat.pow_add]
        exact Nat.le_trans (Nat.mul_le_mul_left _ b) h1

end Go.Proofs.YtpebmmhokigglaaGreatDoor

namespace Go.Proofs.YtpebmmhokigglaaGreatDoor
open Go.RowKit

/-- What the program's Take answers. -/
def FTook (b : List Nat) (w : World) (e : Ending) (w' : World) : Prop :=
  ∃ (v' : Value) (t : List Nat) (s c : Nat), e = .returned (.tuple #[v', .int .i64 (s : Int), errV c]) ∧ FT b t s c ∧ At w' (Own w' w.heap.size 5) .u8 v' t ∧ Below w.heap.size w w'

set_option maxHeartbeats 400000 in
set_option maxRecDepth 100000 in
theorem frameTake_any (v : Value) (b : List Nat) (w : World) (hr : Reads w .u8 v b) (hb : ∀ y ∈ b, y < 256) (hx : b.length ≤ 90000000000000) :
    Calls Tryz.prog 65 #[v] w (FTook b w) := by
  go_enter Tryz.func65, Tryz.ntmps65
  go_wp2_with fail
  refine (newC_any w).mono ?_
  rintro e w1 ⟨p, rfl, hp, hm1, hb1⟩
  have HB1 := Lib.hid hb1
  have HP := Lib.hid hp
  have hr1 := hr.new hb1
  clear hb1 hp
  go_wp2_with fail
  refine (frTake_any p 0 _ b w1 hm1 (by decide) hr1 hb hx).mono ?_
  rintro e w2 ⟨v2, t, s, c, rfl, hft, hat, _, hg2⟩
  go_wp2
  go_ret3
  exact ⟨v2, t, s, c, rfl, hft, hat.mono fun j _ hB => ⟨Nat.le_trans HB1.out.size hB.1, hB.2⟩, HB1.out.grown hg2 HB1.out.size (fun j hj => by cases hj; exact HP.out)⟩

/-- What the program's One answers: the text, the error's number. -/
def FO (b t : List Nat) (c : Nat) : Prop := ∃ t1 s1 c1, FT b t1 s1 c1 ∧ if c1 ≠ 0 then t = [] ∧ c = c1 else if s1 < b.length then t = [] ∧ c = 2 else t = t1 ∧ c = 0

set_option maxHeartbeats 400000 in
set_option maxRecDepth 100000 in
theorem frameOne_any (v : Value) (b : List Nat) (w : World) (hr : Reads w .u8 v b) (hb : ∀ y ∈ b, y < 256) (hx : b.length ≤ 90000000000000) :
    Calls Tryz.prog 34 #[v] w fun e w' => ∃ (v' : Value) (t : List Nat) (c : Nat), e = .returned (.tuple #[v', errV c]) ∧ FO b t c ∧ At w' (Own w' w.heap.size 5) .u8 v' t ∧ Below w.heap.size w w' := by
  obtain ⟨ao, cap, rfl, h1, h2, h3⟩ := hr.val
  go_enter Tryz.func34, Tryz.ntmps34
  go_wp2_with fail
  refine (frameTake_any _ b w hr hb hx).mono ?_
  rintro e w1 ⟨v1, t, s, c, rfl, hft, hat, hb1⟩
  have HA := Lib.hid hat
  have HB := Lib.hid hb1
  have HF := Lib.hid hft
  clear hat hb1
  by_cases hc : c = 0
  · subst hc
    clear hft
    rw [errV_zero]
    by_cases hl : (s : Int) < (b.length : Int)
    · go_wp2
      go_ret2
      exact ⟨_, [], 2, rfl, ⟨t, s, 0, HF.out, by rw [if_neg (by simp), if_pos (by omega)]; exact ⟨rfl, rfl⟩⟩, (owns_nil w1 w.heap.size 5 .u8).at', HB.out⟩
    · go_wp2
      go_ret2
      exact ⟨_, t, 0, rfl, ⟨t, s, 0, HF.out, by rw [if_neg (by simp), if_neg (by omega)]; exact ⟨rfl, rfl⟩⟩, HA.out, HB.out⟩
  · obtain ⟨rfl, rfl⟩ := hft.bad hc
    have he := errV_pos hc
    clear hft
    rw [he]
    go_wp2
    go_ret2
    exact ⟨_, [], c, by rw [he]; rfl, ⟨[], 0, c, HF.out, by rw [if_pos hc]; exact ⟨rfl, rfl⟩⟩, (owns_nil w1 w.heap.size 5 .u8).at', HB.out⟩

end Go.Proofs.YtpebmmhokigglaaGreatDoor
