/- The contracts of Text and List. -/
import Derived.Test.YtnhffeppbliabaaRdD
namespace Go.Proofs.Ytnhffeppbliabaa
open Go.RowKit

def TextPost (p : Nat) (rv : Value) (row : List Nat) (place c : Nat) (most : Int) (w : World) (e : Ending) (w' : World) : Prop :=
  ∃ (v : Value) (out : List Nat) (n place1 c1 place' c' : Nat), e = .returned v ∧ NumRel (row.drop place) c n (row.drop place1) c1 ∧
    FixRel (row.drop place1) (manyC n c1 most) (manyR n most : Nat) out (row.drop place') c' ∧ Owns w' w.heap.size 5 .u8 v out ∧ Rd w' p rv row place' c' ∧ w.grownBy w' (some p)

set_option maxHeartbeats 400000 in
set_option maxRecDepth 100000 in
theorem text_any {w : World} {p : Nat} {rv : Value} {row : List Nat} {place c : Nat} (h : Rd w p rv row place c) (most : Int) (hm1 : -9223372036854775808 ≤ most) (hm2 : most ≤ 9223372036854775807) :
    Calls Try.prog 102 #[.pointer (some ⟨p, 0, none⟩), .int .i64 most] w (TextPost p rv row place c most w) := by
  go_enter Try.func102, Try.ntmps102
  go_wp2_with fail
  refine (many_any h most hm1 hm2).mono ?_
  rintro e w1 ⟨n, place1, c1, rfl, hn, hrd, hg⟩
  have HN := Lib.hid hn
  clear h hn
  go_wp2_with fail
  refine (fixed_any hrd _).mono ?_
  rintro e w2 ⟨v, out, place', c', rfl, hf, ho, hrd2, hg2⟩
  have HF := Lib.hid hf
  clear hf hrd
  go_wp2
  go_ret
  exact ⟨v, out, n, place1, c1, place', c', rfl, HN.out, HF.out, ho.mono hg.size, hrd2, grownBy_trans hg hg2 (fun j hj _ => hj)⟩

/-- Numbers taken, one by one. -/
def RunRel (rest : List Nat) (c m : Nat) (out rest' : List Nat) (c' : Nat) : Prop :=
  (c ≠ 0 ∧ out = [] ∧ rest' = rest ∧ c' = c) ∨
  (c = 0 ∧ ∃ acc : List Nat, acc.length = m ∧ (∀ x ∈ acc, U64 x) ∧ rest = encs acc ++ rest' ∧ out = acc ∧ c' = 0) ∨
  (c = 0 ∧ ∃ acc : List Nat, acc.length < m ∧ (∀ x ∈ acc, U64 x) ∧ rest = encs acc ++ rest' ∧ (∀ k, U64 k → ¬ enc k <+: rest') ∧ out = [] ∧ c' = 2)

theorem encs_cancel : ∀ (a b : List Nat) (r s : List Nat), a.length = b.length → encs a ++ r = encs b ++ s → a = b ∧ r = s := by
  intro a
  induction a with
  | nil => intro b r s hl h; obtain rfl : b = [] := List.length_eq_zero_iff.1 hl.symm; exact ⟨rfl, by simpa [encs] using h⟩
  | cons x a ih =>
    intro b r s hl h
    cases b with
    | nil => simp at hl
    | cons y b =>
      have e1 : encs (x :: a) ++ r = enc x ++ (encs a ++ r) := by simp [encs]
      have e2 : encs (y :: b) ++ s = enc y ++ (encs b ++ s) := by simp [encs]
      rw [e1, e2] at h
      have h1 : enc x <+: enc x ++ (encs a ++ r) := List.prefix_append _ _
      have h2 : enc y <+: enc x ++ (encs a ++ r) := ⟨_, h.symm⟩
      obtain rfl := enc_prefix_unique h1 h2
      obtain ⟨e3, e4⟩ := ih b r s (by simpa using hl) (List.append_cancel_left h)
      exact ⟨by rw [e3], e4⟩

/-- Fewer numbers that end where no number's bytes stand, and more of them, don't go together. -/
theorem encs_stop {a b r s : List Nat} (hl : a.length < b.length) (hb : ∀ x ∈ b, U64 x) (h : encs a ++ r = encs b ++ s) (hr : ∀ k, U64 k → ¬ enc k <+: r) : False := by
  have hd : 0 < (b.drop a.length).length := by simp; omega
  have he : encs b = encs (b.take a.length) ++ encs (b.drop a.length) := by
    unfold encs; rw [← List.flatMap_append, List.take_append_drop]
  rw [he, List.append_assoc] at h
  obtain ⟨_, h2⟩ := encs_cancel a (b.take a.length) r _ (by simp; omega) h
  cases hdb : b.drop a.length with
  | nil => rw [hdb] at hd; simp at hd
  | cons y t =>
    rw [hdb] at h2
    have hy : y ∈ b := List.mem_of_mem_drop (i := a.length) (by rw [hdb]; simp)
    exact hr y (hb y hy) ⟨encs t ++ s, by rw [h2]; simp [encs]⟩

theorem RunRel.unique {rest : List Nat} {c m : Nat} {o o' r r' : List Nat} {d d' : Nat} (h : RunRel rest c m o r d) (h' : RunRel rest c m o' r' d') : o = o' ∧ r = r' ∧ d = d' := by
  rcases h with ⟨a1, a2, a3, a4⟩ | ⟨a1, x, a2, a3, a4, a5, a6⟩ | ⟨a1, x, a2, a3, a4, a5, a6, a7⟩ <;> rcases h' with ⟨b1, b2, b3, b4⟩ | ⟨b1, y, b2, b3, b4, b5, b6⟩ | ⟨b1, y, b2, b3, b4, b5, b6, b7⟩
  · exact ⟨by rw [a2, b2], by rw [a3, b3], by rw [a4, b4]⟩
  · exact absurd b1 a1
  · exact absurd b1 a1
  · exact absurd a1 b1
  · obtain ⟨e1, e2⟩ := encs_cancel x y _ _ (by omega) (a4.symm.trans b4)
    exact ⟨by rw [a5, b5, e1], e2, by rw [a6, b6]⟩
  · exact (encs_stop (by omega) a3 (b4.symm.trans a4) b5).elim
  · exact absurd a1 b1
  · exact (encs_stop (by omega) b3 (a4.symm.trans b4) a5).elim
  · rcases Nat.lt_trichotomy x.length y.length with hl | hl | hl
    · exact (encs_stop hl b3 (a4.symm.trans b4) a5).elim
    · obtain ⟨e1, e2⟩ := encs_cancel x y _ _ hl (a4.symm.trans b4)
      exact ⟨by rw [a6, b6], e2, by rw [a7, b7]⟩
    · exact (encs_stop hl a3 (b4.symm.trans a4) b5).elim

def ListPost (p : Nat) (rv : Value) (row : List Nat) (place c : Nat) (most : Int) (w : World) (e : Ending) (w' : World) : Prop :=
  ∃ (v : Value) (out : List Nat) (n place1 c1 place' c' : Nat), e = .returned v ∧ NumRel (row.drop place) c n (row.drop place1) c1 ∧
    RunRel (row.drop place1) (manyC n c1 most) (manyR n most) out (row.drop place') c' ∧ Owns w' w.heap.size 116 .u64 v out ∧ Rd w' p rv row place' c' ∧ w.grownBy w' (some p)

theorem Try.info25 : (Try.prog.info? 116).map (fun i => (i.zero, i.size, i.bytes)) = some (some (.int .u64 0), 1, 8) := by kernel_rfl

theorem manyR_zero {rest : List Nat} {c n : Nat} {r : List Nat} {c1 : Nat} {most : Int} (h : NumRel rest c n r c1) (hc : manyC n c1 most ≠ 0) : manyR n most = 0 := by
  by_cases hb : most < 0 ∨ most < (n : Int)
  · exact (many_bad (c := c1) hb).1
  · rw [(many_good (c := c1) hb).1]
    rw [(many_good hb).2] at hc
    rcases h with ⟨_, h2, _, _⟩ | ⟨_, _, _, h4⟩ | ⟨_, h2, _, _, _⟩
    · exact h2
    · exact absurd h4 hc
    · exact h2

theorem manyR_le (n : Nat) (most : Int) : manyR n most ≤ n := by unfold manyR; split <;> omega
theorem manyR_most {n : Nat} {most : Int} (h : 0 < manyR n most) : (manyR n most : Int) ≤ most := by
  by_cases hb : most < 0 ∨ most < (n : Int)
  · rw [(many_bad (c := 0) hb).1] at h; omega
  · rw [(many_good (c := 0) hb).1]; omega

theorem drop_len_acc {row acc : List Nat} {pl pl' : Nat} (h : row.drop pl = encs acc ++ row.drop pl') : acc.length ≤ row.length := by
  have h1 : acc.length ≤ (encs acc).length := by
    clear h
    induction acc with
    | nil => simp
    | cons x a ih =>
      have e : encs (x :: a) = enc x ++ encs a := by simp [encs]
      have := enc_pos x
      rw [e, List.length_append, List.length_cons]; omega
  have h2 := congrArg List.length h
  simp only [List.length_drop, List.length_append] at h2
  omega

end Go.Proofs.Ytnhffeppbliabaa
