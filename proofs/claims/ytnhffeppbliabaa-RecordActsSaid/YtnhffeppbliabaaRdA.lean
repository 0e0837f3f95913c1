/- A reader in memory, and the contracts of New, Err, Fail, Left, End. -/
import Derived.Test.YtnhffeppbliabaaTakeB
import Derived.Test.YtnhffeppbliabaaNumA
import Derived.Test.YtnhffeppbliabaaCloneA
import Derived.WideLaws
namespace Go.Proofs.Ytnhffeppbliabaa
open Go.RowKit

/-- A reader stands at block p: its bytes, how far it has come, its error. -/
structure Rd (w : World) (p : Nat) (rv : Value) (row : List Nat) (place c : Nat) : Prop where
  blk : w.heap[p]? = some (.cells #[rv, .int .i64 (place : Int), errV c] 147 (0, 0))
  own : Owns w 0 5 .u8 rv row
  off : ∀ g, rv.ownBlock = some g → g < p
  le : place ≤ row.length
  byte : ∀ y ∈ row, y < 256
  len : row.length ≤ 90000000000000

/-- A reader with these bytes left, and this error (0: none). -/
def RdOf (w : World) (p : Nat) (rest : List Nat) (c : Nat) : Prop := ∃ rv row place, Rd w p rv row place c ∧ row.drop place = rest

section
variable {w : World} {p : Nat} {rv : Value} {row : List Nat} {place c : Nat}
theorem Rd.lt (h : Rd w p rv row place c) : p < w.heap.size := (Array.getElem?_eq_some_iff.1 h.blk).1
theorem Rd.c0 (h : Rd w p rv row place c) : w.cell? ⟨p, 0, none⟩ = some rv := by rw [cell_of_row w p 0 _ _ _ h.blk]; rfl
theorem Rd.c1 (h : Rd w p rv row place c) : w.cell? ⟨p, 1, none⟩ = some (.int .i64 (place : Int)) := by rw [cell_of_row w p 1 _ _ _ h.blk]; rfl
theorem Rd.c2 (h : Rd w p rv row place c) : w.cell? ⟨p, 2, none⟩ = some (errV c) := by rw [cell_of_row w p 2 _ _ _ h.blk]; rfl
theorem Rd.fz (h : Rd w p rv row place c) (i : Nat) : w.frozen? ⟨p, i, none⟩ = false := frozen_of_row w p i _ _ h.blk

theorem Rd.grown {w' : World} {row' : Option Nat} (h : Rd w p rv row place c) (hg : w.grownBy w' row') (hp : some p ≠ row') (hr : rv.ownBlock = none ∨ rv.ownBlock ≠ row') : Rd w' p rv row place c :=
  ⟨(hg.block p h.lt hp).trans h.blk, h.own.grown hg hr, h.off, h.le, h.byte, h.len⟩
theorem Rd.below {w' : World} {B : Nat} (h : Rd w p rv row place c) (hb : Below B w w') (hB : w.heap.size ≤ B) : Rd w' p rv row place c :=
  ⟨(hb.block p (Nat.lt_of_lt_of_le h.lt hB)).trans h.blk, h.own.below hb hB, h.off, h.le, h.byte, h.len⟩

/-- Another place, another error. -/
theorem Rd.set {w' : World} {place' c' : Nat} (h : Rd w p rv row place c) (hg : w.grownBy w' (some p)) (hblk : w'.heap[p]? = some (.cells #[rv, .int .i64 (place' : Int), errV c'] 147 (0, 0))) (hp : place' ≤ row.length) : Rd w' p rv row place' c' :=
  ⟨hblk, h.own.grown hg (by cases hrv : rv.ownBlock with | none => exact .inl rfl | some g => right; intro e; have := h.off g hrv; simp at e; omega), h.off, hp, h.byte, h.len⟩

theorem Rd.setErr {c' : Nat} (h : Rd w p rv row place c) : Rd (w.setCell ⟨p, 2, none⟩ (errV c')) p rv row place c' :=
  h.set ⟨rfl, rfl, rfl, by simp, fun k _ hk => heap_setCell_other w ⟨p, 2, none⟩ k _ (fun e => hk (by simp [e]))⟩ (by rw [heap_setCell_same w p 2 _ _ _ h.blk]; rfl) h.le
theorem Rd.setPlace {place' : Nat} (h : Rd w p rv row place c) (hp : place' ≤ row.length) : Rd (w.setCell ⟨p, 1, none⟩ (.int .i64 (place' : Int))) p rv row place' c :=
  h.set ⟨rfl, rfl, rfl, by simp, fun k _ hk => heap_setCell_other w ⟨p, 1, none⟩ k _ (fun e => hk (by simp [e]))⟩ (by rw [heap_setCell_same w p 1 _ _ _ h.blk]; rfl) hp
theorem Rd.drewN (h : Rd w p rv row place c) (n : Nat) : Rd (w.drewN n) p rv row place c := ⟨h.blk, h.own, h.off, h.le, h.byte, h.len⟩
end

theorem grown_set (w : World) (p i : Nat) (v : Value) : w.grownBy (w.setCell ⟨p, i, none⟩ v) (some p) :=
  ⟨rfl, rfl, rfl, by simp, fun k _ hk => heap_setCell_other w ⟨p, i, none⟩ k _ (fun e => hk (by simp [e]))⟩
theorem grown_drewN (w : World) (n : Nat) (row : Option Nat) : w.grownBy (w.drewN n) row := ⟨rfl, rfl, rfl, Nat.le_refl _, fun _ _ _ => rfl⟩

set_option maxHeartbeats 400000 in
set_option maxRecDepth 100000 in
theorem err_nil (w : World) : Calls Try.prog 104 #[.pointer none] w fun e w' => e = .returned (errV 4) ∧ w = w' := by
  go_enter Try.func104, Try.ntmps104
  go_wp2
  go_ret
  exact ⟨rfl, rfl⟩

set_option maxHeartbeats 400000 in
set_option maxRecDepth 100000 in
theorem err_any {w : World} {p : Nat} {rv : Value} {row : List Nat} {place c : Nat} (h : Rd w p rv row place c) :
    Calls Try.prog 104 #[.pointer (some ⟨p, 0, none⟩)] w fun e w' => e = .returned (errV c) ∧ w = w' := by
  have h2 := h.c2
  generalize errV c = ev at h2
  clear h
  go_enter Try.func104, Try.ntmps104
  go_wp2
  go_ret
  exact ⟨rfl, rfl⟩

set_option maxHeartbeats 400000 in
set_option maxRecDepth 100000 in
theorem fail_nil (v : Value) (w : World) : Calls Try.prog 101 #[.pointer none, v] w fun e w' => e = .returned (.tuple #[]) ∧ w = w' := by
  go_enter Try.func101, Try.ntmps101
  go_wp2
  exact bodyPost_ret (results_none rfl _ _ _) rfl ⟨rfl, rfl⟩

set_option maxHeartbeats 400000 in
set_option maxRecDepth 100000 in
theorem fail_had {w : World} {p : Nat} {rv : Value} {row : List Nat} {place c : Nat} (h : Rd w p rv row place c) (hc : c ≠ 0) (v : Value) :
    Calls Try.prog 101 #[.pointer (some ⟨p, 0, none⟩), v] w fun e w' => e = .returned (.tuple #[]) ∧ w = w' := by
  have h2 := h.c2
  rw [errV_pos hc] at h2
  clear h
  go_enter Try.func101, Try.ntmps101
  go_wp2
  exact bodyPost_ret (results_none rfl _ _ _) rfl ⟨rfl, rfl⟩

set_option maxHeartbeats 400000 in
set_option maxRecDepth 100000 in
theorem fail_none {w : World} {p : Nat} {rv : Value} {row : List Nat} {place : Nat} (h : Rd w p rv row place 0) :
    Calls Try.prog 101 #[.pointer (some ⟨p, 0, none⟩), .nilIface] w fun e w' => e = .returned (.tuple #[]) ∧ w = w' := by
  have h2 := h.c2
  rw [errV_zero] at h2
  clear h
  go_enter Try.func101, Try.ntmps101
  go_wp2
  exact bodyPost_ret (results_none rfl _ _ _) rfl ⟨rfl, rfl⟩

set_option maxHeartbeats 400000 in
set_option maxRecDepth 100000 in
theorem fail_set {w : World} {p : Nat} {rv : Value} {row : List Nat} {place : Nat} (h : Rd w p rv row place 0) (x : Value) :
    Calls Try.prog 101 #[.pointer (some ⟨p, 0, none⟩), .iface 77 x] w fun e w' => e = .returned (.tuple #[]) ∧ w' = w.setCell ⟨p, 2, none⟩ (.iface 77 x) := by
  have h2 := h.c2
  have hf := h.fz 2
  rw [errV_zero] at h2
  clear h
  go_enter Try.func101, Try.ntmps101
  go_wp2
  go_end0
  exact ⟨rfl, rfl⟩

/-- Fail, whatever the reader and the error: the first error stays. -/
theorem fail_any {w : World} {p : Nat} {rv : Value} {row : List Nat} {place c : Nat} (h : Rd w p rv row place c) (d : Nat) :
    Calls Try.prog 101 #[.pointer (some ⟨p, 0, none⟩), errV d] w fun e w' => e = .returned (.tuple #[]) ∧ Rd w' p rv row place (if c = 0 then d else c) ∧ w.grownBy w' (some p) := by
  by_cases hc : c = 0
  · subst hc
    by_cases hd : d = 0
    · subst hd
      exact (fail_none h).mono fun e w' ⟨he, hw⟩ => ⟨he, by subst hw; simpa using h, by subst hw; exact World.grownBy.refl _ _⟩
    · rw [errV_pos hd]
      exact (fail_set h _).mono fun e w' ⟨he, hw⟩ => ⟨he, by subst hw; rw [if_pos rfl, ← errV_pos hd]; exact h.setErr, by subst hw; exact grown_set _ _ _ _⟩
  · exact (fail_had h hc _).mono fun e w' ⟨he, hw⟩ => ⟨he, by subst hw; rw [if_neg hc]; exact h, by subst hw; exact World.grownBy.refl _ _⟩

/-- What is owned is nil and nothing, or begins at a block's head. -/
theorem Owns.form {w : World} {base : Nat} {e : TypeId} {k : IntKind} {v : Value} {l : List Nat} (h : Owns w base e k v l) :
    (v = .slice none 0 0 ∧ l = []) ∨ ∃ g cap, v = .slice (some ⟨g, 0, none⟩) l.length cap ∧ l.length ≤ cap ∧ cap ≤ maxLen ∧ ∀ i, i < l.length → w.cell? ⟨g, i, none⟩ = some (.int k ((l.getD i 0 : Nat) : Int)) := by
  have h0 := h
  unfold Owns at h0
  rcases h.2 with ⟨rfl, hn⟩ | ⟨g, cap, cur, rfl, hb, hg, hnc, hm, hs, ht⟩
  · exact .inl ⟨rfl, List.length_eq_zero_iff.1 hn⟩
  · exact .inr ⟨g, cap, rfl, hnc, hm, fun i hi => by rw [h0.cellAt i (by omega), vals_get k l i hi]⟩

theorem left_nil (w : World) : Calls Try.prog 103 #[.pointer none] w fun e w' => e = .returned (.int .i64 0) ∧ w = w' := by
  go_enter Try.func103, Try.ntmps103
  go_wp2_with fail
  refine (err_nil w).mono ?_
  rintro e w' ⟨rfl, rfl⟩
  rw [errV_pos (by decide)]
  go_wp2
  go_ret
  exact ⟨rfl, rfl⟩

set_option maxHeartbeats 400000 in
set_option maxRecDepth 100000 in
theorem left_err {w : World} {p : Nat} {rv : Value} {row : List Nat} {place c : Nat} (h : Rd w p rv row place c) (hc : c ≠ 0) :
    Calls Try.prog 103 #[.pointer (some ⟨p, 0, none⟩)] w fun e w' => e = .returned (.int .i64 0) ∧ w = w' := by
  go_enter Try.func103, Try.ntmps103
  go_wp2_with fail
  refine (err_any h).mono ?_
  rintro e w' ⟨rfl, rfl⟩
  rw [errV_pos hc]
  go_wp2
  go_ret
  exact ⟨rfl, rfl⟩

/-- A world and draws. -/
def Drawn (w : World) (r : Value) (e : Ending) (w' : World) : Prop := e = .returned r ∧ ∃ n, w' = w.drewN n

set_option maxHeartbeats 400000 in
set_option maxRecDepth 100000 in
theorem left_ok {w : World} {p : Nat} {rv : Value} {row : List Nat} {place : Nat} (h : Rd w p rv row place 0) :
    Calls Try.prog 103 #[.pointer (some ⟨p, 0, none⟩)] w (Drawn w (.int .i64 ((row.length - place : Nat) : Int))) := by
  have c0 := h.c0
  have c1 := h.c1
  obtain ⟨ao, cap, rfl, _, _, _⟩ := h.own.reads.val
  have hle := h.le
  have hlen := h.len
  go_enter Try.func103, Try.ntmps103
  go_wp2_with fail
  refine (err_any h).mono ?_
  rintro e w' ⟨rfl, rfl⟩
  rw [errV_zero]
  clear h
  go_wp2_with fail
  go_quiet (fail)
  go_wp2
  go_ret
  exact ⟨ret_int (by omega), _, rfl⟩

end Go.Proofs.Ytnhffeppbliabaa
