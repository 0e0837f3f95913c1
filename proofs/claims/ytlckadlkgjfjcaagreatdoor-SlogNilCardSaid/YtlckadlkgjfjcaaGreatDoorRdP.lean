/- A reader in memory, and the contracts of New, Err, Fail, Left, End. · The contracts of New, End and Number. · The contracts of many, Within, Fixed and Text. · The contracts of Fixed and Text. · The contracts of Text and List. -/
import Derived.Test.YtlckadlkgjfjcaaGreatDoorQf
import Derived.Test.YtlckadlkgjfjcaaGreatDoorDaP
import Derived.WideLaws
import Derived.Test.YtlckadlkgjfjcaaGreatDoorEnP
import Derived.StillTailTactics
namespace Go.Proofs.YtlckadlkgjfjcaaGreatDoor
open Go.RowKit

/-- A reader stands at block p: its bytes, how far it has come, its error. -/
structure Rd (w : World) (p : Nat) (rv : Value) (row : List Nat) (place c : Nat) : Prop where
  blk : w.heap[p]? = some (.cells #[rv, .int .i64 (place : Int), errV c] 290 (0, 0))
  own : Owns w 0 5 .u8 rv row
  off : ∀ g, rv.ownBlock = some g → g < p
  le : place ≤ row.length
  byte : ∀ y ∈ row, y < 256
  len : row.length ≤ 90000000000000

section
variable {w : World} {p : Nat} {rv : Value} {row : List Nat} {place c : Nat}
theorem Rd.lt (h : Rd w p rv row place c) : p < w.heap.size := (Array.getElem?_eq_some_iff.1 h.blk).1
theorem Rd.c0 (h : Rd w p rv row place c) : w.cell? ⟨p, 0, none⟩ = some rv := by rw [cell_of_row w p 0 _ _ _ h.blk]; rfl
theorem Rd.c1 (h : Rd w p rv row place c) : w.cell? ⟨p, 1, none⟩ = some (.int .i64 (place : Int)) := by rw [cell_of_row w p 1 _ _ _ h.blk]; rfl
theorem Rd.c2 (h : Rd w p rv row place c) : w.cell? ⟨p, 2, none⟩ = some (errV c) := by rw [cell_of_row w p 2 _ _ _ h.blk]; rfl
theorem Rd.fz (h : Rd w p rv row place c) (i : Nat) : w.frozen? ⟨p, i, none⟩ = false := frozen_of_row w p i _ _ h.blk

theorem Rd.grown {w' : World} {row' : Option Nat} (h : Rd w p rv row place c) (hg : w.grownBy w' row') (hp : some p ≠ row') (hr : rv.ownBlock = none ∨ rv.ownBlock ≠ row') : Rd w' p rv row place c :=
  ⟨(hg.block p h.lt hp).trans h.blk, h.own.grown hg hr, h.off, h.le, h.byte, h.len⟩
theorem Rd.below {w' : World} {B : Nat} (h : Rd w p rv row place c) (hb : Below B w w') (hB : w.heap.size ≤ B) : Rd w' p rv row place c :=
  ⟨(hb.block p (Nat.lt_of_lt_of_le h.lt hB)).trans h.blk, h.own.below hb hB, h.off, h.le, h.byte, h.len⟩

/-- Another place, another error. -/
theorem Rd.set {w' : World} {place' c' : Nat} (h : Rd w p rv row place c) (hg : w.grownBy w' (some p)) (hblk : w'.heap[p]? = some (.cells #[rv, .int .i64 (place' : Int), errV c'] 290 (0, 0))) (hp : place' ≤ row.length) : Rd w' p rv row place' c' :=
  ⟨hblk, h.own.grown hg (by cases hrv : rv.ownBlock with | none => exact .inl rfl | some g => right; intro e; have := h.off g hrv; simp at e; omega), h.off, hp, h.byte, h.len⟩

theorem Rd.setErr {c' : Nat} (h : Rd w p rv row place c) : Rd (w.setCell ⟨p, 2, none⟩ (errV c')) p rv row place c' :=
  h.set ⟨rfl, rfl, rfl, by simp, fun k _ hk => heap_setCell_other w ⟨p, 2, none⟩ k _ (fun e => hk (by simp [e]))⟩ (by rw [heap_setCell_same w p 2 _ _ _ h.blk]; rfl) h.le
theorem Rd.setPlace {place' : Nat} (h : Rd w p rv row place c) (hp : place' ≤ row.length) : Rd (w.setCell ⟨p, 1, none⟩ (.int .i64 (place' : Int))) p rv row place' c :=
  h.set ⟨rfl, rfl, rfl, by simp, fun k _ hk => heap_setCell_other w ⟨p, 1, none⟩ k _ (fun e => hk (by simp [e]))⟩ (by rw [heap_setCell_same w p 1 _ _ _ h.blk]; rfl) hp
theorem Rd.drewN (h : Rd w p rv row place c) (n : Nat) : Rd (w.drewN n) p rv row place c := ⟨h.blk, h.own, h.off, h.le, h.byte, h.len⟩
end

theorem grown_set (w : World) (p i : Nat) (v : Value) : w.grownBy (w.setCell ⟨p, i, none⟩ v) (some p) :=
  ⟨rfl, rfl, rfl, by simp, fun k _ hk => heap_setCell_other w ⟨p, i, none⟩ k _ (fun e => hk (by simp [e]))⟩
theorem grown_drewN (w : World) (n : Nat) (row : Option Nat) : w.grownBy (w.drewN n) row := ⟨rfl, rfl, rfl, Nat.le_refl _, fun _ _ _ => rfl⟩

set_option maxHeartbeats 400000 in
set_option maxRecDepth 100000 in
theorem err_any {w : World} {p : Nat} {rv : Value} {row : List Nat} {place c : Nat} (h : Rd w p rv row place c) :
    Calls Tryz.prog 260 #[.pointer (some ⟨p, 0, none⟩)] w fun e w' => e = .returned (errV c) ∧ w = w' := by
  have h2 := h.c2
  generalize errV c = ev at h2
  clear h
  go_enter Tryz.func260, Tryz.ntmps260
  go_wp2
  go_ret
  exact ⟨rfl, rfl⟩

set_option maxHeartbeats 400000 in
set_option maxRecDepth 100000 in
theorem fail_had {w : World} {p : Nat} {rv : Value} {row : List Nat} {place c : Nat} (h : Rd w p rv row place c) (hc : c ≠ 0) (v : Value) :
    Calls Tryz.prog 256 #[.pointer (some ⟨p, 0, none⟩), v] w fun e w' => e = .returned (.tuple #[]) ∧ w = w' := by
  have h2 := h.c2
  rw [errV_pos hc] at h2
  clear h
  go_enter Tryz.func256, Tryz.ntmps256
  go_wp2
  exact bodyPost_ret (results_none rfl _ _ _) rfl ⟨rfl, rfl⟩

set_option maxHeartbeats 400000 in
set_option maxRecDepth 100000 in
theorem fail_none {w : World} {p : Nat} {rv : Value} {row : List Nat} {place : Nat} (h : Rd w p rv row place 0) :
    Calls Tryz.prog 256 #[.pointer (some ⟨p, 0, none⟩), .nilIface] w fun e w' => e = .returned (.tuple #[]) ∧ w = w' := by
  have h2 := h.c2
  rw [errV_zero] at h2
  clear h
  go_enter Tryz.func256, Tryz.ntmps256
  go_wp2
  exact bodyPost_ret (results_none rfl _ _ _) rfl ⟨rfl, rfl⟩

set_option maxHeartbeats 400000 in
set_option maxRecDepth 100000 in
theorem fail_set {w : World} {p : Nat} {rv : Value} {row : List Nat} {place : Nat} (h : Rd w p rv row place 0) (x : Value) :
    Calls Tryz.prog 256 #[.pointer (some ⟨p, 0, none⟩), .iface 41 x] w fun e w' => e = .returned (.tuple #[]) ∧ w' = w.setCell ⟨p, 2, none⟩ (.iface 41 x) := by
  have h2 := h.c2
  have hf := h.fz 2
  rw [errV_zero] at h2
  clear h
  go_enter Tryz.func256, Tryz.ntmps256
  go_wp2
  go_end0
  exact ⟨rfl, rfl⟩

/-- Fail, whatever the reader and the error: the first error stays. -/
theorem fail_any {w : World} {p : Nat} {rv : Value} {row : List Nat} {place c : Nat} (h : Rd w p rv row place c) (d : Nat) :
    Calls Tryz.prog 256 #[.pointer (some ⟨p, 0, none⟩), errV d] w fun e w' => e = .returned (.tuple #[]) ∧ Rd w' p rv row place (if c = 0 then d else c) ∧ w.grownBy w' (some p) := by
  by_cases hc : c = 0
  · subst hc
    by_cases hd : d = 0
    · subst hd
      exact (fail_none h).mono fun e w' ⟨he, hw⟩ => ⟨he, by subst hw; simpa using h, by subst hw; exact World.grownBy.refl _ _⟩
    · rw [errV_pos hd]
      exact (fail_set h _).mono fun e w' ⟨he, hw⟩ => ⟨he, by subst hw; rw [if_pos rfl, ← errV_pos hd]; exact h.setErr, by subst hw; exact grown_set _ _ _ _⟩
  · exact (fail_had h hc _).mono fun e w' ⟨he, hw⟩ => ⟨he, by subst hw; rw [if_neg hc]; exact h, by subst hw; exact World.grownBy.refl _ _⟩

/-- What is owned is nil and nothing, or begins at a block's head. -/
theorem Owns.form {w : World} {base : Nat} {e : TypeId} {k : IntKind} {v : Value} {l : List Nat} (h : Owns w base e k v l) :
    (v = .slice none 0 0 ∧ l = []) ∨ ∃ g cap, v = .slice (some ⟨g, 0, none⟩) l.length cap ∧ l.length ≤ cap ∧ cap ≤ maxLen ∧ ∀ i, i < l.length → w.cell? ⟨g, i, none⟩ = some (.int k ((l.getD i 0 : Nat) : Int)) := by
  have h0 := h
  unfold Owns at h0
  rcases h.2 with ⟨rfl, hn⟩ | ⟨g, cap, cur, rfl, hb, hg, hnc, hm, hs, ht⟩
  · exact .inl ⟨rfl, List.length_eq_zero_iff.1 hn⟩
  · exact .inr ⟨g, cap, rfl, hnc, hm, fun i hi => by rw [h0.cellAt i (by omega), vals_get k l i hi]⟩

set_option maxHeartbeats 400000 in
set_option maxRecDepth 100000 in
theorem left_err {w : World} {p : Nat} {rv : Value} {row : List Nat} {place c : Nat} (h : Rd w p rv row place c) (hc : c ≠ 0) :
    Calls Tryz.prog 261 #[.pointer (some ⟨p, 0, none⟩)] w fun e w' => e = .returned (.int .i64 0) ∧ w = w' := by
  go_enter Tryz.func261, Tryz.ntmps261
  go_wp2_with fail
  refine (err_any h).mono ?_
  rintro e w' ⟨rfl, rfl⟩
  rw [errV_pos hc]
  go_wp2
  go_ret
  exact ⟨rfl, rfl⟩

/-- A world and draws. -/
def Drawn (w : World) (r : Value) (e : Ending) (w' : World) : Prop := e = .returned r ∧ ∃ n, w' = w.drewN n

set_option maxHeartbeats 400000 in
set_option maxRecDepth 100000 in
theorem left_ok {w : World} {p : Nat} {rv : Value} {row : List Nat} {place : Nat} (h : Rd w p rv row place 0) :
    Calls Tryz.prog 261 #[.pointer (some ⟨p, 0, none⟩)] w (Drawn w (.int .i64 ((row.length - place : Nat) : Int))) := by
  have c0 := h.c0
  have c1 := h.c1
  obtain ⟨ao, cap, rfl, _, _, _⟩ := h.own.reads.val
  have hle := h.le
  have hlen := h.len
  go_enter Tryz.func261, Tryz.ntmps261
  go_wp2_with fail
  refine (err_any h).mono ?_
  rintro e w' ⟨rfl, rfl⟩
  rw [errV_zero]
  clear h
  go_wp2_with fail
  go_quiet (fail)
  go_wp2
  go_ret
  exact ⟨ret_int (by omega), _, rfl⟩

end Go.Proofs.YtlckadlkgjfjcaaGreatDoor

namespace Go.Proofs.YtlckadlkgjfjcaaGreatDoor
open Go.RowKit

/-- What New hands back. -/
def NewPost (b : List Nat) (w : World) (e : Ending) (w' : World) : Prop :=
  ∃ p rv, e = .returned (.pointer (some ⟨p, 0, none⟩)) ∧ Rd w' p rv b 0 0 ∧ Below w.heap.size w w' ∧ w.heap.size ≤ p ∧ (∀ g, rv.ownBlock = some g → w.heap.size ≤ g)

set_option maxHeartbeats 400000 in
set_option maxRecDepth 100000 in
theorem new_any (v : Value) (b : List Nat) (w : World) (hr : Reads w .u8 v b) (hb : ∀ y ∈ b, y < 256) (hl : b.length ≤ 90000000000000) :
    Calls Tryz.prog 194 #[v] w (NewPost b w) := by
  go_enter Tryz.func194, Tryz.ntmps194
  go_wp2_with fail
  refine (clone_any v b w hr (by omega)).mono ?_
  rintro e w1 ⟨v1, rfl, ho, hb1⟩
  obtain ⟨ao, cap, rfl, _, _, _⟩ := ho.reads.val
  go_wp2
  go_ret
  refine ⟨w1.heap.size, _, rfl, ⟨heap_alloc_new w1 _, (ho.mono (Nat.zero_le _)).alloc _, fun g hg => (ho.lt g hg).2, Nat.zero_le _, hb, hl⟩, hb1.alloc hb1.size _, hb1.size, fun g hg => (ho.lt g hg).1⟩

/-- The error at a reader's end. -/
def endC (left c : Nat) : Nat := if c ≠ 0 then c else if left = 0 then 0 else 2

set_option maxHeartbeats 400000 in
set_option maxRecDepth 100000 in
theorem end_any {w : World} {p : Nat} {rv : Value} {row : List Nat} {place c : Nat} (h : Rd w p rv row place c) :
    Calls Tryz.prog 197 #[.pointer (some ⟨p, 0, none⟩)] w (Drawn w (errV (endC (row.length - place) c))) := by
  by_cases hc : c = 0
  · subst hc
    by_cases hl : row.length - place = 0
    · have he : endC (row.length - place) 0 = 0 := by unfold endC; rw [if_neg (by simp), if_pos hl]
      rw [he]
      go_enter Tryz.func197, Tryz.ntmps197
      go_wp2_with fail
      refine (left_ok h).mono ?_
      rintro e w' ⟨rfl, n, rfl⟩
      rw [hl]
      have hd := h.drewN n
      clear h
      go_wp2_with fail
      refine (err_any hd).mono ?_
      rintro e w' ⟨rfl, rfl⟩
      go_wp2
      go_ret
      exact ⟨rfl, n, rfl⟩
    · have he : endC (row.length - place) 0 = 2 := by unfold endC; rw [if_neg (by simp), if_neg hl]
      rw [he]
      have hpos : 0 < ((row.length - place : Nat) : Int) := by omega
      go_enter Tryz.func197, Tryz.ntmps197
      go_wp2_with fail
      refine (left_ok h).mono ?_
      rintro e w' ⟨rfl, n, rfl⟩
      generalize ((row.length - place : Nat) : Int) = L at hpos
      clear h hl
      go_wp2
      go_ret
      exact ⟨rfl, n, rfl⟩
  · have he : endC (row.length - place) c = c := by unfold endC; rw [if_pos hc]
    rw [he]
    go_enter Tryz.func197, Tryz.ntmps197
    go_wp2_with fail
    refine (left_err h hc).mono ?_
    rintro e w' ⟨rfl, rfl⟩
    go_wp2_with fail
    refine (err_any h).mono ?_
    rintro e w' ⟨rfl, rfl⟩
    go_wp2
    go_ret
    exact ⟨rfl, 0, rfl⟩

theorem taken_ex (b : List Nat) : ∃ n k ok, Taken b n k (ok = true) := by
  by_cases h : ∃ n, U64 n ∧ enc n <+: b
  · obtain ⟨n, h1, h2⟩ := h
    exact ⟨n, _, true, .inl ⟨rfl, h1, h2, rfl⟩⟩
  · exact ⟨0, 0, false, .inr ⟨by simp, rfl, rfl, fun m hm hp => h ⟨m, hm, hp⟩⟩⟩

theorem take_at {b : List Nat} {n k : Nat} {ok : Bool} (ht : Taken b n k (ok = true)) (v : Value) (w : World) (hr : Reads w .u8 v b) (hb : ∀ y ∈ b, y < 256) :
    Calls Tryz.prog 300 #[v] w fun e w' => e = .returned (.tuple #[.int .u64 (n : Int), .int .i64 (k : Int), formIf ok]) ∧ w' = w := by
  refine (take_any v b w hr hb).mono ?_
  rintro e w' ⟨n', k', ok', rfl, ht', rfl⟩
  obtain ⟨rfl, rfl, h⟩ := ht.unique ht'
  obtain rfl : ok = ok' := by cases ok <;> cases ok' <;> simp_all
  exact ⟨rfl, rfl⟩

/-- What Number hands back. -/
def NumPost (p : Nat) (rv : Value) (row : List Nat) (place c : Nat) (w : World) (e : Ending) (w' : World) : Prop :=
  ∃ n place' c' : Nat, e = .returned (.int .u64 (n : Int)) ∧ NumRel (row.drop place) c n (row.drop place') c' ∧ Rd w' p rv row place' c' ∧ w.grownBy w' (some p)

theorem number_err {w : World} {p : Nat} {rv : Value} {row : List Nat} {place c : Nat} (h : Rd w p rv row place c) (hc : c ≠ 0) :
    Calls Tryz.prog 255 #[.pointer (some ⟨p, 0, none⟩)] w (NumPost p rv row place c w) := by
  go_enter Tryz.func255, Tryz.ntmps255
  go_wp2_with fail
  refine (err_any h).mono ?_
  rintro e w' ⟨rfl, rfl⟩
  rw [errV_pos hc]
  go_wp2
  go_ret
  exact ⟨0, place, c, rfl, .inl ⟨hc, rfl, rfl, rfl⟩, h, World.grownBy.refl _ _⟩

/-- What is left of the row, as the walk cuts it. -/
theorem rest_reads {w : World} {g cap place : Nat} {row : List Nat} (h : Reads w .u8 (.slice (some ⟨g, 0, none⟩) row.length cap) row) (hp : place < cap) (hle : place ≤ row.length) :
    Reads w .u8 (.slice (some ⟨g, place, none⟩) (row.length - place) (cap - place)) (row.drop place) := by
  obtain ⟨ao, cap', hv, h1, h2, h3, h4⟩ := h
  simp only [Value.slice.injEq, true_and] at hv
  obtain ⟨rfl, rfl⟩ := hv
  have hl : (row.drop place).length = row.length - place := by simp
  refine ⟨_, cap - place, by rw [hl], by omega, by omega, by simp, ?_⟩
  rcases h4 with rfl | ⟨b, off, ha, hb, hc⟩
  · left; simp
  · simp only [Option.some.injEq, Addr.mk.injEq, and_true] at ha
    obtain ⟨rfl, rfl⟩ := ha
    refine .inr ⟨g, place, rfl, hb, fun i hi => ?_⟩
    rw [hl] at hi
    have := hc (place + i) (by omega)
    rw [Nat.zero_add] at this
    rw [this]
    simp [List.getD]

set_option maxHeartbeats 1000000 in
set_option maxRecDepth 100000 in
theorem number_ok {w : World} {p : Nat} {rv : Value} {row : List Nat} {place : Nat} (h : Rd w p rv row place 0) :
    Calls Tryz.prog 255 #[.pointer (some ⟨p, 0, none⟩)] w (NumPost p rv row place 0 w) := by
  obtain ⟨n, k, ok, ht⟩ := taken_ex (row.drop place)
  have c0 := h.c0
  have c1 := h.c1
  have f1 := h.fz 1
  have hbyte : ∀ y ∈ row.drop place, y < 256 := fun y hy => h.byte y (List.mem_of_mem_drop hy)
  have hle := h.le
  have hlen := h.len
  have hr := h.own.reads
  have hk : place + k ≤ row.length := by
    rcases ht with ⟨_, _, ⟨r, h3⟩, h4⟩ | ⟨_, _, h3, _⟩
    · have := congrArg List.length h3
      simp at this
      omega
    · omega
  obtain ⟨d, hd⟩ : ∃ d : Nat, d = if ok then 0 else 2 := ⟨_, rfl⟩
  have hnum : NumRel (row.drop place) 0 n (row.drop (place + k)) d := by
    rw [hd]
    rcases ht with ⟨h1, h2, ⟨r, h3⟩, h4⟩ | ⟨h1, h2, h3, h4⟩
    · refine .inr (.inl ⟨rfl, h2, ?_, by rw [if_pos h1]⟩)
      rw [← List.drop_drop, ← h3, h4, List.drop_left]
    · refine .inr (.inr ⟨rfl, h2, by rw [h3]; rfl, by rw [if_neg h1], h4⟩)
  have hform : formIf ok = errV d := by rw [hd]; cases ok <;> rfl
  have hset : ∀ nq, Rd ((w.drewN nq).setCell ⟨p, 1, none⟩ (.int .i64 ((place : Int) + (k : Int)))) p rv row (place + k) 0 := fun nq => by
    have := (h.drewN nq).setPlace hk
    rw [Int.natCast_add] at this
    exact this
  have HF := Lib.hid hform
  have HN := Lib.hid hnum
  have HS := Lib.hid hset
  have H := Lib.hid h
  have HT := Lib.hid ht
  clear hform hnum hset ht hd
  rcases h.own.form with ⟨rfl, rfl⟩ | ⟨g, cap, rfl, hc1, hc2, _⟩
  · obtain rfl : place = 0 := by simpa using hle
    have hq := fun nq => take_at HT.out (.slice none 0 0) (w.drewN nq) (hr.drewN nq) hbyte
    have HQ := Lib.hid hq
    clear hq hr hbyte
    go_enter Tryz.func255, Tryz.ntmps255
    go_wp2_with fail
    refine (err_any h).mono ?_
    rintro e w' ⟨rfl, rfl⟩
    rw [errV_zero]
    clear h
    go_wp2_with fail
    go_quiet ((go_at_call 300; exact Calls.quiet_of_same (HQ.out _)))
    go_wp2_with fail
    rw [HF.out]
    refine (fail_any (by have := HS.out nq; simpa using this) _).mono ?_
    rintro e w2 ⟨rfl, hrd, hg⟩
    go_wp2
    go_ret
    exact ⟨n, 0 + k, _, rfl, HN.out, by simpa using hrd, grownBy_trans (grownBy_trans (grown_drewN w _ _) (grown_set _ _ _ _) (fun j hj _ => hj)) hg (fun j hj _ => hj)⟩
  · by_cases hpc : place < cap
    · have hrest := rest_reads hr hpc hle
      have hq := fun nq => take_at HT.out _ (w.drewN nq) (hrest.drewN nq) hbyte
      have HQ := Lib.hid hq
      clear hq hr hrest hbyte
      go_enter Tryz.func255, Tryz.ntmps255
      go_wp2_with fail
      refine (err_any h).mono ?_
      rintro e w' ⟨rfl, rfl⟩
      rw [errV_zero]
      clear h
      go_wp2_with fail
      go_quiet ((go_at_call 300; exact Calls.quiet_of_same (HQ.out _)))
      go_wp2_with fail
      rw [HF.out]
      refine (fail_any (HS.out nq) _).mono ?_
      rintro e w2 ⟨rfl, hrd, hg⟩
      go_wp2
      go_ret
      exact ⟨n, place + k, _, rfl, HN.out, by simpa using hrd, grownBy_trans (grownBy_trans (grown_drewN w _ _) (grown_set _ _ _ _) (fun j hj _ => hj)) hg (fun j hj _ => hj)⟩
    · obtain rfl : place = cap := by omega
      have hrl : row.length = place := by omega
      have hrest : Reads w .u8 (.slice (some ⟨g, 0, none⟩) 0 0) (row.drop place) := by
        rw [List.drop_of_length_le (by omega)]
        exact ⟨_, 0, rfl, by simp, by simp [maxLen], by simp, .inl rfl⟩
      have hq := fun nq => take_at HT.out _ (w.drewN nq) (hrest.drewN nq) hbyte
      have HQ := Lib.hid hq
      clear hq hr hrest hbyte
      rw [hrl] at c0
      have HRL := Lib.hid hrl
      clear hrl
      go_enter Tryz.func255, Tryz.ntmps255
      go_wp2_with fail
      refine (err_any h).mono ?_
      rintro e w' ⟨rfl, rfl⟩
      rw [errV_zero]
      clear h
      go_wp2_with fail
      go_quiet ((go_at_call 300; exact Calls.quiet_of_same (HQ.out _)))
      go_wp2_with fail
      rw [HF.out]
      refine (fail_any (HS.out nq) _).mono ?_
      rintro e w2 ⟨rfl, hrd, hg⟩
      go_wp2
      go_ret
      exact ⟨n, place + k, _, rfl, HN.out, by simpa using hrd, grownBy_trans (grownBy_trans (grown_drewN w _ _) (grown_set _ _ _ _) (fun j hj _ => hj)) hg (fun j hj _ => hj)⟩

theorem number_any {w : World} {p : Nat} {rv : Value} {row : List Nat} {place c : Nat} (h : Rd w p rv row place c) :
    Calls Tryz.prog 255 #[.pointer (some ⟨p, 0, none⟩)] w (NumPost p rv row place c w) := by
  by_cases hc : c = 0
  · subst hc; exact number_ok h
  · exact number_err h hc

end Go.Proofs.YtlckadlkgjfjcaaGreatDoor

namespace Go.Proofs.YtlckadlkgjfjcaaGreatDoor
open Go.RowKit

/-- How many things follow, and the error then. -/
def ManyPost (p : Nat) (rv : Value) (row : List Nat) (place c : Nat) (most : Int) (w : World) (e : Ending) (w' : World) : Prop :=
  ∃ n place' c1 : Nat, e = .returned (.int .i64 (manyR n most : Nat)) ∧ NumRel (row.drop place) c n (row.drop place') c1 ∧ Rd w' p rv row place' (manyC n c1 most) ∧ w.grownBy w' (some p)

set_option maxHeartbeats 1000000 in
set_option maxRecDepth 100000 in
theorem many_any {w : World} {p : Nat} {rv : Value} {row : List Nat} {place c : Nat} (h : Rd w p rv row place c) (most : Int) (hm1 : -9223372036854775808 ≤ most) (hm2 : most ≤ 9223372036854775807) :
    Calls Tryz.prog 302 #[.pointer (some ⟨p, 0, none⟩), .int .i64 most] w (ManyPost p rv row place c most w) := by
  go_enter Tryz.func302, Tryz.ntmps302
  go_wp2_with fail
  refine (number_any h).mono ?_
  rintro e w1 ⟨n, place', c1, rfl, hn, hrd, hg⟩
  clear h
  have HN := Lib.hid hn
  clear hn
  by_cases hb : most < 0 ∨ most < (n : Int)
  · have HB := Lib.hid hb
    rcases hb with hb | hb
    · go_wp2_with fail
      refine (fail_any hrd 3).mono ?_
      rintro e w2 ⟨rfl, hrd2, hg2⟩
      have HR := Lib.hid hrd2
      clear hrd2 hrd
      go_wp2
      go_ret
      exact ⟨n, place', c1, by rw [(many_bad (c := c1) HB.out).1]; rfl, HN.out, by rw [(many_bad HB.out).2]; exact HR.out, grownBy_trans hg hg2 (fun j hj _ => hj)⟩
    · by_cases hneg : most < 0
      · go_wp2_with fail
        refine (fail_any hrd 3).mono ?_
        rintro e w2 ⟨rfl, hrd2, hg2⟩
        have HR := Lib.hid hrd2
        clear hrd2 hrd
        go_wp2
        go_ret
        exact ⟨n, place', c1, by rw [(many_bad (c := c1) HB.out).1]; rfl, HN.out, by rw [(many_bad HB.out).2]; exact HR.out, grownBy_trans hg hg2 (fun j hj _ => hj)⟩
      · go_wp2_with fail
        refine (fail_any hrd 3).mono ?_
        rintro e w2 ⟨rfl, hrd2, hg2⟩
        have HR := Lib.hid hrd2
        clear hrd2 hrd
        go_wp2
        go_ret
        exact ⟨n, place', c1, by rw [(many_bad (c := c1) HB.out).1]; rfl, HN.out, by rw [(many_bad HB.out).2]; exact HR.out, grownBy_trans hg hg2 (fun j hj _ => hj)⟩
  · have HB := Lib.hid hb
    have h1 : 0 ≤ most := by omega
    have h2 : (n : Int) ≤ most := by omega
    clear hb
    go_wp2
    go_ret
    exact ⟨n, place', c1, by rw [(many_good (c := c1) HB.out).1]; rfl, HN.out, by rw [(many_good HB.out).2]; exact hrd, hg⟩

def WithinPost (p : Nat) (rv : Value) (row : List Nat) (place c most : Nat) (w : World) (e : Ending) (w' : World) : Prop :=
  ∃ n place' c1 : Nat, e = .returned (.int .i64 (withinR n most : Nat)) ∧ NumRel (row.drop place) c n (row.drop place') c1 ∧ Rd w' p rv row place' (withinC n c1 most) ∧ w.grownBy w' (some p)

set_option maxHeartbeats 1000000 in
set_option maxRecDepth 100000 in
theorem within_any {w : World} {p : Nat} {rv : Value} {row : List Nat} {place c : Nat} (h : Rd w p rv row place c) (most : Nat) :
    Calls Tryz.prog 195 #[.pointer (some ⟨p, 0, none⟩), .int .u64 (most : Int)] w (WithinPost p rv row place c most w) := by
  go_enter Tryz.func195, Tryz.ntmps195
  go_wp2_with fail
  refine (number_any h).mono ?_
  rintro e w1 ⟨n, place', c1, rfl, hn, hrd, hg⟩
  clear h
  have HN := Lib.hid hn
  clear hn
  obtain ⟨N, hN⟩ : ∃ N : Int, N = (n : Int) := ⟨_, rfl⟩
  obtain ⟨M, hM⟩ : ∃ M : Int, M = (most : Int) := ⟨_, rfl⟩
  have hN0 : 0 ≤ N := by omega
  have hM0 : 0 ≤ M := by omega
  rw [← hN, ← hM]
  have HNN := Lib.hid hN
  have HMM := Lib.hid hM
  by_cases hb : M < N ∨ 4611686018427387904 < N
  · have HB : Hid (most < n ∨ 4611686018427387904 < n) := by show _ ∨ _; omega
    clear hN hM
    by_cases hm : M ≤ 4611686018427387904
    · have hlt : M < N := by omega
      clear hb
      go_wp2_with fail
      refine (fail_any hrd 1).mono ?_
      rintro e w2 ⟨rfl, hrd2, hg2⟩
      have HR := Lib.hid hrd2
      clear hrd2 hrd
      go_wp2
      go_ret
      exact ⟨n, place', c1, by rw [(within_bad (c := c1) HB.out).1]; rfl, HN.out, by rw [(within_bad HB.out).2]; exact HR.out, grownBy_trans hg hg2 (fun j hj _ => hj)⟩
    · have hlt : 4611686018427387904 < N := by omega
      clear hb
      go_wp2_with fail
      refine (fail_any hrd 1).mono ?_
      rintro e w2 ⟨rfl, hrd2, hg2⟩
      have HR := Lib.hid hrd2
      clear hrd2 hrd
      go_wp2
      go_ret
      exact ⟨n, place', c1, by rw [(within_bad (c := c1) HB.out).1]; rfl, HN.out, by rw [(within_bad HB.out).2]; exact HR.out, grownBy_trans hg hg2 (fun j hj _ => hj)⟩
  · have HB : Hid (¬ (most < n ∨ 4611686018427387904 < n)) := by show ¬ _; omega
    have h1 : N ≤ M := by omega
    have h2 : N ≤ 4611686018427387904 := by omega
    clear hb hN hM
    by_cases hm : M ≤ 4611686018427387904
    all_goals
      go_wp2
      go_ret
      exact ⟨n, place', c1, by rw [(within_good (c := c1) HB.out).1, ← HNN.out]; rfl, HN.out, by rw [(within_good HB.out).2]; exact hrd, hg⟩

end Go.Proofs.YtlckadlkgjfjcaaGreatDoor

namespace Go.Proofs.YtlckadlkgjfjcaaGreatDoor
open Go.RowKit

/-- So many bytes taken. -/
def FixPost (p : Nat) (rv : Value) (row : List Nat) (place c : Nat) (many : Int) (w : World) (e : Ending) (w' : World) : Prop :=
  ∃ (v : Value) (out : List Nat) (place' c' : Nat), e = .returned v ∧ FixRel (row.drop place) c many out (row.drop place') c' ∧ Owns w' w.heap.size 5 .u8 v out ∧ Rd w' p rv row place' c' ∧ w.grownBy w' (some p)

set_option maxHeartbeats 1000000 in
set_option maxRecDepth 100000 in
theorem fixed_err {w : World} {p : Nat} {rv : Value} {row : List Nat} {place c : Nat} (h : Rd w p rv row place c) (hc : c ≠ 0) (many : Int) :
    Calls Tryz.prog 301 #[.pointer (some ⟨p, 0, none⟩), .int .i64 many] w (FixPost p rv row place c many w) := by
  by_cases h0 : many < 0
  · go_enter Tryz.func301, Tryz.ntmps301
    go_wp2_with fail
    refine (fail_had h hc _).mono ?_
    rintro e w1 ⟨rfl, rfl⟩
    go_wp2_with fail
    refine (err_any h).mono ?_
    rintro e w1 ⟨rfl, rfl⟩
    rw [errV_pos hc]
    go_wp2
    go_ret
    exact ⟨_, [], place, c, rfl, .inl ⟨hc, rfl, rfl, rfl⟩, owns_nil _ _ _ _, h, World.grownBy.refl _ _⟩
  · by_cases h1 : 0 < many
    · go_enter Tryz.func301, Tryz.ntmps301
      go_wp2_with fail
      refine (left_err h hc).mono ?_
      rintro e w1 ⟨rfl, rfl⟩
      go_wp2_with fail
      refine (fail_had h hc _).mono ?_
      rintro e w1 ⟨rfl, rfl⟩
      go_wp2_with fail
      refine (err_any h).mono ?_
      rintro e w1 ⟨rfl, rfl⟩
      rw [errV_pos hc]
      go_wp2
      go_ret
      exact ⟨_, [], place, c, rfl, .inl ⟨hc, rfl, rfl, rfl⟩, owns_nil _ _ _ _, h, World.grownBy.refl _ _⟩
    · go_enter Tryz.func301, Tryz.ntmps301
      go_wp2_with fail
      refine (left_err h hc).mono ?_
      rintro e w1 ⟨rfl, rfl⟩
      go_wp2_with fail
      refine (err_any h).mono ?_
      rintro e w1 ⟨rfl, rfl⟩
      rw [errV_pos hc]
      go_wp2
      go_ret
      exact ⟨_, [], place, c, rfl, .inl ⟨hc, rfl, rfl, rfl⟩, owns_nil _ _ _ _, h, World.grownBy.refl _ _⟩

set_option maxHeartbeats 1000000 in
set_option maxRecDepth 100000 in
theorem fixed_out {w : World} {p : Nat} {rv : Value} {row : List Nat} {place : Nat} (h : Rd w p rv row place 0) (many : Int) (hm : many < 0 ∨ ((row.length - place : Nat) : Int) < many) :
    Calls Tryz.prog 301 #[.pointer (some ⟨p, 0, none⟩), .int .i64 many] w (FixPost p rv row place 0 many w) := by
  have hrel : FixRel (row.drop place) 0 many [] (row.drop place) 2 := .inr (.inl ⟨rfl, by simpa using hm, rfl, rfl, rfl⟩)
  have HREL := Lib.hid hrel
  clear hrel
  have e2 : Value.iface 41 (.int .i64 2) = errV 2 := (errV_pos (by decide)).symm
  have E2 := Lib.hid e2
  clear e2
  by_cases h0 : many < 0
  · clear hm
    go_enter Tryz.func301, Tryz.ntmps301
    go_wp2_with fail
    rw [E2.out]
    refine (fail_any h 2).mono ?_
    rintro e w1 ⟨rfl, hrd, hg⟩
    rw [if_pos rfl] at hrd
    clear h
    go_wp2_with fail
    refine (err_any hrd).mono ?_
    rintro e w2 ⟨rfl, rfl⟩
    rw [errV_pos (by decide)]
    go_wp2
    go_ret
    exact ⟨_, [], place, 2, rfl, HREL.out, owns_nil _ _ _ _, hrd, hg⟩
  · have hlt : ((row.length - place : Nat) : Int) < many := by omega
    clear hm
    obtain ⟨L, hL⟩ : ∃ L : Int, L = ((row.length - place : Nat) : Int) := ⟨_, rfl⟩
    rw [← hL] at hlt
    have HL := Lib.hid hL
    clear hL
    go_enter Tryz.func301, Tryz.ntmps301
    go_wp2_with fail
    refine (left_ok h).mono ?_
    rintro e w0 ⟨rfl, n, rfl⟩
    rw [← HL.out]
    have hd := h.drewN n
    clear h
    go_wp2_with fail
    rw [E2.out]
    refine (fail_any hd 2).mono ?_
    rintro e w1 ⟨rfl, hrd, hg⟩
    rw [if_pos rfl] at hrd
    clear hd
    go_wp2_with fail
    refine (err_any hrd).mono ?_
    rintro e w2 ⟨rfl, rfl⟩
    rw [errV_pos (by decide)]
    go_wp2
    go_ret
    exact ⟨_, [], place, 2, rfl, HREL.out, owns_nil _ _ _ _, hrd, grownBy_trans (grown_drewN w n _) hg (fun j hj _ => hj)⟩

/-- What is cut out of the row. -/
theorem part_reads {w : World} {g cap place many : Nat} {row : List Nat} (h : Reads w .u8 (.slice (some ⟨g, 0, none⟩) row.length cap) row) (hp : place < cap) (hle : place + many ≤ row.length) :
    Reads w .u8 (.slice (some ⟨g, place, none⟩) many (cap - place)) ((row.drop place).take many) := by
  obtain ⟨ao, cap', hv, h1, h2, h3, h4⟩ := h
  simp only [Value.slice.injEq, true_and] at hv
  obtain ⟨rfl, rfl⟩ := hv
  have hl : ((row.drop place).take many).length = many := by rw [List.length_take, List.length_drop]; omega
  refine ⟨_, cap - place, by rw [hl], by omega, by omega, by simp, ?_⟩
  rcases h4 with rfl | ⟨b, off, ha, hb, hc⟩
  · left; simp
  · simp only [Option.some.injEq, Addr.mk.injEq, and_true] at ha
    obtain ⟨rfl, rfl⟩ := ha
    refine .inr ⟨g, place, rfl, hb, fun i hi => ?_⟩
    rw [hl] at hi
    have := hc (place + i) (by omega)
    rw [Nat.zero_add] at this
    rw [this]
    simp [List.getD, hi]

theorem Rd.drew {w : World} {p : Nat} {rv : Value} {row : List Nat} {place c : Nat} (h : Rd w p rv row place c) : Rd w.drew p rv row place c := ⟨h.blk, h.own, h.off, h.le, h.byte, h.len⟩
theorem grown_drew (w : World) (row : Option Nat) : w.grownBy w.drew row := ⟨rfl, rfl, rfl, Nat.le_refl _, fun _ _ _ => rfl⟩
theorem grown_of_below {w w' : World} (h : Below w.heap.size w w') (row : Option Nat) : w.grownBy w' row := ⟨h.os, h.tape, h.output, h.size, fun k hk _ => h.block k hk⟩

/-- The end of Fixed: what was cut is copied, and the place moves on. -/
theorem fixed_fin {w w1 w3 : World} {n p place place' : Nat} {rv v3 : Value} {row out : List Nat} (hw : w.drewN n = w1) (hd : Rd w1 p rv row place 0) (hb : Below w1.drew.heap.size w1.drew w3) (ho : Owns w3 w1.drew.heap.size 5 .u8 v3 out) (hp : place' ≤ row.length) :
    Owns (w3.setCell ⟨p, 1, none⟩ (.int .i64 (place' : Int))) w.heap.size 5 .u8 v3 out ∧ Rd (w3.setCell ⟨p, 1, none⟩ (.int .i64 (place' : Int))) p rv row place' 0 ∧ w.grownBy (w3.setCell ⟨p, 1, none⟩ (.int .i64 (place' : Int))) (some p) := by
  subst hw
  have hd3 : Rd w3 p rv row place 0 := hd.drew.below hb (Nat.le_refl _)
  refine ⟨ho.grown (grown_set w3 p 1 _) ?_, hd3.setPlace hp, ?_⟩
  · cases hv : v3.ownBlock with
    | none => exact .inl rfl
    | some g =>
      right
      intro e
      have h1 := (ho.lt g hv).1
      have h2 : p < (w.drewN n).drew.heap.size := hd.lt
      simp at e
      omega
  · exact grownBy_trans (grownBy_trans (grownBy_trans (grown_drewN w n (some p)) (grown_drew _ (some p)) (fun j hj _ => hj)) (grown_of_below hb (some p)) (fun j hj _ => hj)) (grown_set w3 p 1 _) (fun j hj _ => hj)

set_option maxHeartbeats 2000000 in
set_option maxRecDepth 100000 in
theorem fixed_in {w : World} {p : Nat} {rv : Value} {row : List Nat} {place : Nat} (h : Rd w p rv row place 0) (many : Nat) (hm : place + many ≤ row.length) :
    Calls Tryz.prog 301 #[.pointer (some ⟨p, 0, none⟩), .int .i64 (many : Int)] w (FixPost p rv row place 0 (many : Int) w) := by
  have hrel : FixRel (row.drop place) 0 (many : Int) ((row.drop place).take many) (row.drop (place + many)) 0 :=
    .inr (.inr ⟨rfl, by omega, by rw [List.length_drop]; omega, by simp, by rw [Int.toNat_natCast, List.drop_drop], rfl⟩)
  have HREL := Lib.hid hrel
  clear hrel
  have hle := h.le
  have hlen := h.len
  have hr := h.own.reads
  have hcut : ((row.drop place).take many).length ≤ 100000000000000 := by rw [List.length_take, List.length_drop]; omega
  have HCUT := Lib.hid hcut
  clear hcut
  rcases h.own.form with ⟨rfl, rfl⟩ | ⟨g, cap, rfl, hc1, hc2, _⟩
  · obtain rfl : place = 0 := by simpa using hle
    obtain rfl : many = 0 := by simpa using hm
    have hpart := hr
    have z0 : IntKind.i64.wrap 0 = 0 := IntWalk.i64_in _ (by omega)
    show Calls Tryz.prog 301 #[.pointer (some ⟨p, 0, none⟩), .int .i64 0] w _
    go_enter Tryz.func301, Tryz.ntmps301
    go_wp2_with fail
    refine (left_ok h).mono ?_
    rintro e w0 ⟨rfl, n, rfl⟩
    have hd := h.drewN n
    have HP := Lib.hid (hpart.drewN n)
    generalize hw1 : w.drewN n = w1 at hd HP
    have HW1 := Lib.hid hw1
    have H := Lib.hid hd
    clear h hr hpart hw1
    go_wp2_with fail
    refine (err_any hd).mono ?_
    rintro e w2 ⟨rfl, rfl⟩
    rw [errV_zero]
    have c0 := hd.c0
    have c1 : w1.cell? ⟨p, 1, none⟩ = some (.int .i64 0) := hd.c1
    clear hd
    go_wp2_with fail
    go_still_tail 15, (by kernel_rfl)
    go_wp2_with fail
    refine (clone_any _ [] w1.drew HP.out HCUT.out).mono ?_
    rintro e w3 ⟨v3, rfl, ho, hb3⟩
    have hd3 := H.out.drew.below hb3 (Nat.le_refl _)
    have k1 : w3.cell? ⟨p, 1, none⟩ = some (.int .i64 0) := hd3.c1
    have f1 := hd3.fz 1
    have HO := Lib.hid ho
    have HB := Lib.hid hb3
    clear hb3 hd3 ho c0 c1
    go_wp2
    go_ret
    obtain ⟨a1, a2, a3⟩ := fixed_fin HW1.out H.out HB.out HO.out (place' := 0) (by first | exact hm | (simp; done) | omega)
    first
      | exact ⟨v3, _, 0, 0, rfl, HREL.out, a1, a2, a3⟩
      | (simp only [Int.natCast_add] at a1 a2 a3; exact ⟨v3, _, 0, 0, rfl, HREL.out, a1, a2, a3⟩)
      | (simp only [Int.natCast_add, Int.natCast_zero, Int.add_zero] at a1 a2 a3; exact ⟨v3, _, 0, 0, rfl, HREL.out, a1, a2, a3⟩)
  · by_cases hpc : place < cap
    · have hpart := part_reads hr hpc hm
      go_enter Tryz.func301, Tryz.ntmps301
      go_wp2_with fail
      refine (left_ok h).mono ?_
      rintro e w0 ⟨rfl, n, rfl⟩
      have hd := h.drewN n
      have HP := Lib.hid (hpart.drewN n)
      generalize hw1 : w.drewN n = w1 at hd HP
      have HW1 := Lib.hid hw1
      have H := Lib.hid hd
      clear h hr hpart hw1
      go_wp2_with fail
      refine (err_any hd).mono ?_
      rintro e w2 ⟨rfl, rfl⟩
      rw [errV_zero]
      have c0 := hd.c0
      have c1 := hd.c1
      clear hd
      have q1 : IntKind.i64.wrap ((place : Int) + (many : Int)) = (place : Int) + (many : Int) := IntWalk.i64_in _ (by omega)
      have q2 : (0 : Int) ≤ (place : Int) := by omega
      have q3 : (place : Int) ≤ (place : Int) + (many : Int) := by omega
      have q4 : (place : Int) + (many : Int) ≤ (cap : Int) := by omega
      have q5 : ((place : Int) + (many : Int)).toNat = place + many := by omega
      have q6 : ¬ cap = place := by omega
      have q7 : place + many - place = many := by omega
      go_wp2_with fail
      go_still_tail 15, (by kernel_rfl)
      go_wp2_with fail
      refine (clone_any _ ((row.drop place).take many) w1.drew HP.out HCUT.out).mono ?_
      rintro e w3 ⟨v3, rfl, ho, hb3⟩
      have hd3 := H.out.drew.below hb3 (Nat.le_refl _)
      have k1 := hd3.c1
      have f1 := hd3.fz 1
      have HO := Lib.hid ho
      have HB := Lib.hid hb3
      clear hb3 hd3 ho c0 c1
      go_wp2
      go_ret
      obtain ⟨a1, a2, a3⟩ := fixed_fin HW1.out H.out HB.out HO.out (place' := (place + many)) (by first | exact hm | (simp; done) | omega)
      first
        | exact ⟨v3, _, (place + many), 0, rfl, HREL.out, a1, a2, a3⟩
        | (simp only [Int.natCast_add] at a1 a2 a3; exact ⟨v3, _, (place + many), 0, rfl, HREL.out, a1, a2, a3⟩)
        | (simp only [Int.natCast_add, Int.natCast_zero, Int.add_zero] at a1 a2 a3; exact ⟨v3, _, (place + many), 0, rfl, HREL.out, a1, a2, a3⟩)
    · obtain rfl : place = cap := by omega
      obtain rfl : many = 0 := by omega
      have hrl : row.length = place := by omega
      have hpart : Reads w .u8 (.slice (some ⟨g, 0, none⟩) 0 0) ((row.drop place).take 0) := ⟨_, 0, rfl, by simp, by simp [maxLen], by simp, .inl rfl⟩
      have HRL := Lib.hid hrl
      clear hrl
      show Calls Tryz.prog 301 #[.pointer (some ⟨p, 0, none⟩), .int .i64 0] w _
      go_enter Tryz.func301, Tryz.ntmps301
      go_wp2_with fail
      refine (left_ok h).mono ?_
      rintro e w0 ⟨rfl, n, rfl⟩
      have hd := h.drewN n
      have HP := Lib.hid (hpart.drewN n)
      generalize hw1 : w.drewN n = w1 at hd HP
      have HW1 := Lib.hid hw1
      have H := Lib.hid hd
      clear h hr hpart hw1
      go_wp2_with fail
      refine (err_any hd).mono ?_
      rintro e w2 ⟨rfl, rfl⟩
      rw [errV_zero]
      have c0 := hd.c0
      have c1 := hd.c1
      rw [HRL.out] at c0
      clear hd
      have q1 : IntKind.i64.wrap (place : Int) = (place : Int) := IntWalk.i64_in _ (by omega)
      have q2 : (0 : Int) ≤ (place : Int) := by omega
      have q3 : (place : Int) ≤ (place : Int) := by omega
      have q5 : ((place : Int)).toNat = place := by omega
      go_wp2_with fail
      go_still_tail 15, (by kernel_rfl)
      go_wp2_with fail
      refine (clone_any _ ((row.drop place).take 0) w1.drew HP.out HCUT.out).mono ?_
      rintro e w3 ⟨v3, rfl, ho, hb3⟩
      have hd3 := H.out.drew.below hb3 (Nat.le_refl _)
      have k1 := hd3.c1
      have f1 := hd3.fz 1
      have HO := Lib.hid ho
      have HB := Lib.hid hb3
      clear hb3 hd3 ho c0 c1
      go_wp2
      go_ret
      obtain ⟨a1, a2, a3⟩ := fixed_fin HW1.out H.out HB.out HO.out (place' := (place + 0)) (by first | exact hm | (simp; done) | omega)
      first
        | exact ⟨v3, _, (place + 0), 0, rfl, HREL.out, a1, a2, a3⟩
        | (simp only [Int.natCast_add] at a1 a2 a3; exact ⟨v3, _, (place + 0), 0, rfl, HREL.out, a1, a2, a3⟩)
        | (simp only [Int.natCast_add, Int.natCast_zero, Int.add_zero] at a1 a2 a3; exact ⟨v3, _, (place + 0), 0, rfl, HREL.out, a1, a2, a3⟩)

theorem fixed_any {w : World} {p : Nat} {rv : Value} {row : List Nat} {place c : Nat} (h : Rd w p rv row place c) (many : Int) :
    Calls Tryz.prog 301 #[.pointer (some ⟨p, 0, none⟩), .int .i64 many] w (FixPost p rv row place c many w) := by
  have hle := h.le
  by_cases hc : c = 0
  · subst hc
    by_cases hm : many < 0 ∨ ((row.length - place : Nat) : Int) < many
    · exact fixed_out h many hm
    · obtain ⟨k, rfl⟩ : ∃ k : Nat, many = (k : Int) := ⟨many.toNat, by omega⟩
      exact fixed_in h k (by omega)
  · exact fixed_err h hc many

end Go.Proofs.YtlckadlkgjfjcaaGreatDoor

namespace Go.Proofs.YtlckadlkgjfjcaaGreatDoor
open Go.RowKit

def TextPost (p : Nat) (rv : Value) (row : List Nat) (place c : Nat) (most : Int) (w : World) (e : Ending) (w' : World) : Prop :=
  ∃ (v : Value) (out : List Nat) (n place1 c1 place' c' : Nat), e = .returned v ∧ NumRel (row.drop place) c n (row.drop place1) c1 ∧
    FixRel (row.drop place1) (manyC n c1 most) (manyR n most : Nat) out (row.drop place') c' ∧ Owns w' w.heap.size 5 .u8 v out ∧ Rd w' p rv row place' c' ∧ w.grownBy w' (some p)

set_option maxHeartbeats 400000 in
set_option maxRecDepth 100000 in
theorem text_any {w : World} {p : Nat} {rv : Value} {row : List Nat} {place c : Nat} (h : Rd w p rv row place c) (most : Int) (hm1 : -9223372036854775808 ≤ most) (hm2 : most ≤ 9223372036854775807) :
    Calls Tryz.prog 264 #[.pointer (some ⟨p, 0, none⟩), .int .i64 most] w (TextPost p rv row place c most w) := by
  go_enter Tryz.func264, Tryz.ntmps264
  go_wp2_with fail
  refine (many_any h most hm1 hm2).mono ?_
  rintro e w1 ⟨n, place1, c1, rfl, hn, hrd, hg⟩
  have HN := Lib.hid hn
  clear h hn
  go_wp2_with fail
  refine (fixed_any hrd _).mono ?_
  rintro e w2 ⟨v, out, place', c', rfl, hf, ho, hrd2, hg2⟩
  have HF := Lib.hid hf
  clear hf hrd
  go_wp2
  go_ret
  exact ⟨v, out, n, place1, c1, place', c', rfl, HN.out, HF.out, ho.mono hg.size, hrd2, grownBy_trans hg hg2 (fun j hj _ => hj)⟩

/-- Numbers taken, one by one. -/
def RunRel (rest : List Nat) (c m : Nat) (out rest' : List Nat) (c' : Nat) : Prop :=
  (c ≠ 0 ∧ out = [] ∧ rest' = rest ∧ c' = c) ∨
  (c = 0 ∧ ∃ acc : List Nat, acc.length = m ∧ (∀ x ∈ acc, U64 x) ∧ rest = encs acc ++ rest' ∧ out = acc ∧ c' = 0) ∨
  (c = 0 ∧ ∃ acc : List Nat, acc.length < m ∧ (∀ x ∈ acc, U64 x) ∧ rest = encs acc ++ rest' ∧ (∀ k, U64 k → ¬ enc k <+: rest') ∧ out = [] ∧ c' = 2)

theorem encs_cancel : ∀ (a b : List Nat) (r s : List Nat), a.length = b.length → encs a ++ r = encs b ++ s → a = b ∧ r = s := by
  intro a
  induction a with
  | nil => intro b r s hl h; obtain rfl : b = [] := List.length_eq_zero_iff.1 hl.symm; exact ⟨rfl, by simpa [encs] using h⟩
  | cons x a ih =>
    intro b r s hl h
    cases b with
    | nil => simp at hl
    | cons y b =>
      have e1 : encs (x :: a) ++ r = enc x ++ (encs a ++ r) := by simp [encs]
      have e2 : encs (y :: b) ++ s = enc y ++ (encs b ++ s) := by simp [encs]
      rw [e1, e2] at h
      have h1 : enc x <+: enc x ++ (encs a ++ r) := List.prefix_append _ _
      have h2 : enc y <+: enc x ++ (encs a ++ r) := ⟨_, h.symm⟩
      obtain rfl := enc_prefix_unique h1 h2
      obtain ⟨e3, e4⟩ := ih b r s (by simpa using hl) (List.append_cancel_left h)
      exact ⟨by rw [e3], e4⟩

/-- Fewer numbers that end where no number's bytes stand, and more of them, don't go together. -/
theorem encs_stop {a b r s : List Nat} (hl : a.length < b.length) (hb : ∀ x ∈ b, U64 x) (h : encs a ++ r = encs b ++ s) (hr : ∀ k, U64 k → ¬ enc k <+: r) : False := by
  have hd : 0 < (b.drop a.length).length := by simp; omega
  have he : encs b = encs (b.take a.length) ++ encs (b.drop a.length) := by
    unfold encs; rw [← List.flatMap_append, List.take_append_drop]
  rw [he, List.append_assoc] at h
  obtain ⟨_, h2⟩ := encs_cancel a (b.take a.length) r _ (by simp; omega) h
  cases hdb : b.drop a.length with
  | nil => rw [hdb] at hd; simp at hd
  | cons y t =>
    rw [hdb] at h2
    have hy : y ∈ b := List.mem_of_mem_drop (i := a.length) (by rw [hdb]; simp)
    exact hr y (hb y hy) ⟨encs t ++ s, by rw [h2]; simp [encs]⟩

theorem RunRel.unique {rest : List Nat} {c m : Nat} {o o' r r' : List Nat} {d d' : Nat} (h : RunRel rest c m o r d) (h' : RunRel rest c m o' r' d') : o = o' ∧ r = r' ∧ d = d' := by
  rcases h with ⟨a1, a2, a3, a4⟩ | ⟨a1, x, a2, a3, a4, a5, a6⟩ | ⟨a1, x, a2, a3, a4, a5, a6, a7⟩ <;> rcases h' with ⟨b1, b2, b3, b4⟩ | ⟨b1, y, b2, b3, b4, b5, b6⟩ | ⟨b1, y, b2, b3, b4, b5, b6, b7⟩
  · exact ⟨by rw [a2, b2], by rw [a3, b3], by rw [a4, b4]⟩
  · exact absurd b1 a1
  · exact absurd b1 a1
  · exact absurd a1 b1
  · obtain ⟨e1, e2⟩ := encs_cancel x y _ _ (by omega) (a4.symm.trans b4)
    exact ⟨by rw [a5, b5, e1], e2, by rw [a6, b6]⟩
  · exact (encs_stop (by omega) a3 (b4.symm.trans a4) b5).elim
  · exact absurd a1 b1
  · exact (encs_stop (by omega) b3 (a4.symm.trans b4) a5).elim
  · rcases Nat.lt_trichotomy x.length y.length with hl | hl | hl
    · exact (encs_stop hl b3 (a4.symm.trans b4) a5).elim
    · obtain ⟨e1, e2⟩ := encs_cancel x y _ _ hl (a4.symm.trans b4)
      exact ⟨by rw [a6, b6], e2, by rw [a7, b7]⟩
    · exact (encs_stop hl a3 (b4.symm.trans a4) b5).elim

theorem manyR_zero {rest : List Nat} {c n : Nat} {r : List Nat} {c1 : Nat} {most : Int} (h : NumRel rest c n r c1) (hc : manyC n c1 most ≠ 0) : manyR n most = 0 := by
  by_cases hb : most < 0 ∨ most < (n : Int)
  · exact (many_bad (c := c1) hb).1
  · rw [(many_good (c := c1) hb).1]
    rw [(many_good hb).2] at hc
    rcases h with ⟨_, h2, _, _⟩ | ⟨_, _, _, h4⟩ | ⟨_, h2, _, _, _⟩
    · exact h2
    · exact absurd h4 hc
    · exact h2

theorem manyR_most {n : Nat} {most : Int} (h : 0 < manyR n most) : (manyR n most : Int) ≤ most := by
  by_cases hb : most < 0 ∨ most < (n : Int)
  · rw [(many_bad (c := 0) hb).1] at h; omega
  · rw [(many_good (c := 0) hb).1]; omega

end Go.Proofs.YtlckadlkgjfjcaaGreatDoor
