/- The contracts of New, End and Number. -/
import Derived.Test.YtnhffeppbliabaaRdA
import Derived.Test.YtnhffeppbliabaaNumR
namespace Go.Proofs.Ytnhffeppbliabaa
open Go.RowKit

/-- What New hands back. -/
def NewPost (b : List Nat) (w : World) (e : Ending) (w' : World) : Prop :=
  ∃ p rv, e = .returned (.pointer (some ⟨p, 0, none⟩)) ∧ Rd w' p rv b 0 0 ∧ Below w.heap.size w w' ∧ w.heap.size ≤ p ∧ (∀ g, rv.ownBlock = some g → w.heap.size ≤ g)

set_option maxHeartbeats 400000 in
set_option maxRecDepth 100000 in
theorem new_any (v : Value) (b : List Nat) (w : World) (hr : Reads w .u8 v b) (hb : ∀ y ∈ b, y < 256) (hl : b.length ≤ 90000000000000) :
    Calls Try.prog 88 #[v] w (NewPost b w) := by
  go_enter Try.func88, Try.ntmps88
  go_wp2_with fail
  refine (clone_any v b w hr (by omega)).mono ?_
  rintro e w1 ⟨v1, rfl, ho, hb1⟩
  obtain ⟨ao, cap, rfl, _, _, _⟩ := ho.reads.val
  go_wp2
  go_ret
  refine ⟨w1.heap.size, _, rfl, ⟨heap_alloc_new w1 _, (ho.mono (Nat.zero_le _)).alloc _, fun g hg => (ho.lt g hg).2, Nat.zero_le _, hb, hl⟩, hb1.alloc hb1.size _, hb1.size, fun g hg => (ho.lt g hg).1⟩

theorem errV_neq (c : Nat) (w : World) : (binOp .neq 38 (errV c) .nilIface).run Try.prog w = .ok (.bool (decide (c ≠ 0))) w := by
  by_cases h : c = 0
  · subst h; exact run_neq_nil_nil (P := Try.prog) w 38 (by kernel_rfl)
  · rw [errV_pos h, decide_eq_true h]; exact run_neq_held_nil (P := Try.prog) w 38 _ _ (by kernel_rfl)

/-- The error at a reader's end. -/
def endC (left c : Nat) : Nat := if c ≠ 0 then c else if left = 0 then 0 else 2

set_option maxHeartbeats 400000 in
set_option maxRecDepth 100000 in
theorem end_nil (w : World) : Calls Try.prog 90 #[.pointer none] w fun e w' => e = .returned (errV 4) ∧ w = w' := by
  go_enter Try.func90, Try.ntmps90
  go_wp2_with fail
  refine (left_nil w).mono ?_
  rintro e w' ⟨rfl, rfl⟩
  go_wp2_with fail
  refine (err_nil w).mono ?_
  rintro e w' ⟨rfl, rfl⟩
  go_wp2
  go_ret
  exact ⟨rfl, rfl⟩

set_option maxHeartbeats 400000 in
set_option maxRecDepth 100000 in
theorem end_any {w : World} {p : Nat} {rv : Value} {row : List Nat} {place c : Nat} (h : Rd w p rv row place c) :
    Calls Try.prog 90 #[.pointer (some ⟨p, 0, none⟩)] w (Drawn w (errV (endC (row.length - place) c))) := by
  by_cases hc : c = 0
  · subst hc
    by_cases hl : row.length - place = 0
    · have he : endC (row.length - place) 0 = 0 := by unfold endC; rw [if_neg (by simp), if_pos hl]
      rw [he]
      go_enter Try.func90, Try.ntmps90
      go_wp2_with fail
      refine (left_ok h).mono ?_
      rintro e w' ⟨rfl, n, rfl⟩
      rw [hl]
      have hd := h.drewN n
      clear h
      go_wp2_with fail
      refine (err_any hd).mono ?_
      rintro e w' ⟨rfl, rfl⟩
      go_wp2
      go_ret
      exact ⟨rfl, n, rfl⟩
    · have he : endC (row.length - place) 0 = 2 := by unfold endC; rw [if_neg (by simp), if_neg hl]
      rw [he]
      have hpos : 0 < ((row.length - place : Nat) : Int) := by omega
      go_enter Try.func90, Try.ntmps90
      go_wp2_with fail
      refine (left_ok h).mono ?_
      rintro e w' ⟨rfl, n, rfl⟩
      generalize ((row.length - place : Nat) : Int) = L at hpos
      clear h hl
      go_wp2
      go_ret
      exact ⟨rfl, n, rfl⟩
  · have he : endC (row.length - place) c = c := by unfold endC; rw [if_pos hc]
    rw [he]
    go_enter Try.func90, Try.ntmps90
    go_wp2_with fail
    refine (left_err h hc).mono ?_
    rintro e w' ⟨rfl, rfl⟩
    go_wp2_with fail
    refine (err_any h).mono ?_
    rintro e w' ⟨rfl, rfl⟩
    go_wp2
    go_ret
    exact ⟨rfl, 0, rfl⟩

theorem taken_ex (b : List Nat) : ∃ n k ok, Taken b n k (ok = true) := by
  by_cases h : ∃ n, U64 n ∧ enc n <+: b
  · obtain ⟨n, h1, h2⟩ := h
    exact ⟨n, _, true, .inl ⟨rfl, h1, h2, rfl⟩⟩
  · exact ⟨0, 0, false, .inr ⟨by simp, rfl, rfl, fun m hm hp => h ⟨m, hm, hp⟩⟩⟩

theorem take_at {b : List Nat} {n k : Nat} {ok : Bool} (ht : Taken b n k (ok = true)) (v : Value) (w : World) (hr : Reads w .u8 v b) (hb : ∀ y ∈ b, y < 256) :
    Calls Try.prog 132 #[v] w fun e w' => e = .returned (.tuple #[.int .u64 (n : Int), .int .i64 (k : Int), formIf ok]) ∧ w' = w := by
  refine (take_any v b w hr hb).mono ?_
  rintro e w' ⟨n', k', ok', rfl, ht', rfl⟩
  obtain ⟨rfl, rfl, h⟩ := ht.unique ht'
  obtain rfl : ok = ok' := by cases ok <;> cases ok' <;> simp_all
  exact ⟨rfl, rfl⟩

/-- What Number hands back. -/
def NumPost (p : Nat) (rv : Value) (row : List Nat) (place c : Nat) (w : World) (e : Ending) (w' : World) : Prop :=
  ∃ n place' c' : Nat, e = .returned (.int .u64 (n : Int)) ∧ NumRel (row.drop place) c n (row.drop place') c' ∧ Rd w' p rv row place' c' ∧ w.grownBy w' (some p)

theorem number_err {w : World} {p : Nat} {rv : Value} {row : List Nat} {place c : Nat} (h : Rd w p rv row place c) (hc : c ≠ 0) :
    Calls Try.prog 121 #[.pointer (some ⟨p, 0, none⟩)] w (NumPost p rv row place c w) := by
  go_enter Try.func121, Try.ntmps121
  go_wp2_with fail
  refine (err_any h).mono ?_
  rintro e w' ⟨rfl, rfl⟩
  rw [errV_pos hc]
  go_wp2
  go_ret
  exact ⟨0, place, c, rfl, .inl ⟨hc, rfl, rfl, rfl⟩, h, World.grownBy.refl _ _⟩

/-- What is left of the row, as the walk cuts it. -/
theorem rest_reads {w : World} {g cap place : Nat} {row : List Nat} (h : Reads w .u8 (.slice (some ⟨g, 0, none⟩) row.length cap) row) (hp : place < cap) (hle : place ≤ row.length) :
    Reads w .u8 (.slice (some ⟨g, place, none⟩) (row.length - place) (cap - place)) (row.drop place) := by
  obtain ⟨ao, cap', hv, h1, h2, h3, h4⟩ := h
  simp only [Value.slice.injEq, true_and] at hv
  obtain ⟨rfl, rfl⟩ := hv
  have hl : (row.drop place).length = row.length - place := by simp
  refine ⟨_, cap - place, by rw [hl], by omega, by omega, by simp, ?_⟩
  rcases h4 with rfl | ⟨b, off, ha, hb, hc⟩
  · left; simp
  · simp only [Option.some.injEq, Addr.mk.injEq, and_true] at ha
    obtain ⟨rfl, rfl⟩ := ha
    refine .inr ⟨g, place, rfl, hb, fun i hi => ?_⟩
    rw [hl] at hi
    have := hc (place + i) (by omega)
    rw [Nat.zero_add] at this
    rw [this]
    simp [List.getD]

set_option maxHeartbeats 1000000 in
set_option maxRecDepth 100000 in
theorem number_ok {w : World} {p : Nat} {rv : Value} {row : List Nat} {place : Nat} (h : Rd w p rv row place 0) :
    Calls Try.prog 121 #[.pointer (some ⟨p, 0, none⟩)] w (NumPost p rv row place 0 w) := by
  obtain ⟨n, k, ok, ht⟩ := taken_ex (row.drop place)
  have c0 := h.c0
  have c1 := h.c1
  have f1 := h.fz 1
  have hbyte : ∀ y ∈ row.drop place, y < 256 := fun y hy => h.byte y (List.mem_of_mem_drop hy)
  have hle := h.le
  have hlen := h.len
  have hr := h.own.reads
  have hk : place + k ≤ row.length := by
    rcases ht with ⟨_, _, ⟨r, h3⟩, h4⟩ | ⟨_, _, h3, _⟩
    · have := congrArg List.length h3
      simp at this
      omega
    · omega
  obtain ⟨d, hd⟩ : ∃ d : Nat, d = if ok then 0 else 2 := ⟨_, rfl⟩
  have hnum : NumRel (row.drop place) 0 n (row.drop (place + k)) d := by
    rw [hd]
    rcases ht with ⟨h1, h2, ⟨r, h3⟩, h4⟩ | ⟨h1, h2, h3, h4⟩
    · refine .inr (.inl ⟨rfl, h2, ?_, by rw [if_pos h1]⟩)
      rw [← List.drop_drop, ← h3, h4, List.drop_left]
    · refine .inr (.inr ⟨rfl, h2, by rw [h3]; rfl, by rw [if_neg h1], h4⟩)
  have hform : formIf ok = errV d := by rw [hd]; cases ok <;> rfl
  have hset : ∀ nq, Rd ((w.drewN nq).setCell ⟨p, 1, none⟩ (.int .i64 ((place : Int) + (k : Int)))) p rv row (place + k) 0 := fun nq => by
    have := (h.drewN nq).setPlace hk
    rw [Int.natCast_add] at this
    exact this
  have HF := Lib.hid hform
  have HN := Lib.hid hnum
  have HS := Lib.hid hset
  have H := Lib.hid h
  have HT := Lib.hid ht
  clear hform hnum hset ht hd
  rcases h.own.form with ⟨rfl, rfl⟩ | ⟨g, cap, rfl, hc1, hc2, _⟩
  · obtain rfl : place = 0 := by simpa using hle
    have hq := fun nq => take_at HT.out (.slice none 0 0) (w.drewN nq) (hr.drewN nq) hbyte
    have HQ := Lib.hid hq
    clear hq hr hbyte
    go_enter Try.func121, Try.ntmps121
    go_wp2_with fail
    refine (err_any h).mono ?_
    rintro e w' ⟨rfl, rfl⟩
    rw [errV_zero]
    clear h
    go_wp2_with fail
    go_quiet ((go_at_call 132; exact Calls.quiet_of_same (HQ.out _)))
    go_wp2_with fail
    rw [HF.out]
    refine (fail_any (by have := HS.out nq; simpa using this) _).mono ?_
    rintro e w2 ⟨rfl, hrd, hg⟩
    go_wp2
    go_ret
    exact ⟨n, 0 + k, _, rfl, HN.out, by simpa using hrd, grownBy_trans (grownBy_trans (grown_drewN w _ _) (grown_set _ _ _ _) (fun j hj _ => hj)) hg (fun j hj _ => hj)⟩
  · by_cases hpc : place < cap
    · have hrest := rest_reads hr hpc hle
      have hq := fun nq => take_at HT.out _ (w.drewN nq) (hrest.drewN nq) hbyte
      have HQ := Lib.hid hq
      clear hq hr hrest hbyte
      go_enter Try.func121, Try.ntmps121
      go_wp2_with fail
      refine (err_any h).mono ?_
      rintro e w' ⟨rfl, rfl⟩
      rw [errV_zero]
      clear h
      go_wp2_with fail
      go_quiet ((go_at_call 132; exact Calls.quiet_of_same (HQ.out _)))
      go_wp2_with fail
      rw [HF.out]
      refine (fail_any (HS.out nq) _).mono ?_
      rintro e w2 ⟨rfl, hrd, hg⟩
      go_wp2
      go_ret
      exact ⟨n, place + k, _, rfl, HN.out, by simpa using hrd, grownBy_trans (grownBy_trans (grown_drewN w _ _) (grown_set _ _ _ _) (fun j hj _ => hj)) hg (fun j hj _ => hj)⟩
    · obtain rfl : place = cap := by omega
      have hrl : row.length = place := by omega
      have hrest : Reads w .u8 (.slice (some ⟨g, 0, none⟩) 0 0) (row.drop place) := by
        rw [List.drop_of_length_le (by omega)]
        exact ⟨_, 0, rfl, by simp, by simp [maxLen], by simp, .inl rfl⟩
      have hq := fun nq => take_at HT.out _ (w.drewN nq) (hrest.drewN nq) hbyte
      have HQ := Lib.hid hq
      clear hq hr hrest hbyte
      rw [hrl] at c0
      have HRL := Lib.hid hrl
      clear hrl
      go_enter Try.func121, Try.ntmps121
      go_wp2_with fail
      refine (err_any h).mono ?_
      rintro e w' ⟨rfl, rfl⟩
      rw [errV_zero]
      clear h
      go_wp2_with fail
      go_quiet ((go_at_call 132; exact Calls.quiet_of_same (HQ.out _)))
      go_wp2_with fail
      rw [HF.out]
      refine (fail_any (HS.out nq) _).mono ?_
      rintro e w2 ⟨rfl, hrd, hg⟩
      go_wp2
      go_ret
      exact ⟨n, place + k, _, rfl, HN.out, by simpa using hrd, grownBy_trans (grownBy_trans (grown_drewN w _ _) (grown_set _ _ _ _) (fun j hj _ => hj)) hg (fun j hj _ => hj)⟩

theorem number_any {w : World} {p : Nat} {rv : Value} {row : List Nat} {place c : Nat} (h : Rd w p rv row place c) :
    Calls Try.prog 121 #[.pointer (some ⟨p, 0, none⟩)] w (NumPost p rv row place c w) := by
  by_cases hc : c = 0
  · subst hc; exact number_ok h
  · exact number_err h hc

end Go.Proofs.Ytnhffeppbliabaa
