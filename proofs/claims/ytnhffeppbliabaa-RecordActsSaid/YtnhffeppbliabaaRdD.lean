/- The contracts of Fixed and Text. -/
import Derived.Test.YtnhffeppbliabaaRdC
import Derived.StillTailTactics
namespace Go.Proofs.Ytnhffeppbliabaa
open Go.RowKit

/-- So many bytes taken. -/
def FixPost (p : Nat) (rv : Value) (row : List Nat) (place c : Nat) (many : Int) (w : World) (e : Ending) (w' : World) : Prop :=
  ∃ (v : Value) (out : List Nat) (place' c' : Nat), e = .returned v ∧ FixRel (row.drop place) c many out (row.drop place') c' ∧ Owns w' w.heap.size 5 .u8 v out ∧ Rd w' p rv row place' c' ∧ w.grownBy w' (some p)

set_option maxHeartbeats 1000000 in
set_option maxRecDepth 100000 in
theorem fixed_err {w : World} {p : Nat} {rv : Value} {row : List Nat} {place c : Nat} (h : Rd w p rv row place c) (hc : c ≠ 0) (many : Int) :
    Calls Try.prog 122 #[.pointer (some ⟨p, 0, none⟩), .int .i64 many] w (FixPost p rv row place c many w) := by
  by_cases h0 : many < 0
  · go_enter Try.func122, Try.ntmps122
    go_wp2_with fail
    refine (fail_had h hc _).mono ?_
    rintro e w1 ⟨rfl, rfl⟩
    go_wp2_with fail
    refine (err_any h).mono ?_
    rintro e w1 ⟨rfl, rfl⟩
    rw [errV_pos hc]
    go_wp2
    go_ret
    exact ⟨_, [], place, c, rfl, .inl ⟨hc, rfl, rfl, rfl⟩, owns_nil _ _ _ _, h, World.grownBy.refl _ _⟩
  · by_cases h1 : 0 < many
    · go_enter Try.func122, Try.ntmps122
      go_wp2_with fail
      refine (left_err h hc).mono ?_
      rintro e w1 ⟨rfl, rfl⟩
      go_wp2_with fail
      refine (fail_had h hc _).mono ?_
      rintro e w1 ⟨rfl, rfl⟩
      go_wp2_with fail
      refine (err_any h).mono ?_
      rintro e w1 ⟨rfl, rfl⟩
      rw [errV_pos hc]
      go_wp2
      go_ret
      exact ⟨_, [], place, c, rfl, .inl ⟨hc, rfl, rfl, rfl⟩, owns_nil _ _ _ _, h, World.grownBy.refl _ _⟩
    · go_enter Try.func122, Try.ntmps122
      go_wp2_with fail
      refine (left_err h hc).mono ?_
      rintro e w1 ⟨rfl, rfl⟩
      go_wp2_with fail
      refine (err_any h).mono ?_
      rintro e w1 ⟨rfl, rfl⟩
      rw [errV_pos hc]
      go_wp2
      go_ret
      exact ⟨_, [], place, c, rfl, .inl ⟨hc, rfl, rfl, rfl⟩, owns_nil _ _ _ _, h, World.grownBy.refl _ _⟩

set_option maxHeartbeats 1000000 in
set_option maxRecDepth 100000 in
theorem fixed_out {w : World} {p : Nat} {rv : Value} {row : List Nat} {place : Nat} (h : Rd w p rv row place 0) (many : Int) (hm : many < 0 ∨ ((row.length - place : Nat) : Int) < many) :
    Calls Try.prog 122 #[.pointer (some ⟨p, 0, none⟩), .int .i64 many] w (FixPost p rv row place 0 many w) := by
  have hrel : FixRel (row.drop place) 0 many [] (row.drop place) 2 := .inr (.inl ⟨rfl, by simpa using hm, rfl, rfl, rfl⟩)
  have HREL := Lib.hid hrel
  clear hrel
  have e2 : Value.iface 77 (.int .i64 2) = errV 2 := (errV_pos (by decide)).symm
  have E2 := Lib.hid e2
  clear e2
  by_cases h0 : many < 0
  · clear hm
    go_enter Try.func122, Try.ntmps122
    go_wp2_with fail
    rw [E2.out]
    refine (fail_any h 2).mono ?_
    rintro e w1 ⟨rfl, hrd, hg⟩
    rw [if_pos rfl] at hrd
    clear h
    go_wp2_with fail
    refine (err_any hrd).mono ?_
    rintro e w2 ⟨rfl, rfl⟩
    rw [errV_pos (by decide)]
    go_wp2
    go_ret
    exact ⟨_, [], place, 2, rfl, HREL.out, owns_nil _ _ _ _, hrd, hg⟩
  · have hlt : ((row.length - place : Nat) : Int) < many := by omega
    clear hm
    obtain ⟨L, hL⟩ : ∃ L : Int, L = ((row.length - place : Nat) : Int) := ⟨_, rfl⟩
    rw [← hL] at hlt
    have HL := Lib.hid hL
    clear hL
    go_enter Try.func122, Try.ntmps122
    go_wp2_with fail
    refine (left_ok h).mono ?_
    rintro e w0 ⟨rfl, n, rfl⟩
    rw [← HL.out]
    have hd := h.drewN n
    clear h
    go_wp2_with fail
    rw [E2.out]
    refine (fail_any hd 2).mono ?_
    rintro e w1 ⟨rfl, hrd, hg⟩
    rw [if_pos rfl] at hrd
    clear hd
    go_wp2_with fail
    refine (err_any hrd).mono ?_
    rintro e w2 ⟨rfl, rfl⟩
    rw [errV_pos (by decide)]
    go_wp2
    go_ret
    exact ⟨_, [], place, 2, rfl, HREL.out, owns_nil _ _ _ _, hrd, grownBy_trans (grown_drewN w n _) hg (fun j hj _ => hj)⟩

/-- What is cut out of the row. -/
theorem part_reads {w : World} {g cap place many : Nat} {row : List Nat} (h : Reads w .u8 (.slice (some ⟨g, 0, none⟩) row.length cap) row) (hp : place < cap) (hle : place + many ≤ row.length) :
    Reads w .u8 (.slice (some ⟨g, place, none⟩) many (cap - place)) ((row.drop place).take many) := by
  obtain ⟨ao, cap', hv, h1, h2, h3, h4⟩ := h
  simp only [Value.slice.injEq, true_and] at hv
  obtain ⟨rfl, rfl⟩ := hv
  have hl : ((row.drop place).take many).length = many := by rw [List.length_take, List.length_drop]; omega
  refine ⟨_, cap - place, by rw [hl], by omega, by omega, by simp, ?_⟩
  rcases h4 with rfl | ⟨b, off, ha, hb, hc⟩
  · left; simp
  · simp only [Option.some.injEq, Addr.mk.injEq, and_true] at ha
    obtain ⟨rfl, rfl⟩ := ha
    refine .inr ⟨g, place, rfl, hb, fun i hi => ?_⟩
    rw [hl] at hi
    have := hc (place + i) (by omega)
    rw [Nat.zero_add] at this
    rw [this]
    simp [List.getD, hi]

theorem Rd.drew {w : World} {p : Nat} {rv : Value} {row : List Nat} {place c : Nat} (h : Rd w p rv row place c) : Rd w.drew p rv row place c := ⟨h.blk, h.own, h.off, h.le, h.byte, h.len⟩
theorem grown_drew (w : World) (row : Option Nat) : w.grownBy w.drew row := ⟨rfl, rfl, rfl, Nat.le_refl _, fun _ _ _ => rfl⟩
theorem grown_of_below {w w' : World} (h : Below w.heap.size w w') (row : Option Nat) : w.grownBy w' row := ⟨h.os, h.tape, h.output, h.size, fun k hk _ => h.block k hk⟩

/-- The end of Fixed: what was cut is copied, and the place moves on. -/
theorem fixed_fin {w w1 w3 : World} {n p place place' : Nat} {rv v3 : Value} {row out : List Nat} (hw : w.drewN n = w1) (hd : Rd w1 p rv row place 0) (hb : Below w1.drew.heap.size w1.drew w3) (ho : Owns w3 w1.drew.heap.size 5 .u8 v3 out) (hp : place' ≤ row.length) :
    Owns (w3.setCell ⟨p, 1, none⟩ (.int .i64 (place' : Int))) w.heap.size 5 .u8 v3 out ∧ Rd (w3.setCell ⟨p, 1, none⟩ (.int .i64 (place' : Int))) p rv row place' 0 ∧ w.grownBy (w3.setCell ⟨p, 1, none⟩ (.int .i64 (place' : Int))) (some p) := by
  subst hw
  have hd3 : Rd w3 p rv row place 0 := hd.drew.below hb (Nat.le_refl _)
  refine ⟨ho.grown (grown_set w3 p 1 _) ?_, hd3.setPlace hp, ?_⟩
  · cases hv : v3.ownBlock with
    | none => exact .inl rfl
    | some g =>
      right
      intro e
      have h1 := (ho.lt g hv).1
      have h2 : p < (w.drewN n).drew.heap.size := hd.lt
      simp at e
      omega
  · exact grownBy_trans (grownBy_trans (grownBy_trans (grown_drewN w n (some p)) (grown_drew _ (some p)) (fun j hj _ => hj)) (grown_of_below hb (some p)) (fun j hj _ => hj)) (grown_set w3 p 1 _) (fun j hj _ => hj)

set_option maxHeartbeats 2000000 in
set_option maxRecDepth 100000 in
theorem fixed_in {w : World} {p : Nat} {rv : Value} {row : List Nat} {place : Nat} (h : Rd w p rv row place 0) (many : Nat) (hm : place + many ≤ row.length) :
    Calls Try.prog 122 #[.pointer (some ⟨p, 0, none⟩), .int .i64 (many : Int)] w (FixPost p rv row place 0 (many : Int) w) := by
  have hrel : FixRel (row.drop place) 0 (many : Int) ((row.drop place).take many) (row.drop (place + many)) 0 :=
    .inr (.inr ⟨rfl, by omega, by rw [List.length_drop]; omega, by simp, by rw [Int.toNat_natCast, List.drop_drop], rfl⟩)
  have HREL := Lib.hid hrel
  clear hrel
  have hle := h.le
  have hlen := h.len
  have hr := h.own.reads
  have hcut : ((row.drop place).take many).length ≤ 100000000000000 := by rw [List.length_take, List.length_drop]; omega
  have HCUT := Lib.hid hcut
  clear hcut
  rcases h.own.form with ⟨rfl, rfl⟩ | ⟨g, cap, rfl, hc1, hc2, _⟩
  · obtain rfl : place = 0 := by simpa using hle
    obtain rfl : many = 0 := by simpa using hm
    have hpart := hr
    have z0 : IntKind.i64.wrap 0 = 0 := IntWalk.i64_in _ (by omega)
    show Calls Try.prog 122 #[.pointer (some ⟨p, 0, none⟩), .int .i64 0] w _
    go_enter Try.func122, Try.ntmps122
    go_wp2_with fail
    refine (left_ok h).mono ?_
    rintro e w0 ⟨rfl, n, rfl⟩
    have hd := h.drewN n
    have HP := Lib.hid (hpart.drewN n)
    generalize hw1 : w.drewN n = w1 at hd HP
    have HW1 := Lib.hid hw1
    have H := Lib.hid hd
    clear h hr hpart hw1
    go_wp2_with fail
    refine (err_any hd).mono ?_
    rintro e w2 ⟨rfl, rfl⟩
    rw [errV_zero]
    have c0 := hd.c0
    have c1 : w1.cell? ⟨p, 1, none⟩ = some (.int .i64 0) := hd.c1
    clear hd
    go_wp2_with fail
    go_still_tail 15, (by kernel_rfl)
    go_wp2_with fail
    refine (clone_any _ [] w1.drew HP.out HCUT.out).mono ?_
    rintro e w3 ⟨v3, rfl, ho, hb3⟩
    have hd3 := H.out.drew.below hb3 (Nat.le_refl _)
    have k1 : w3.cell? ⟨p, 1, none⟩ = some (.int .i64 0) := hd3.c1
    have f1 := hd3.fz 1
    have HO := Lib.hid ho
    have HB := Lib.hid hb3
    clear hb3 hd3 ho c0 c1
    go_wp2
    go_ret
    obtain ⟨a1, a2, a3⟩ := fixed_fin HW1.out H.out HB.out HO.out (place' := 0) (by first | exact hm | (simp; done) | omega)
    first
      | exact ⟨v3, _, 0, 0, rfl, HREL.out, a1, a2, a3⟩
      | (simp only [Int.natCast_add] at a1 a2 a3; exact ⟨v3, _, 0, 0, rfl, HREL.out, a1, a2, a3⟩)
      | (simp only [Int.natCast_add, Int.natCast_zero, Int.add_zero] at a1 a2 a3; exact ⟨v3, _, 0, 0, rfl, HREL.out, a1, a2, a3⟩)
  · by_cases hpc : place < cap
    · have hpart := part_reads hr hpc hm
      go_enter Try.func122, Try.ntmps122
      go_wp2_with fail
      refine (left_ok h).mono ?_
      rintro e w0 ⟨rfl, n, rfl⟩
      have hd := h.drewN n
      have HP := Lib.hid (hpart.drewN n)
      generalize hw1 : w.drewN n = w1 at hd HP
      have HW1 := Lib.hid hw1
      have H := Lib.hid hd
      clear h hr hpart hw1
      go_wp2_with fail
      refine (err_any hd).mono ?_
      rintro e w2 ⟨rfl, rfl⟩
      rw [errV_zero]
      have c0 := hd.c0
      have c1 := hd.c1
      clear hd
      have q1 : IntKind.i64.wrap ((place : Int) + (many : Int)) = (place : Int) + (many : Int) := IntWalk.i64_in _ (by omega)
      have q2 : (0 : Int) ≤ (place : Int) := by omega
      have q3 : (place : Int) ≤ (place : Int) + (many : Int) := by omega
      have q4 : (place : Int) + (many : Int) ≤ (cap : Int) := by omega
      have q5 : ((place : Int) + (many : Int)).toNat = place + many := by omega
      have q6 : ¬ cap = place := by omega
      have q7 : place + many - place = many := by omega
      go_wp2_with fail
      go_still_tail 15, (by kernel_rfl)
      go_wp2_with fail
      refine (clone_any _ ((row.drop place).take many) w1.drew HP.out HCUT.out).mono ?_
      rintro e w3 ⟨v3, rfl, ho, hb3⟩
      have hd3 := H.out.drew.below hb3 (Nat.le_refl _)
      have k1 := hd3.c1
      have f1 := hd3.fz 1
      have HO := Lib.hid ho
      have HB := Lib.hid hb3
      clear hb3 hd3 ho c0 c1
      go_wp2
      go_ret
      obtain ⟨a1, a2, a3⟩ := fixed_fin HW1.out H.out HB.out HO.out (place' := (place + many)) (by first | exact hm | (simp; done) | omega)
      first
        | exact ⟨v3, _, (place + many), 0, rfl, HREL.out, a1, a2, a3⟩
        | (simp only [Int.natCast_add] at a1 a2 a3; exact ⟨v3, _, (place + many), 0, rfl, HREL.out, a1, a2, a3⟩)
        | (simp only [Int.natCast_add, Int.natCast_zero, Int.add_zero] at a1 a2 a3; exact ⟨v3, _, (place + many), 0, rfl, HREL.out, a1, a2, a3⟩)
    · obtain rfl : place = cap := by omega
      obtain rfl : many = 0 := by omega
      have hrl : row.length = place := by omega
      have hpart : Reads w .u8 (.slice (some ⟨g, 0, none⟩) 0 0) ((row.drop place).take 0) := ⟨_, 0, rfl, by simp, by simp [maxLen], by simp, .inl rfl⟩
      have HRL := Lib.hid hrl
      clear hrl
      show Calls Try.prog 122 #[.pointer (some ⟨p, 0, none⟩), .int .i64 0] w _
      go_enter Try.func122, Try.ntmps122
      go_wp2_with fail
      refine (left_ok h).mono ?_
      rintro e w0 ⟨rfl, n, rfl⟩
      have hd := h.drewN n
      have HP := Lib.hid (hpart.drewN n)
      generalize hw1 : w.drewN n = w1 at hd HP
      have HW1 := Lib.hid hw1
      have H := Lib.hid hd
      clear h hr hpart hw1
      go_wp2_with fail
      refine (err_any hd).mono ?_
      rintro e w2 ⟨rfl, rfl⟩
      rw [errV_zero]
      have c0 := hd.c0
      have c1 := hd.c1
      rw [HRL.out] at c0
      clear hd
      have q1 : IntKind.i64.wrap (place : Int) = (place : Int) := IntWalk.i64_in _ (by omega)
      have q2 : (0 : Int) ≤ (place : Int) := by omega
      have q3 : (place : Int) ≤ (place : Int) := by omega
      have q5 : ((place : Int)).toNat = place := by omega
      go_wp2_with fail
      go_still_tail 15, (by kernel_rfl)
      go_wp2_with fail
      refine (clone_any _ ((row.drop place).take 0) w1.drew HP.out HCUT.out).mono ?_
      rintro e w3 ⟨v3, rfl, ho, hb3⟩
      have hd3 := H.out.drew.below hb3 (Nat.le_refl _)
      have k1 := hd3.c1
      have f1 := hd3.fz 1
      have HO := Lib.hid ho
      have HB := Lib.hid hb3
      clear hb3 hd3 ho c0 c1
      go_wp2
      go_ret
      obtain ⟨a1, a2, a3⟩ := fixed_fin HW1.out H.out HB.out HO.out (place' := (place + 0)) (by first | exact hm | (simp; done) | omega)
      first
        | exact ⟨v3, _, (place + 0), 0, rfl, HREL.out, a1, a2, a3⟩
        | (simp only [Int.natCast_add] at a1 a2 a3; exact ⟨v3, _, (place + 0), 0, rfl, HREL.out, a1, a2, a3⟩)
        | (simp only [Int.natCast_add, Int.natCast_zero, Int.add_zero] at a1 a2 a3; exact ⟨v3, _, (place + 0), 0, rfl, HREL.out, a1, a2, a3⟩)

theorem fixed_any {w : World} {p : Nat} {rv : Value} {row : List Nat} {place c : Nat} (h : Rd w p rv row place c) (many : Int) :
    Calls Try.prog 122 #[.pointer (some ⟨p, 0, none⟩), .int .i64 many] w (FixPost p rv row place c many w) := by
  have hle := h.le
  by_cases hc : c = 0
  · subst hc
    by_cases hm : many < 0 ∨ ((row.length - place : Nat) : Int) < many
    · exact fixed_out h many hm
    · obtain ⟨k, rfl⟩ : ∃ k : Nat, many = (k : Int) := ⟨many.toNat, by omega⟩
      exact fixed_in h k (by omega)
  · exact fixed_err h hc many

end Go.Proofs.Ytnhffeppbliabaa
