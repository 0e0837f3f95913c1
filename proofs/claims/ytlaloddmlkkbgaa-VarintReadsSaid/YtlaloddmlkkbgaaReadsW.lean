/- The walk of the statement on readers: what any reader takes, act by act, and what a nil one answers. -/
import Derived.Test.YtlaloddmlkkbgaaNilW
namespace Go.Proofs.Ytlaloddmlkkbgaa
open Go.RowKit
set_option linter.unusedVariables false

theorem Owns.setOther {w : World} {base q i : Nat} {e : TypeId} {k : IntKind} {v u : Value} {l : List Nat} (h : Owns w base e k v l) (hq : ∀ g, v.ownBlock = some g → g ≠ q) : Owns (w.setCell ⟨q, i, none⟩ u) base e k v l :=
  h.grown (grown_set w q i u) (by cases hv : v.ownBlock with | none => exact .inl rfl | some g => right; intro e; have := hq g hv; simp at e; omega)

/-- Fail, told nothing: nothing changes. -/
theorem fail_nothing {w : World} {p : Nat} {rv : Value} {row : List Nat} {place c : Nat} (h : Rd w p rv row place c) :
    Calls Try.prog 27 #[.pointer (some ⟨p, 0, none⟩), .nilIface] w fun e w' => e = .returned (.tuple #[]) ∧ w = w' := by
  by_cases hc : c = 0
  · subst hc; exact fail_none h
  · exact fail_had h hc _

set_option maxHeartbeats 4000000 in
set_option maxRecDepth 100000 in
theorem reads_walk (ab as_ : Option Addr) (cb cs len : Nat) (b : List Nat) (w : World) (hru : RdU w w.heap.size (.slice ab b.length cb) b) (hb : ∀ y ∈ b, y < 256) (hacts : ActsAt w w.heap.size as_ len) (s1 : b.length ≤ 400) (s2 : len ≤ 40) :
    Calls Try.prog 5 #[.slice ab b.length cb, .slice as_ len cs] w fun e w' => e = .returned (.bool true) ∧ Below w.heap.size w w' := by
  have HRU := Lib.hid hru
  have HBY := Lib.hid hb
  have HACTS := Lib.hid hacts
  clear hru hb hacts
  have e13 : Value.iface 48 (.int .i64 13) = errV 13 := (errV_pos (by decide)).symm
  have E13 := Lib.hid e13
  clear e13
  go_enter Try.func5, Try.ntmps5
  go_wp2_with fail
  refine (alive_any w).mono ?_
  rintro e w0 ⟨rfl, hb0⟩
  go_wp2_with fail
  refine (fail_nil _ _).mono ?_
  rintro e w' ⟨rfl, rfl⟩
  go_wp2_with fail
  refine (number_nil _).mono ?_
  rintro e w' ⟨rfl, rfl⟩
  go_wp2_with fail
  refine (within_nil _).mono ?_
  rintro e w' ⟨rfl, rfl⟩
  go_wp2_with fail
  refine (text_nil _).mono ?_
  rintro e w' ⟨rfl, rfl⟩
  go_wp2_with fail
  refine (list_nil _).mono ?_
  rintro e w' ⟨rfl, rfl⟩
  go_wp2_with fail
  refine (fixed_nil _).mono ?_
  rintro e w' ⟨rfl, rfl⟩
  go_wp2_with fail
  refine (left_nil _).mono ?_
  rintro e w' ⟨rfl, rfl⟩
  go_wp2_with fail
  refine (err_nil _).mono ?_
  rintro e w' ⟨rfl, rfl⟩
  go_wp2_with fail
  refine (is_any 4 _).mono ?_
  rintro e w' ⟨rfl, rfl⟩
  go_wp2_with fail
  refine (end_nil _).mono ?_
  rintro e w' ⟨rfl, rfl⟩
  go_wp2_with fail
  refine (is_any 4 _).mono ?_
  rintro e w' ⟨rfl, rfl⟩
  go_wp2_with (at_builtin; go_must (refine wpList_app _ rfl _ _ 22 rfl w0.heap.size 5 (.int .u8 0) 1 Try.underlying22 Try.info5 rfl .u8 _ [] rfl (owns_empty w0 w0.heap.size 5 .u8 (Nat.le_refl _)) _ b rfl ((HRU.out.below hb0).reads.below ((Below.refl _ _).alloc (Nat.le_refl _) _) (Nat.le_refl _)) (by decide) ?c1 ?c3 ?_))
  case c1 => (try simp); omega
  case c3 => simp
  intro v6 w1 ho6 hg1
  have hb1 : Below w0.heap.size w0 w1 := ((Below.refl _ _).alloc (Nat.le_refl _) _).grown hg1 (by simp) (fun j hj => by simp [Value.ownBlock] at hj; omega)
  have hd1 := hb0.trans (hb1.mono hb0.size)
  have ho6' : Owns w1 w0.heap.size 5 .u8 v6 b := by simpa using ho6
  have hw01 := hb0.size
  clear hg1 ho6 hb1 hb0
  go_wp2_with fail
  refine (new_any _ b _ ho6'.reads HBY.out (by omega)).mono ?_
  rintro e w2 ⟨p, rv, rfl, hrd2, hb2, hp2, _⟩
  have ho2 := ho6'.below hb2 (Nat.le_refl _)
  have hvp : ∀ g, v6.ownBlock = some g → g < p := fun g hg => Nat.lt_of_lt_of_le (ho6'.lt g hg).2 hp2
  have hd2 := hd1.trans (hb2.mono hd1.size)
  have hwp : w.heap.size ≤ p := Nat.le_trans hd1.size hp2
  have hpw2 := hrd2.lt
  have HVP := Lib.hid hvp
  have HO2 := Lib.hid ho2
  have HRD2 := Lib.hid hrd2
  have HD2 := Lib.hid hd2
  clear hb2 hp2 ho2 hrd2 ho6' hd1 hvp hd2
  go_wp2_with fail
  refine (same_any (rv := rv) (row := b) (place := 0) (c := 0) (HRD2.out.below ((Below.refl _ _).alloc (Nat.le_refl _) _) (Nat.le_refl _)) ab b.length cb (by simp)).mono ?_
  rintro e w3 ⟨rfl, hb3⟩
  have hM3 : w3.heap[w2.heap.size]? = some (.cells #[.slice ab b.length cb, .int .i64 0] 57 (0, 0)) := (hb3.block _ (by simp)).trans (heap_alloc_new w2 _)
  have h23 : Below w2.heap.size w2 w3 := ((Below.refl _ _).alloc (Nat.le_refl _) _).trans (hb3.mono (by simp))
  have hM3lt : w2.heap.size < w3.heap.size := (Array.getElem?_eq_some_iff.1 hM3).1
  have HM3 := Lib.hid hM3
  have HO3 := Lib.hid (HO2.out.below h23 (Nat.le_refl _))
  have HRD3 := Lib.hid (HRD2.out.below h23 (Nat.le_refl _))
  have HD3 := Lib.hid (HD2.out.trans (h23.mono (by omega)))
  clear hb3 hM3 h23
  generalize hMM : w2.heap.size = M at *
  clear hMM HO2 HRD2 HD2
  go_wp2
  go_loopw [10, 11, 12, 76] (fun _ _ _ i wr => ∃ (k : Nat) (ao : Option Addr) (cap place c : Nat) (rest : List Nat), k ≤ len ∧ i = .int .i64 (k : Int) ∧ b.drop place = rest ∧ Rd wr p rv b place c ∧ RdU wr w.heap.size (.slice ao rest.length cap) rest ∧
      wr.heap[M]? = some (.cells #[.slice ao rest.length cap, .int .i64 (c : Int)] 57 (0, 0)) ∧ Owns wr w0.heap.size 5 .u8 v6 b ∧ Below w.heap.size w wr)
    (fun _ _ _ i _ => len - (intOf i).toNat)
  case atStart => exact ⟨0, ab, cb, 0, 0, b, Nat.zero_le _, rfl, rfl, HRD3.out, HRU.out.below HD3.out, HM3.out, HO3.out, HD3.out⟩
  case round =>
    clear HM3 HO3 HRD3 HD3
    obtain ⟨k, ao, cap, place, c, rest, hk, rfl, hrest, hrd, hru, hM, ho, hd⟩ := hrel
    have hMlt : M < wr.heap.size := (Array.getElem?_eq_some_iff.1 hM).1
    obtain ⟨m1, m2, m3, m4⟩ := blk2 hM
    have HREST := Lib.hid hrest
    have HRD := Lib.hid hrd
    have HR := Lib.hid hru
    have HM := Lib.hid hM
    have HO := Lib.hid ho
    have HD := Lib.hid hd
    clear hrest hrd hru hM ho hd
    by_cases hlt : k < len
    · obtain ⟨bs, off, kind, most, nn, rfl, hbs, hm1, hm2, a1, a2, a3⟩ := (HACTS.out.below HD.out) k hlt
      have ha := act_any w.heap.size (w := wr.alloc (.cells #[.int .i64 kind, .int .u64 (nn : Int), .int .i64 most] 60)) (HRD.out.below ((Below.refl _ _).alloc (Nat.le_refl _) _) (Nat.le_refl _)) hwp ao cap (by rw [HREST.out]; exact HR.out.below ((Below.refl _ _).alloc HD.out.size _)) kind most nn hm1 hm2 (by omega)
      rw [HREST.out] at ha
      have HA := Lib.hid ha
      clear ha
      go_wp2_with fail
      refine HA.out.mono ?_
      rintro e w4 ⟨ao2, cap2, place2, c2, rfl, hrd4, hru4, hg4⟩
      generalize hrest2 : b.drop place2 = rest2 at *
      have hwr4 : w.heap.size ≤ wr.heap.size := HD.out.size
      have hM4 := (hg4.block M (by simp; omega) (by simp; omega)).trans ((Below.heap_alloc _ _ _ hMlt).trans HM.out)
      obtain ⟨k1, k2, k3, k4⟩ := blk2 hM4
      have hMlt4 : M < w4.heap.size := (Array.getElem?_eq_some_iff.1 hM4).1
      have ho4 : Owns w4 w0.heap.size 5 .u8 v6 b := Owns.grown (HO.out.alloc _) hg4 (by
        cases hv : v6.ownBlock with
        | none => exact .inl rfl
        | some g => right; intro e; have := HVP.out g hv; simp at e; omega)
      have hd4 : Below w.heap.size w w4 := (HD.out.alloc hwr4 _).grown hg4 (by simp; omega) (fun j hj => by simp at hj; omega)
      have HREST2 := Lib.hid hrest2
      have HRD4 := Lib.hid hrd4
      have HRU4 := Lib.hid hru4
      have HM4 := Lib.hid hM4
      have HO4 := Lib.hid ho4
      have HD4 := Lib.hid hd4
      clear hrest2 hrd4 hru4 hM4 ho4 hd4 hg4 m1 m2 m3 m4 a1 a2 a3 HA
      have hMw : w.heap.size ≤ M := by omega
      go_wp2
      go_roundw
      case rel =>
        refine ⟨k + 1, ao2, cap2, place2, c2, rest2, by omega, by go_num, HREST2.out, ?_, ?_, ?_, ?_, ?_⟩
        · exact Rd.below ((HRD4.out.setOther hpw2).setOther hpw2) ((Below.refl _ _).alloc (Nat.le_refl _) _) (Nat.le_refl _)
        · exact HRU4.out.below (by (repeat (first | exact Below.refl _ _ | assumption | (refine Below.setCell ?_ (by first | omega | (simp; done) | (simp; omega)) _) | (refine Below.alloc ?_ (by first | omega | (simp; done) | (simp; omega)) _) | (refine Below.drew ?_) | (refine below_dn ?_))))
        · exact (Below.heap_alloc _ _ _ (by simpa using hMlt4)).trans (set2 HM4.out)
        · exact ((HO4.out.setOther (fun g hg => by have := HVP.out g hg; omega)).setOther (fun g hg => by have := HVP.out g hg; omega)).alloc _
        · have hd4 := HD4.out
          repeat (first | exact Below.refl _ _ | assumption | (refine Below.setCell ?_ (by first | omega | (simp; done) | (simp; omega)) _) | (refine Below.alloc ?_ (by first | omega | (simp; done) | (simp; omega)) _) | (refine Below.drew ?_) | (refine below_dn ?_))
      case measure => simp [intOf]; omega
    · obtain rfl : k = len := by omega
      go_wp2_with fail
      refine (fail_nothing HRD.out).mono ?_
      rintro e w4 ⟨rfl, rfl⟩
      go_wp2_with fail
      refine (same_any HRD.out ao rest.length cap (by rw [← HREST.out, List.length_drop])).mono ?_
      rintro e w5 ⟨rfl, hb5⟩
      have hd5 := HD.out.trans (hb5.mono HD.out.size)
      have ho5 := HO.out.below hb5 (Nat.le_refl _)
      have hr5 := HRU.out.below hd5
      clear hb5
      go_wp2_with fail
      refine (numBytes_any _ _ b b _ ho5.reads hr5.reads HBY.out HBY.out).mono ?_
      rintro e w6 ⟨rfl, rfl⟩
      rw [decide_eq_true rfl]
      go_wp2
      go_ret
      exact ⟨rfl, hd5⟩

set_option maxHeartbeats 400000 in
set_option maxRecDepth 100000 in
theorem reads_big (ab as_ : Option Addr) (nb cb cs len : Nat) (w : World) (s : ¬ (nb ≤ 400 ∧ len ≤ 40)) :
    Calls Try.prog 5 #[.slice ab nb cb, .slice as_ len cs] w fun e w' => e = .returned (.bool true) ∧ Below w.heap.size w w' := by
  have hs : 400 < nb ∨ (nb ≤ 400 ∧ 40 < len) := by omega
  clear s
  rcases hs with s1 | ⟨s1, s2⟩
  all_goals
    go_enter Try.func5, Try.ntmps5
    go_wp2_with fail
    refine (alive_any w).mono ?_
    rintro e w0 ⟨rfl, hb0⟩
    go_wp2
    go_ret
    exact ⟨rfl, hb0⟩

theorem reads_all (ab as_ : Option Addr) (cb cs len : Nat) (b : List Nat) (w : World) (hru : RdU w w.heap.size (.slice ab b.length cb) b) (hb : ∀ y ∈ b, y < 256) (hacts : ActsAt w w.heap.size as_ len) :
    Calls Try.prog 5 #[.slice ab b.length cb, .slice as_ len cs] w fun e w' => e = .returned (.bool true) ∧ Below w.heap.size w w' := by
  by_cases s : b.length ≤ 400 ∧ len ≤ 40
  · exact reads_walk ab as_ cb cs len b w hru hb hacts s.1 s.2
  · exact reads_big ab as_ b.length cb cs len w s

end Go.Proofs.Ytlaloddmlkkbgaa
