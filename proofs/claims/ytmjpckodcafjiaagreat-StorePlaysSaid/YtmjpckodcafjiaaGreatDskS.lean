/- The law's acts: what a slice of them reads as. -/
import Derived.Test.YtmjpckodcafjiaaGreatDskR
namespace Go.Proofs.YtmjpckodcafjiaaGreat
open Go.RowKit

structure ActR where
  kind : Int
  name : Nm
  to : Nm
  bytes : List Nat
  n : Int
  keep : List Bool
instance : Inhabited ActR := ⟨⟨0, [], [], [], 0, []⟩⟩
def actRow (a : ActR) (bv kv : Value) : List Value := [.int .i64 a.kind, nmV a.name, nmV a.to, bv, .int .i64 a.n, kv]
/-- An act's record: its bytes and its picks lie in blocks of which B holds. -/
structure ActAt (w : World) (B : Nat → Prop) (a : ActR) (bv kv : Value) : Prop where
  bytes : At w B .u8 bv a.bytes
  byte : ∀ y ∈ a.bytes, y < 256
  keep : RowV w B kv (a.keep.map Value.bool)
  kind : -9223372036854775808 ≤ a.kind ∧ a.kind ≤ 9223372036854775807
  n : -9223372036854775808 ≤ a.n ∧ a.n ≤ 9223372036854775807
  name : a.name.length ≤ 9223372036854775807
  to : a.to.length ≤ 9223372036854775807
theorem ActAt.kept {w w' : World} {B : Nat → Prop} {a : ActR} {bv kv : Value} (h : ActAt w B a bv kv) (hk : Kept B w w') : ActAt w' B a bv kv := ⟨h.bytes.keep hk, h.byte, h.keep.keep hk, h.kind, h.n, h.name, h.to⟩
theorem ActAt.mono {w : World} {B C : Nat → Prop} {a : ActR} {bv kv : Value} (h : ActAt w B a bv kv) (hc : ∀ j, j < w.heap.size → B j → C j) : ActAt w C a bv kv := ⟨h.bytes.mono hc, h.byte, h.keep.mono hc, h.kind, h.n, h.name, h.to⟩

/-- A slice of acts. -/
def ActsAt (w : World) (B : Nat → Prop) (v : Value) (acts : List ActR) : Prop :=
  ∃ rows : List (List Value), RecAt w B 6 v rows ∧ rows.length = acts.length ∧ ∀ (i : Nat) (a : ActR), acts[i]? = some a → ∃ bv kv, rows[i]? = some (actRow a bv kv) ∧ ActAt w B a bv kv
theorem ActsAt.kept {w w' : World} {B : Nat → Prop} {v : Value} {acts : List ActR} (h : ActsAt w B v acts) (hk : Kept B w w') : ActsAt w' B v acts := by
  obtain ⟨rows, h1, h2, h3⟩ := h
  refine ⟨rows, h1.keep hk, h2, fun i a hi => ?_⟩
  obtain ⟨bv, kv, h4, h5⟩ := h3 i a hi
  exact ⟨bv, kv, h4, h5.kept hk⟩
theorem ActsAt.val {w : World} {B : Nat → Prop} {v : Value} {acts : List ActR} (h : ActsAt w B v acts) : ∃ ao cap, v = .slice ao acts.length cap ∧ acts.length ≤ cap ∧ cap ≤ maxLen ∧ (ao = none → cap = 0) := by
  obtain ⟨rows, h1, h2, _⟩ := h
  have := h1.val
  rw [h2] at this
  exact this
theorem ActsAt.at {w : World} {B : Nat → Prop} {ao : Option Addr} {n cap : Nat} {acts : List ActR} (h : ActsAt w B (.slice ao n cap) acts) {i : Nat} {a : ActR} (hi : acts[i]? = some a) :
    ∃ b off bv kv, ao = some ⟨b, off, none⟩ ∧ w.cell? ⟨b, off + i * 6, none⟩ = some (.int .i64 a.kind) ∧ w.cell? ⟨b, off + i * 6 + 1, none⟩ = some (nmV a.name) ∧ w.cell? ⟨b, off + i * 6 + 2, none⟩ = some (nmV a.to) ∧ w.cell? ⟨b, off + i * 6 + 3, none⟩ = some bv ∧
      w.cell? ⟨b, off + i * 6 + 4, none⟩ = some (.int .i64 a.n) ∧ w.cell? ⟨b, off + i * 6 + 5, none⟩ = some kv ∧ ActAt w B a bv kv := by
  obtain ⟨rows, h1, h2, h3⟩ := h
  obtain ⟨bv, kv, h4, h5⟩ := h3 i a hi
  obtain ⟨b, off, ha, _, _, hc⟩ := h1.at h4
  exact ⟨b, off, bv, kv, ha, hc 0 _ rfl, hc 1 _ rfl, hc 2 _ rfl, hc 3 _ rfl, hc 4 _ rfl, hc 5 _ rfl, h5⟩

/-- More acts than are looked at, or longer ones. -/
def longA (a : ActR) : Bool := decide (60 < a.name.length) || decide (60 < a.to.length) || decide (60 < a.keep.length) || (decide (300 < a.bytes.length) && decide (a.bytes.length ≤ 65536)) || decide (66000 < a.bytes.length)
def longD (acts : List ActR) (most : Int) : Bool := acts.any longA || decide (most < (acts.length : Int))

/-- A box of six cells. -/
theorem six_cells {w : World} {p : Nat} {c0 c1 c2 c3 c4 c5 : Value} {e : TypeId} (h : w.heap[p]? = some (.cells #[c0, c1, c2, c3, c4, c5] e (0, 0))) :
    w.cell? ⟨p, 0, none⟩ = some c0 ∧ w.cell? ⟨p, 1, none⟩ = some c1 ∧ w.cell? ⟨p, 2, none⟩ = some c2 ∧ w.cell? ⟨p, 3, none⟩ = some c3 ∧ w.cell? ⟨p, 4, none⟩ = some c4 ∧ w.cell? ⟨p, 5, none⟩ = some c5 :=
  ⟨cell_of_row _ _ 0 _ _ _ h, cell_of_row _ _ 1 _ _ _ h, cell_of_row _ _ 2 _ _ _ h, cell_of_row _ _ 3 _ _ _ h, cell_of_row _ _ 4 _ _ _ h, cell_of_row _ _ 5 _ _ _ h⟩

theorem any_takeA {acts : List ActR} {k : Nat} {a : ActR} (h : acts[k]? = some a) : (acts.take (k + 1)).any longA = ((acts.take k).any longA || longA a) := by
  rw [take_snoc h, List.any_append]; simp

theorem longD_hit {acts : List ActR} {most : Int} {k : Nat} {a : ActR} (h : acts[k]? = some a) (ha : longA a = true) : longD acts most = true := by
  unfold longD
  rw [Bool.or_eq_true]
  left
  rw [List.any_eq_true]
  exact ⟨a, List.mem_of_getElem? h, ha⟩

set_option maxHeartbeats 2000000 in
set_option maxRecDepth 100000 in
theorem longD_any (v : Value) (acts : List ActR) (most : Int) (w : World) (B : Nat → Prop) (hr : ActsAt w B v acts) (hB : ∀ j, B j → j < w.heap.size) (hl : acts.length ≤ 9223372036854775807) :
    Calls Tryz.prog 13 #[v, .int .i64 most] w fun e w' => e = .returned (.bool (longD acts most)) ∧ Below w.heap.size w w' := by
  obtain ⟨ao, cap, rfl, _, _, _⟩ := hr.val
  have HR := Lib.hid hr
  have HBB := Lib.hid hB
  clear hr hB
  go_enter Tryz.func13, Tryz.ntmps13
  go_wp2
  go_loopw [9] (fun i wr => ∃ k : Nat, k ≤ acts.length ∧ i = .int .i64 (k : Int) ∧ (acts.take k).any longA = false ∧ Below w.heap.size w wr)
    (fun i _ => acts.length - (intOf i).toNat)
  case atStart => exact ⟨0, Nat.zero_le _, rfl, rfl, Below.refl _ _⟩
  case round =>
    obtain ⟨k, hk, rfl, hno, hb⟩ := hrel
    have HB := Lib.hid hb
    have HNO := Lib.hid hno
    by_cases hlt : k < acts.length
    · obtain ⟨a, ha⟩ : ∃ a, acts[k]? = some a := ⟨_, List.getElem?_eq_getElem hlt⟩
      obtain ⟨b, off, bv, kv, rfl, e0, e1, e2, e3, e4, e5, hat⟩ := (HR.out.kept (w' := wr) ⟨hb.size, fun j hj hB => hb.block j hj⟩).at ha
      obtain ⟨aob, capb, rfl, _, _, _⟩ := hat.bytes.reads.val
      obtain ⟨aok, capk, rfl, _, _, _⟩ := id hat.keep
      have hkl : (a.keep.map Value.bool).length = a.keep.length := List.length_map _
      rw [hkl] at e5
      have HANY := Lib.hid (any_takeA ha)
      have HA := Lib.hid ha
      obtain ⟨s1, hs1⟩ : ∃ s1 : ByteArray, nmV a.name = .string s1 ∧ s1.size = a.name.length := ⟨_, rfl, size_nm _⟩
      obtain ⟨s2, hs2⟩ : ∃ s2 : ByteArray, nmV a.to = .string s2 ∧ s2.size = a.to.length := ⟨_, rfl, size_nm _⟩
      rw [hs1.1] at e1
      rw [hs2.1] at e2
      have l1 := hs1.2
      have l2 := hs2.2
      have hlti : (k : Int) < acts.length := by omega
      have HK := Lib.hid hlt
      obtain ⟨kind, name, to, bytes, nn, keep⟩ := a
      simp only [] at e0 e3 e4 e5 l1 l2
      clear hno hat ha hkl hs1 hs2
      by_cases q1 : 60 < name.length
      · have p1 : decide ((60 : Int) < (name.length : Int)) = true := decide_eq_true (by omega)
        have HE := Lib.hid (show longD acts most = true from longD_hit HA.out (by unfold longA; simp only []; rw [decide_eq_true q1]; simp))
        go_wp2
        go_ret
        exact ⟨by rw [HE.out]; rfl, HB.out.alloc HB.out.size _⟩
      have p1 : decide ((60 : Int) < (name.length : Int)) = false := decide_eq_false (by omega)
      by_cases q2 : 60 < to.length
      · have p2 : decide ((60 : Int) < (to.length : Int)) = true := decide_eq_true (by omega)
        have HE := Lib.hid (show longD acts most = true from longD_hit HA.out (by unfold longA; simp only []; rw [decide_eq_true q2]; simp))
        go_wp2
        go_ret
        exact ⟨by rw [HE.out]; rfl, HB.out.alloc HB.out.size _⟩
      have p2 : decide ((60 : Int) < (to.length : Int)) = false := decide_eq_false (by omega)
      by_cases q3 : 60 < keep.length
      · have p3 : decide ((60 : Int) < (keep.length : Int)) = true := decide_eq_true (by omega)
        have HE := Lib.hid (show longD acts most = true from longD_hit HA.out (by unfold longA; simp only []; rw [decide_eq_true q3]; simp))
        go_wp2
        go_ret
        exact ⟨by rw [HE.out]; rfl, HB.out.alloc HB.out.size _⟩
      have p3 : decide ((60 : Int) < (keep.length : Int)) = false := decide_eq_false (by omega)
      by_cases q4 : 300 < bytes.length
      · have p4 : decide ((300 : Int) < (bytes.length : Int)) = true := decide_eq_true (by omega)
        by_cases q5 : bytes.length ≤ 65536
        · have p5 : decide ((bytes.length : Int) ≤ 65536) = true := decide_eq_true (by omega)
          have HE := Lib.hid (show longD acts most = true from longD_hit HA.out (by unfold longA; simp only []; rw [decide_eq_true q4, decide_eq_true q5]; simp))
          go_wp2
          go_ret
          exact ⟨by rw [HE.out]; rfl, HB.out.alloc HB.out.size _⟩
        · have p5 : decide ((bytes.length : Int) ≤ 65536) = false := decide_eq_false (by omega)
          by_cases q6 : 66000 < bytes.length
          · have p6 : decide ((66000 : Int) < (bytes.length : Int)) = true := decide_eq_true (by omega)
            have HE := Lib.hid (show longD acts most = true from longD_hit HA.out (by unfold longA; simp only []; rw [decide_eq_true q6]; simp))
            go_wp2
            go_ret
            exact ⟨by rw [HE.out]; rfl, HB.out.alloc HB.out.size _⟩
          · have p6 : decide ((66000 : Int) < (bytes.length : Int)) = false := decide_eq_false (by omega)
            have HF := Lib.hid (show (acts.take (k + 1)).any longA = false by rw [HANY.out, HNO.out]; unfold longA; simp only []; rw [decide_eq_false q1, decide_eq_false q2, decide_eq_false q3, decide_eq_false q5, decide_eq_false q6]; simp)
            go_wp2
            go_roundw
            case rel => exact ⟨k + 1, HK.out, by first | exact inc_eq HK.out hl | rfl, HF.out, HB.out.alloc HB.out.size _⟩
            case measure => first | exact inc_meas HK.out hl | (have := HK.out; simp [intOf]; omega)
      · have p4 : decide ((300 : Int) < (bytes.length : Int)) = false := decide_eq_false (by omega)
        have p6 : decide ((66000 : Int) < (bytes.length : Int)) = false := decide_eq_false (by omega)
        have HF := Lib.hid (show (acts.take (k + 1)).any longA = false by rw [HANY.out, HNO.out]; unfold longA; simp only []; rw [decide_eq_false q1, decide_eq_false q2, decide_eq_false q3, decide_eq_false q4, decide_eq_false (p := 66000 < bytes.length) (by omega)]; simp)
        go_wp2
        go_roundw
        case rel => exact ⟨k + 1, HK.out, by first | exact inc_eq HK.out hl | rfl, HF.out, HB.out.alloc HB.out.size _⟩
        case measure => first | exact inc_meas HK.out hl | (have := HK.out; simp [intOf]; omega)
    · obtain rfl : k = acts.length := by omega
      have HE := Lib.hid (show longD acts most = decide (most < (acts.length : Int)) by unfold longD; rw [List.take_of_length_le (Nat.le_refl _)] at hno; rw [hno]; rfl)
      clear hno hb
      go_wp2
      go_ret
      exact ⟨by rw [HE.out]; rfl, HB.out⟩

end Go.Proofs.YtmjpckodcafjiaaGreat
