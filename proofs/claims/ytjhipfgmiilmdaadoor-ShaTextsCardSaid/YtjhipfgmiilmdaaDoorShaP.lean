/- The document's own Hex. -/
import Derived.Test.YtjhipfgmiilmdaaDoorShaC
import Derived.Test.YtjhipfgmiilmdaaDoorByteA
namespace Go.Proofs.YtjhipfgmiilmdaaDoor
open Go.RowKit

/-- Numbers as a string's bytes. -/
def strN (l : List Nat) : ByteArray := strOfNums (l.map fun n : Nat => (n : Int))
theorem strN_size (l : List Nat) : (strN l).size = l.length := by simp [strN, strOfNums_size]
theorem strN_append (a b : List Nat) : strN a ++ strN b = strN (a ++ b) := by
  apply ByteArray.ext
  apply Array.toList_inj.1
  simp [strN, strOfNums]
/-- A sign of sixteen. -/
def sgn (d : Nat) : Nat := if d < 10 then 48 + d else 87 + d
def hexS : List Nat → List Nat
  | [] => []
  | y :: l => sgn (y / 16) :: sgn (y % 16) :: hexS l
theorem hexS_append : ∀ (a b : List Nat), hexS (a ++ b) = hexS a ++ hexS b
  | [], _ => rfl
  | y :: a, b => by show _ :: _ :: hexS (a ++ b) = _; rw [hexS_append a b]; rfl
theorem hexS_length : ∀ l : List Nat, (hexS l).length = 2 * l.length
  | [] => rfl
  | y :: l => by show (hexS l).length + 1 + 1 = _; rw [hexS_length l, List.length_cons]; omega

def signsB : ByteArray := { data := #[48, 49, 50, 51, 52, 53, 54, 55, 56, 57, 97, 98, 99, 100, 101, 102] }
theorem sign_cut : ∀ d, d < 16 → (signsB.extract d (d + 1)).data.toList = (strN [sgn d]).data.toList := by decide

theorem sign_ext (d : Nat) (hd : d < 16) : signsB.extract d (d + 1) = strN [sgn d] := ByteArray.ext (Array.toList_inj.1 (sign_cut d hd))

theorem sign_slice (w : World) (d : Nat) (hd : d < 16) : (Instr.slice 9 (.string signsB) (some (.int .u8 (d : Int))) (some (.int .u8 ((d : Int) + 1))) none).run Tryd.prog w = .ok (.string (strN [sgn d])) w := by
  have hsz : signsB.size = 16 := rfl
  rw [run_slice_string w 9 signsB .u8 .u8 (d : Int) ((d : Int) + 1) Tryd.underlying9 (by omega) (by omega) (by omega)]
  rw [show (d : Int).toNat = d from rfl, show ((d : Int) + 1).toNat = d + 1 from by omega, sign_ext d hd]

set_option maxHeartbeats 400000 in
set_option maxRecDepth 100000 in
theorem refHex_any (v : Value) (l : List Nat) (w : World) (hr : Reads w .u8 v l) (hl : ∀ y ∈ l, y < 256) (hx : l.length ≤ 100) :
    Calls Tryd.prog 23 #[v] w fun e w' => e = .returned (.string (strN (hexS l))) ∧ ∃ d, w' = w.drewN d := by
  obtain ⟨ao, cap, rfl, _, _, _⟩ := hr.val
  go_enter Tryd.func23, Tryd.ntmps23
  go_wp2
  go_loopw [4, 5] (fun sv iv wr => ∃ k : Nat, k ≤ l.length ∧ iv = .int .i64 (k : Int) ∧ sv = .string (strN (hexS (l.take k))) ∧ ∃ d, wr = w.drewN d)
    (fun _ iv _ => l.length - (intOf iv).toNat)
  case atStart => exact ⟨0, Nat.zero_le _, rfl, rfl, 0, rfl⟩
  case round =>
    obtain ⟨k, hk, rfl, rfl, d, rfl⟩ := hrel
    by_cases hlt : k < l.length
    · have hlti : (k : Int) < l.length := by omega
      obtain ⟨b, off, rfl, _, hc⟩ := hr.at hlt
      have hcell : (w.drewN d).cell? ⟨b, off + k, none⟩ = _ := hc k hlt
      have hby := getD_lt hl (by decide) k
      have HT : Hid (hexS (l.take (k + 1)) = hexS (l.take k) ++ ([sgn (l.getD k 0 / 16)] ++ [sgn (l.getD k 0 % 16)])) := Lib.hid (by rw [take_snoc l k hlt, hexS_append]; rfl)
      have hsz : (strN (hexS (l.take k))).size ≤ 200 := by rw [strN_size, hexS_length, List.length_take]; omega
      generalize l.getD k 0 = c at hcell hby HT
      generalize hexS (l.take k) = T at HT hsz
      have q1 : (c : Int) / 16 = ((c / 16 : Nat) : Int) := by omega
      have q2 : (c : Int) % 16 = ((c % 16 : Nat) : Int) := by omega
      have hd1 : c / 16 < 16 := by omega
      have hd2 : c % 16 < 16 := Nat.mod_lt _ (by decide)
      generalize c / 16 = h1 at q1 HT hd1
      generalize c % 16 = h2 at q2 HT hd2
      clear hc
      generalize hw5 : w.drewN d = w5 at hcell ⊢
      have HW5 := Lib.hid hw5; clear hw5
      go_wp2_with fail
      go_quiet (fail)
      go_wp2
      go_roundw
      case rel =>
        refine ⟨k + 1, by omega, by go_num, ?_, d + nq, by rw [← HW5.out, World.drewN_drewN]⟩
        rw [HT.out, ← strN_append, ← strN_append, ← sign_ext h1 hd1, ← sign_ext h2 hd2]
        rfl
      case measure => simp [intOf]; omega
    · obtain rfl : k = l.length := by omega
      rw [List.take_length]
      go_wp2
      go_ret
      exact ⟨rfl, d, rfl⟩

end Go.Proofs.YtjhipfgmiilmdaaDoor
