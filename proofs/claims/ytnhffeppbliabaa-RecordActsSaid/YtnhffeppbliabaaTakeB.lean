/- The contract of the document's own Take. -/
import Derived.Test.YtnhffeppbliabaaTakeA
import Derived.Deep.RegionWith
namespace Go.Proofs.Ytnhffeppbliabaa
open Go.RowKit

/-- 64 bits of a number (kept behind a name). -/
def lo64 (n : Nat) : Nat := n % 18446744073709551616
theorem lo64_u64 (n : Nat) : U64 (lo64 n) := Nat.mod_lt _ (by decide)
theorem lo64_eq {n : Nat} (h : U64 n) : lo64 n = n := Nat.mod_eq_of_lt h
theorem lo64_zero : lo64 0 = 0 := rfl
theorem lo64_step (v x : Nat) : IntKind.u64.wrap (IntKind.u64.wrap ((lo64 v : Nat) * 128 : Int) + ((x : Int) % 128)) = ((lo64 (x % 128 + 128 * v) : Nat) : Int) := by
  unfold lo64
  rw [IntKind.wrap_u64, IntKind.wrap_u64]
  omega

theorem val_drop (b : List Nat) (k m : Nat) (hm : 1 ≤ m) (hk : m ≤ k) (hl : k ≤ b.length) : val ((b.take k).drop (m - 1)) = b.getD (m - 1) 0 % 128 + 128 * val ((b.take k).drop m) := by
  have h1 : m - 1 < (b.take k).length := by simp; omega
  rw [List.drop_eq_getElem_cons h1, show m - 1 + 1 = m from by omega, val]
  simp [List.getD, List.getElem?_eq_getElem (show m - 1 < b.length by omega)]

/-- Where the first byte below 128 is the k-th: the k bytes are a number's just where they are those of the number that they say, cut to 64 bits. -/
theorem lo64_taken {b : List Nat} {k : Nat} (hk1 : 1 ≤ k) (hk : k ≤ min b.length 10) (hge : ∀ j, j + 1 < k → 128 ≤ b.getD j 0) (hb : ∀ y ∈ b, y < 256) (hx : b.getD (k - 1) 0 < 128) :
    (enc (lo64 (val (b.take k))) = b.take k → enc (lo64 (val (b.take k))) <+: b ∧ k = (enc (lo64 (val (b.take k)))).length) ∧
    (enc (lo64 (val (b.take k))) ≠ b.take k → ∀ m, U64 m → ¬ enc m <+: b) := by
  constructor
  · intro h
    rw [h]
    exact ⟨List.take_prefix _ _, by rw [List.length_take]; omega⟩
  · intro h
    obtain ⟨k', rfl⟩ : ∃ k', k = k' + 1 := ⟨k - 1, by omega⟩
    have hst := taken_stop (b := b) (k := k') (by omega) (by omega) (fun j hj => hge j (by omega)) hb (by simpa using hx)
    by_cases hc : (k' = 0 ∨ b.getD k' 0 ≠ 0) ∧ (k' = 9 → b.getD k' 0 ≤ 1)
    · obtain ⟨s1, s2, s3⟩ := hst.1 hc
      exfalso
      apply h
      rw [lo64_eq s1]
      have h1 := List.prefix_iff_eq_take.1 s2
      rw [s3] at h1
      exact h1
    · exact hst.2 hc

/-- What the document's Take hands back. -/
def RefTook (b : List Nat) (w : World) (e : Ending) (w' : World) : Prop :=
  ∃ (n k : Nat) (ok : Bool), e = .returned (.tuple #[.int .u64 (n : Int), .int .i64 (k : Int), .int .i64 (if ok then 0 else 2)]) ∧ Taken b n k (ok = true) ∧ Below w.heap.size w w'

end Go.Proofs.Ytnhffeppbliabaa
