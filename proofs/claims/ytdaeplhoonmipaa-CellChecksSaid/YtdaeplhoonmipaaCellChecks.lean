/- CellChecks, walked, whatever the kind. -/
import Derived.Test.YtdaeplhoonmipaaCellChkA
import Derived.Test.YtdaeplhoonmipaaCellChkB
import Derived.Test.YtdaeplhoonmipaaCellChkC
namespace Go.Proofs.Ytdaeplhoonmipaa
open Go.RowKit

theorem checks_walk (ka kb kd : Int) (va vb : Value) (da db : List Nat) (w : World) (ha : Reads w .u8 va da) (hb : Reads w .u8 vb db) (h8a : ∀ y ∈ da, y < 256) (h8b : ∀ y ∈ db, y < 256) :
    Calls Try.prog 3 #[.agg #[.int .i64 ka, va], .agg #[.int .i64 kb, vb], .int .i64 kd] w fun e w' => e = .returned (.bool true) ∧ Below w.heap.size w w' := by
  by_cases h0 : kd < 0
  · exact checks_low ka kb kd h0 va vb da db w ha hb h8a h8b
  by_cases h3 : 3 < kd
  · exact checks_high ka kb kd h3 va vb da db w ha hb h8a h8b
  obtain ⟨n, rfl⟩ : ∃ n : Nat, kd = (n : Int) := ⟨kd.toNat, by omega⟩
  exact checks_in ka kb n (by omega) va vb da db w ha hb h8a h8b

end Go.Proofs.Ytdaeplhoonmipaa
