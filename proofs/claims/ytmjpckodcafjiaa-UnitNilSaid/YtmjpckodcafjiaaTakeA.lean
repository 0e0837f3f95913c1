/- The contracts of Take and of the document's Take. -/
import Derived.Test.YtmjpckodcafjiaaRefA
import Derived.Deep.QuietTactic
import Derived.BigQuiet
namespace Go.Proofs.Ytmjpckodcafjiaa
open Go.RowKit

/-- What Take hands back beside the number and its size. -/
def formIf (ok : Bool) : Value := if ok then .nilIface else .iface 46 (.int .i64 2)

/-- What Take hands back. -/
def Took (b : List Nat) (w : World) (e : Ending) (w' : World) : Prop :=
  ∃ (n k : Nat) (ok : Bool), e = .returned (.tuple #[.int .u64 (n : Int), .int .i64 (k : Int), formIf ok]) ∧ Taken b n k (ok = true) ∧ w = w'

end Go.Proofs.Ytmjpckodcafjiaa
