/- Sure: the files that are sure, by their names. -/
import Derived.Test.YtmjpckodcafjiaaDskV
namespace Go.Proofs.Ytmjpckodcafjiaa
open Go.RowKit

/-- Files by their names, sorted. -/
def fsort (l : Fm (List Nat)) : List (Nm × List Nat) := (srt (l.map (·.1))).map fun n => (n, (fget l n).getD [])
theorem fsort_length (l : Fm (List Nat)) : (fsort l).length = l.length := by unfold fsort; rw [List.length_map, srt_length, List.length_map]

end Go.Proofs.Ytmjpckodcafjiaa
