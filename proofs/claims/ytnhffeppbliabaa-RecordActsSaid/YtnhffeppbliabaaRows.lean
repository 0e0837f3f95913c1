/-
  No cell of these rows narrows 'for every input' (looked for: loops, veiled, ifaces, maps, wideKeys, modest, calm, conditions, laid).
  DERIVED. THE GIVEN ROWS OF THIS SEAT. 5 by the template 'for every input the law returns true; each argument reads behind the call as it read before'; 0 by the template 'total and deterministic' (their statements: YtnhffeppbliabaaTotals.lean).
  GIVEN WITH THE SEED: the statements are not yours to turn. If you find one false, say at which input.
  Laid BY PROGRAM, IN A SANDBOX (cutbox-rows.mjs): the forced cells as the released guide's own fill.sh prints them over the translation e636674ca39c3003… (all of the seat's roots in one cut). By AI agents, Wed Nov 11 2026. No macro, syntax, notation, axiom, sorry.
-/
import Derived.Test.YtnhffeppbliabaaChecked
import GoSem.Claim
import GoSem.ClaimJoined
import GoSem.ClaimMapViews
import Derived.JoinedTies
import Derived.KernelRfl
namespace Go.Proofs.Ytnhffeppbliabaa
/- THE CELL 'sum', in the pinned program and in every row, IS THE sha256 OF THE DUMP (.gsa) THAT YtnhffeppbliabaaProg.lean LOADS. Nothing in Lean hashes anything: it is a label: what it is worth is what the hold of that sum in a sandbox is worth. -/
noncomputable def Try.pinned : Pinned := { name := "ytnhffeppbliabaa", sum := "e636674ca39c30033c58713514ebf33c991f8ec1cf86c238ba5186edf0f46c14", checked := Try.checked }
namespace Rows
def none {H : Type} : Left H := { results := [], args := [] }

/-- 'holdfastlaw08.UnitPlays': WHATEVER THE INPUT: true; the input reads as it did. -/
def unitPlaysSpec : ChangeSpec := { name := "unitPlays", fn := fun _ => fun
  | [d] => { results := [.lit (.bool true)], args := [d] }
  | _ => none }
def unitPlaysRow : OpenClaim := { program := "ytnhffeppbliabaa", sum := "e636674ca39c30033c58713514ebf33c991f8ec1cf86c238ba5186edf0f46c14", func := "holdfast/holdfastlaw08.UnitPlays", spec := "unitPlays", unfollowed := true, recurses := true, apart := false }
def UnitPlaysSaid : Prop := unitPlaysRow.holds Try.pinned (OpenSpec.ofChange unitPlaysSpec)

/-- ITS FALSE NEIGHBOUR: 'it returns false'. Refute it at one input. -/
def unitPlaysWrong : ChangeSpec := { name := "unitPlays", fn := fun _ => fun
  | [d] => { results := [.lit (.bool false)], args := [d] }
  | _ => none }
def UnitPlaysWrongFalsely : Prop := unitPlaysRow.holds Try.pinned (OpenSpec.ofChange unitPlaysWrong)

/-- 'holdfastlaw08.UnitMakes': WHATEVER THE INPUT: true; the input reads as it did. -/
def unitMakesSpec : ChangeSpec := { name := "unitMakes", fn := fun _ => fun
  | [d1, d2, d3] => { results := [.lit (.bool true)], args := [d1, d2, d3] }
  | _ => none }
def unitMakesRow : OpenClaim := { program := "ytnhffeppbliabaa", sum := "e636674ca39c30033c58713514ebf33c991f8ec1cf86c238ba5186edf0f46c14", func := "holdfast/holdfastlaw08.UnitMakes", spec := "unitMakes", inPlace := ["maps.clone"], unfollowed := true, recurses := true, apart := false }
def UnitMakesSaid : Prop := unitMakesRow.holds Try.pinned (OpenSpec.ofChange unitMakesSpec)

/-- ITS FALSE NEIGHBOUR: 'it returns false'. Refute it at one input. -/
def unitMakesWrong : ChangeSpec := { name := "unitMakes", fn := fun _ => fun
  | [d1, d2, d3] => { results := [.lit (.bool false)], args := [d1, d2, d3] }
  | _ => none }
def UnitMakesWrongFalsely : Prop := unitMakesRow.holds Try.pinned (OpenSpec.ofChange unitMakesWrong)

/-- 'holdfastlaw08.UnitOnce': WHATEVER THE INPUT: true; the input reads as it did. -/
def unitOnceSpec : ChangeSpec := { name := "unitOnce", fn := fun _ => fun
  | [d] => { results := [.lit (.bool true)], args := [d] }
  | _ => none }
def unitOnceRow : OpenClaim := { program := "ytnhffeppbliabaa", sum := "e636674ca39c30033c58713514ebf33c991f8ec1cf86c238ba5186edf0f46c14", func := "holdfast/holdfastlaw08.UnitOnce", spec := "unitOnce", inPlace := ["maps.clone"], unfollowed := true, recurses := true, apart := false }
def UnitOnceSaid : Prop := unitOnceRow.holds Try.pinned (OpenSpec.ofChange unitOnceSpec)

/-- ITS FALSE NEIGHBOUR: 'it returns false'. Refute it at one input. -/
def unitOnceWrong : ChangeSpec := { name := "unitOnce", fn := fun _ => fun
  | [d] => { results := [.lit (.bool false)], args := [d] }
  | _ => none }
def UnitOnceWrongFalsely : Prop := unitOnceRow.holds Try.pinned (OpenSpec.ofChange unitOnceWrong)

/-- 'holdfastlaw08.UnitTails': WHATEVER THE INPUT: true; the input reads as it did. -/
def unitTailsSpec : ChangeSpec := { name := "unitTails", fn := fun _ => fun
  | [d] => { results := [.lit (.bool true)], args := [d] }
  | _ => none }
def unitTailsRow : OpenClaim := { program := "ytnhffeppbliabaa", sum := "e636674ca39c30033c58713514ebf33c991f8ec1cf86c238ba5186edf0f46c14", func := "holdfast/holdfastlaw08.UnitTails", spec := "unitTails", unfollowed := true, recurses := true, apart := false }
def UnitTailsSaid : Prop := unitTailsRow.holds Try.pinned (OpenSpec.ofChange unitTailsSpec)

/-- ITS FALSE NEIGHBOUR: 'it returns false'. Refute it at one input. -/
def unitTailsWrong : ChangeSpec := { name := "unitTails", fn := fun _ => fun
  | [d] => { results := [.lit (.bool false)], args := [d] }
  | _ => none }
def UnitTailsWrongFalsely : Prop := unitTailsRow.holds Try.pinned (OpenSpec.ofChange unitTailsWrong)

/-- 'holdfastlaw09.RecordActs': WHATEVER THE INPUT: true; the input reads as it did. -/
def recordActsSpec : ChangeSpec := { name := "recordActs", fn := fun _ => fun
  | [d1, d2] => { results := [.lit (.bool true)], args := [d1, d2] }
  | _ => none }
def recordActsRow : OpenClaim := { program := "ytnhffeppbliabaa", sum := "e636674ca39c30033c58713514ebf33c991f8ec1cf86c238ba5186edf0f46c14", func := "holdfast/holdfastlaw09.RecordActs", spec := "recordActs", inPlace := ["sync/atomic.AddInt64", "sync/atomic.LoadUint32", "(*internal/sync.Mutex).Lock", "internal/race.Disable", "sync/atomic.CompareAndSwapInt32", "internal/race.Enable", "internal/race.Acquire", "(*internal/sync.Mutex).lockSlow", "internal/sync.runtime_canSpin", "internal/sync.runtime_doSpin", "internal/sync.throw", "internal/sync.runtime_nanotime", "internal/sync.runtime_SemacquireMutex", "sync/atomic.AddInt32", "(*internal/sync.Mutex).Unlock", "internal/race.ReleaseMerge", "(*internal/sync.Mutex).unlockSlow", "internal/sync.fatal", "internal/sync.runtime_Semrelease", "sync/atomic.StoreUint32"], unfollowed := true, recurses := true, apart := false }
def RecordActsSaid : Prop := recordActsRow.holds Try.pinned (OpenSpec.ofChange recordActsSpec)

/-- ITS FALSE NEIGHBOUR: 'it returns false'. Refute it at one input. -/
def recordActsWrong : ChangeSpec := { name := "recordActs", fn := fun _ => fun
  | [d1, d2] => { results := [.lit (.bool false)], args := [d1, d2] }
  | _ => none }
def RecordActsWrongFalsely : Prop := recordActsRow.holds Try.pinned (OpenSpec.ofChange recordActsWrong)

/- THE SECOND FORM. 'bulk': how many values and letters a reading holds, each counted each time it is reached (what is shared counts as often as it is met; a slice's spare places count too). A statement '..UptoSaid' is the law's where the arguments, and the package variables that the reading takes, are together of bulk at most 1048576: NARROWER than '..Said'. Prove '..Said' where nothing that the law and all that it calls make is longer than what came in: it says more and counts as full. Else prove '..UptoSaid'. A law counts once. -/
mutual
def uptoBulk {H : Type} : DataW H → Nat
  | .lit (.string bytes) => bytes.length + 1
  | .lit _ => 1
  | .nil => 1
  | .ptr d => uptoBulk d + 1
  | .slice elems spare => uptoBulkAll elems + uptoBulkAll spare + 1
  | .agg parts => uptoBulkAll parts + 1
  | .iface _ d => uptoBulk d + 1
  | .map entries => uptoBulkEntries entries + 1
  | .held _ => 1
def uptoBulkAll {H : Type} : List (DataW H) → Nat
  | [] => 0
  | d :: r => uptoBulk d + uptoBulkAll r
def uptoBulkEntries {H : Type} : List (Lit × DataW H) → Nat
  | [] => 0
  | x :: r => uptoBulkEntry x + uptoBulkEntries r
def uptoBulkEntry {H : Type} : Lit × DataW H → Nat
  | (.string bytes, d) => bytes.length + uptoBulk d + 1
  | (_, d) => uptoBulk d + 1
 end
def uptoSmall : (H : Type) → List (DataW H) → Bool := fun _ ds => decide (uptoBulkAll ds ≤ 1048576)
def OpenSpec.upto (s : _root_.Go.ChangeSpec) : _root_.Go.OpenSpec := { _root_.Go.OpenSpec.ofChange s with cond := some uptoSmall }

/-- 'holdfastlaw08.UnitPlays', WHERE WHAT IT READS IS OF BULK AT MOST 1048576: true; the input reads as it did. -/
def unitPlaysUptoRow : OpenClaim := { program := "ytnhffeppbliabaa", sum := "e636674ca39c30033c58713514ebf33c991f8ec1cf86c238ba5186edf0f46c14", func := "holdfast/holdfastlaw08.UnitPlays", spec := "unitPlays", unfollowed := true, recurses := true, apart := false, narrowed := true }
def UnitPlaysUptoSaid : Prop := unitPlaysUptoRow.holds Try.pinned (OpenSpec.upto unitPlaysSpec)

/-- 'holdfastlaw08.UnitMakes', WHERE WHAT IT READS IS OF BULK AT MOST 1048576: true; the input reads as it did. -/
def unitMakesUptoRow : OpenClaim := { program := "ytnhffeppbliabaa", sum := "e636674ca39c30033c58713514ebf33c991f8ec1cf86c238ba5186edf0f46c14", func := "holdfast/holdfastlaw08.UnitMakes", spec := "unitMakes", inPlace := ["maps.clone"], unfollowed := true, recurses := true, apart := false, narrowed := true }
def UnitMakesUptoSaid : Prop := unitMakesUptoRow.holds Try.pinned (OpenSpec.upto unitMakesSpec)

/-- 'holdfastlaw08.UnitOnce', WHERE WHAT IT READS IS OF BULK AT MOST 1048576: true; the input reads as it did. -/
def unitOnceUptoRow : OpenClaim := { program := "ytnhffeppbliabaa", sum := "e636674ca39c30033c58713514ebf33c991f8ec1cf86c238ba5186edf0f46c14", func := "holdfast/holdfastlaw08.UnitOnce", spec := "unitOnce", inPlace := ["maps.clone"], unfollowed := true, recurses := true, apart := false, narrowed := true }
def UnitOnceUptoSaid : Prop := unitOnceUptoRow.holds Try.pinned (OpenSpec.upto unitOnceSpec)

/-- 'holdfastlaw08.UnitTails', WHERE WHAT IT READS IS OF BULK AT MOST 1048576: true; the input reads as it did. -/
def unitTailsUptoRow : OpenClaim := { program := "ytnhffeppbliabaa", sum := "e636674ca39c30033c58713514ebf33c991f8ec1cf86c238ba5186edf0f46c14", func := "holdfast/holdfastlaw08.UnitTails", spec := "unitTails", unfollowed := true, recurses := true, apart := false, narrowed := true }
def UnitTailsUptoSaid : Prop := unitTailsUptoRow.holds Try.pinned (OpenSpec.upto unitTailsSpec)

/-- 'holdfastlaw09.RecordActs', WHERE WHAT IT READS IS OF BULK AT MOST 1048576: true; the input reads as it did. -/
def recordActsUptoRow : OpenClaim := { program := "ytnhffeppbliabaa", sum := "e636674ca39c30033c58713514ebf33c991f8ec1cf86c238ba5186edf0f46c14", func := "holdfast/holdfastlaw09.RecordActs", spec := "recordActs", inPlace := ["sync/atomic.AddInt64", "sync/atomic.LoadUint32", "(*internal/sync.Mutex).Lock", "internal/race.Disable", "sync/atomic.CompareAndSwapInt32", "internal/race.Enable", "internal/race.Acquire", "(*internal/sync.Mutex).lockSlow", "internal/sync.runtime_canSpin", "internal/sync.runtime_doSpin", "internal/sync.throw", "internal/sync.runtime_nanotime", "internal/sync.runtime_SemacquireMutex", "sync/atomic.AddInt32", "(*internal/sync.Mutex).Unlock", "internal/race.ReleaseMerge", "(*internal/sync.Mutex).unlockSlow", "internal/sync.fatal", "internal/sync.runtime_Semrelease", "sync/atomic.StoreUint32"], unfollowed := true, recurses := true, apart := false, narrowed := true }
def RecordActsUptoSaid : Prop := recordActsUptoRow.holds Try.pinned (OpenSpec.upto recordActsSpec)

end Rows
end Go.Proofs.Ytnhffeppbliabaa
