/-
  No cell of these rows narrows 'for every input' (looked for: loops, veiled, ifaces, maps, wideKeys, modest, calm, conditions, laid).
  DERIVED. THE GIVEN ROWS OF THIS SEAT. 6 by the template 'for every input the law returns true; each argument reads behind the call as it read before'; 0 by the template 'total and deterministic' (their statements: YtmjpckodcafjiaaTotals.lean).
  GIVEN WITH THE SEED: the statements are not yours to turn. If you find one false, say at which input.
  Laid BY PROGRAM, IN A SANDBOX (cutbox-rows.mjs): the forced cells as the released guide's own fill.sh prints them over the translation d3b8457cf34516c2… (all of the seat's roots in one cut). By AI agents, Wed Nov 11 2026. No macro, syntax, notation, axiom, sorry.
-/
import Derived.Test.YtmjpckodcafjiaaChecked
import GoSem.Claim
import GoSem.ClaimJoined
import GoSem.ClaimMapViews
import Derived.JoinedTies
import Derived.KernelRfl
namespace Go.Proofs.Ytmjpckodcafjiaa
/- THE CELL 'sum', in the pinned program and in every row, IS THE sha256 OF THE DUMP (.gsa) THAT YtmjpckodcafjiaaProg.lean LOADS. Nothing in Lean hashes anything: it is a label: what it is worth is what the hold of that sum in a sandbox is worth. -/
noncomputable def Try.pinned : Pinned := { name := "ytmjpckodcafjiaa", sum := "d3b8457cf34516c24bac802507c1b2ce249c8bc063a3ecc9df33b2c609ec841f", checked := Try.checked }
namespace Rows
def none {H : Type} : Left H := { results := [], args := [] }

/-- 'holdfastlaw07.StoreWhole': WHATEVER THE INPUT: true; the input reads as it did. -/
def storeWholeSpec : ChangeSpec := { name := "storeWhole", fn := fun _ => fun
  | [d1, d2, d3] => { results := [.lit (.bool true)], args := [d1, d2, d3] }
  | _ => none }
def storeWholeRow : OpenClaim := { program := "ytmjpckodcafjiaa", sum := "d3b8457cf34516c24bac802507c1b2ce249c8bc063a3ecc9df33b2c609ec841f", func := "holdfast/holdfastlaw07.StoreWhole", spec := "storeWhole", inPlace := ["internal/bytealg.IndexByteString", "internal/bytealg.IndexString", "maps.clone"], unfollowed := true, recurses := true, named := ["internal/bytealg.MaxLen"], apart := false }
def StoreWholeSaid : Prop := storeWholeRow.holds Try.pinned (OpenSpec.ofChange storeWholeSpec)

/-- ITS FALSE NEIGHBOUR: 'it returns false'. Refute it at one input. -/
def storeWholeWrong : ChangeSpec := { name := "storeWhole", fn := fun _ => fun
  | [d1, d2, d3] => { results := [.lit (.bool false)], args := [d1, d2, d3] }
  | _ => none }
def StoreWholeWrongFalsely : Prop := storeWholeRow.holds Try.pinned (OpenSpec.ofChange storeWholeWrong)

/-- 'holdfastlaw08.UnitPlays': WHATEVER THE INPUT: true; the input reads as it did. -/
def unitPlaysSpec : ChangeSpec := { name := "unitPlays", fn := fun _ => fun
  | [d] => { results := [.lit (.bool true)], args := [d] }
  | _ => none }
def unitPlaysRow : OpenClaim := { program := "ytmjpckodcafjiaa", sum := "d3b8457cf34516c24bac802507c1b2ce249c8bc063a3ecc9df33b2c609ec841f", func := "holdfast/holdfastlaw08.UnitPlays", spec := "unitPlays", unfollowed := true, recurses := true, apart := false }
def UnitPlaysSaid : Prop := unitPlaysRow.holds Try.pinned (OpenSpec.ofChange unitPlaysSpec)

/-- ITS FALSE NEIGHBOUR: 'it returns false'. Refute it at one input. -/
def unitPlaysWrong : ChangeSpec := { name := "unitPlays", fn := fun _ => fun
  | [d] => { results := [.lit (.bool false)], args := [d] }
  | _ => none }
def UnitPlaysWrongFalsely : Prop := unitPlaysRow.holds Try.pinned (OpenSpec.ofChange unitPlaysWrong)

/-- 'holdfastlaw08.UnitMakes': WHATEVER THE INPUT: true; the input reads as it did. -/
def unitMakesSpec : ChangeSpec := { name := "unitMakes", fn := fun _ => fun
  | [d1, d2, d3] => { results := [.lit (.bool true)], args := [d1, d2, d3] }
  | _ => none }
def unitMakesRow : OpenClaim := { program := "ytmjpckodcafjiaa", sum := "d3b8457cf34516c24bac802507c1b2ce249c8bc063a3ecc9df33b2c609ec841f", func := "holdfast/holdfastlaw08.UnitMakes", spec := "unitMakes", inPlace := ["maps.clone"], unfollowed := true, recurses := true, apart := false }
def UnitMakesSaid : Prop := unitMakesRow.holds Try.pinned (OpenSpec.ofChange unitMakesSpec)

/-- ITS FALSE NEIGHBOUR: 'it returns false'. Refute it at one input. -/
def unitMakesWrong : ChangeSpec := { name := "unitMakes", fn := fun _ => fun
  | [d1, d2, d3] => { results := [.lit (.bool false)], args := [d1, d2, d3] }
  | _ => none }
def UnitMakesWrongFalsely : Prop := unitMakesRow.holds Try.pinned (OpenSpec.ofChange unitMakesWrong)

/-- 'holdfastlaw08.UnitNil': WHATEVER THE INPUT: true; the input reads as it did. -/
def unitNilSpec : ChangeSpec := { name := "unitNil", fn := fun _ => fun
  | [d1, d2, d3] => { results := [.lit (.bool true)], args := [d1, d2, d3] }
  | _ => none }
def unitNilRow : OpenClaim := { program := "ytmjpckodcafjiaa", sum := "d3b8457cf34516c24bac802507c1b2ce249c8bc063a3ecc9df33b2c609ec841f", func := "holdfast/holdfastlaw08.UnitNil", spec := "unitNil", inPlace := ["maps.clone"], unfollowed := true, recurses := true, apart := false }
def UnitNilSaid : Prop := unitNilRow.holds Try.pinned (OpenSpec.ofChange unitNilSpec)

/-- ITS FALSE NEIGHBOUR: 'it returns false'. Refute it at one input. -/
def unitNilWrong : ChangeSpec := { name := "unitNil", fn := fun _ => fun
  | [d1, d2, d3] => { results := [.lit (.bool false)], args := [d1, d2, d3] }
  | _ => none }
def UnitNilWrongFalsely : Prop := unitNilRow.holds Try.pinned (OpenSpec.ofChange unitNilWrong)

/-- 'holdfastlaw08.UnitOnce': WHATEVER THE INPUT: true; the input reads as it did. -/
def unitOnceSpec : ChangeSpec := { name := "unitOnce", fn := fun _ => fun
  | [d] => { results := [.lit (.bool true)], args := [d] }
  | _ => none }
def unitOnceRow : OpenClaim := { program := "ytmjpckodcafjiaa", sum := "d3b8457cf34516c24bac802507c1b2ce249c8bc063a3ecc9df33b2c609ec841f", func := "holdfast/holdfastlaw08.UnitOnce", spec := "unitOnce", inPlace := ["maps.clone"], unfollowed := true, recurses := true, apart := false }
def UnitOnceSaid : Prop := unitOnceRow.holds Try.pinned (OpenSpec.ofChange unitOnceSpec)

/-- ITS FALSE NEIGHBOUR: 'it returns false'. Refute it at one input. -/
def unitOnceWrong : ChangeSpec := { name := "unitOnce", fn := fun _ => fun
  | [d] => { results := [.lit (.bool false)], args := [d] }
  | _ => none }
def UnitOnceWrongFalsely : Prop := unitOnceRow.holds Try.pinned (OpenSpec.ofChange unitOnceWrong)

/-- 'holdfastlaw08.UnitTails': WHATEVER THE INPUT: true; the input reads as it did. -/
def unitTailsSpec : ChangeSpec := { name := "unitTails", fn := fun _ => fun
  | [d] => { results := [.lit (.bool true)], args := [d] }
  | _ => none }
def unitTailsRow : OpenClaim := { program := "ytmjpckodcafjiaa", sum := "d3b8457cf34516c24bac802507c1b2ce249c8bc063a3ecc9df33b2c609ec841f", func := "holdfast/holdfastlaw08.UnitTails", spec := "unitTails", unfollowed := true, recurses := true, apart := false }
def UnitTailsSaid : Prop := unitTailsRow.holds Try.pinned (OpenSpec.ofChange unitTailsSpec)

/-- ITS FALSE NEIGHBOUR: 'it returns false'. Refute it at one input. -/
def unitTailsWrong : ChangeSpec := { name := "unitTails", fn := fun _ => fun
  | [d] => { results := [.lit (.bool false)], args := [d] }
  | _ => none }
def UnitTailsWrongFalsely : Prop := unitTailsRow.holds Try.pinned (OpenSpec.ofChange unitTailsWrong)

/- THE SECOND FORM. 'bulk': how many values and letters a reading holds, each counted each time it is reached (what is shared counts as often as it is met; a slice's spare places count too). A statement '..UptoSaid' is the law's where the arguments, and the package variables that the reading takes, are together of bulk at most 1048576: NARROWER than '..Said'. Prove '..Said' where nothing that the law and all that it calls make is longer than what came in: it says more and counts as full. Else prove '..UptoSaid'. A law counts once. -/
mutual
def uptoBulk {H : Type} : DataW H → Nat
  | .lit (.string bytes) => bytes.length + 1
  | .lit _ => 1
  | .nil => 1
  | .ptr d => uptoBulk d + 1
  | .slice elems spare => uptoBulkAll elems + uptoBulkAll spare + 1
  | .agg parts => uptoBulkAll parts + 1
  | .iface _ d => uptoBulk d + 1
  | .map entries => uptoBulkEntries entries + 1
  | .held _ => 1
def uptoBulkAll {H : Type} : List (DataW H) → Nat
  | [] => 0
  | d :: r => uptoBulk d + uptoBulkAll r
def uptoBulkEntries {H : Type} : List (Lit × DataW H) → Nat
  | [] => 0
  | x :: r => uptoBulkEntry x + uptoBulkEntries r
def uptoBulkEntry {H : Type} : Lit × DataW H → Nat
  | (.string bytes, d) => bytes.length + uptoBulk d + 1
  | (_, d) => uptoBulk d + 1
 end
def uptoSmall : (H : Type) → List (DataW H) → Bool := fun _ ds => decide (uptoBulkAll ds ≤ 1048576)
def OpenSpec.upto (s : _root_.Go.ChangeSpec) : _root_.Go.OpenSpec := { _root_.Go.OpenSpec.ofChange s with cond := some uptoSmall }

/-- 'holdfastlaw07.StoreWhole', WHERE WHAT IT READS IS OF BULK AT MOST 1048576: true; the input reads as it did. -/
def storeWholeUptoRow : OpenClaim := { program := "ytmjpckodcafjiaa", sum := "d3b8457cf34516c24bac802507c1b2ce249c8bc063a3ecc9df33b2c609ec841f", func := "holdfast/holdfastlaw07.StoreWhole", spec := "storeWhole", inPlace := ["internal/bytealg.IndexByteString", "internal/bytealg.IndexString", "maps.clone"], unfollowed := true, recurses := true, named := ["internal/bytealg.MaxLen"], apart := false, narrowed := true }
def StoreWholeUptoSaid : Prop := storeWholeUptoRow.holds Try.pinned (OpenSpec.upto storeWholeSpec)

/-- 'holdfastlaw08.UnitPlays', WHERE WHAT IT READS IS OF BULK AT MOST 1048576: true; the input reads as it did. -/
def unitPlaysUptoRow : OpenClaim := { program := "ytmjpckodcafjiaa", sum := "d3b8457cf34516c24bac802507c1b2ce249c8bc063a3ecc9df33b2c609ec841f", func := "holdfast/holdfastlaw08.UnitPlays", spec := "unitPlays", unfollowed := true, recurses := true, apart := false, narrowed := true }
def UnitPlaysUptoSaid : Prop := unitPlaysUptoRow.holds Try.pinned (OpenSpec.upto unitPlaysSpec)

/-- 'holdfastlaw08.UnitMakes', WHERE WHAT IT READS IS OF BULK AT MOST 1048576: true; the input reads as it did. -/
def unitMakesUptoRow : OpenClaim := { program := "ytmjpckodcafjiaa", sum := "d3b8457cf34516c24bac802507c1b2ce249c8bc063a3ecc9df33b2c609ec841f", func := "holdfast/holdfastlaw08.UnitMakes", spec := "unitMakes", inPlace := ["maps.clone"], unfollowed := true, recurses := true, apart := false, narrowed := true }
def UnitMakesUptoSaid : Prop := unitMakesUptoRow.holds Try.pinned (OpenSpec.upto unitMakesSpec)

/-- 'holdfastlaw08.UnitNil', WHERE WHAT IT READS IS OF BULK AT MOST 1048576: true; the input reads as it did. -/
def unitNilUptoRow : OpenClaim := { program := "ytmjpckodcafjiaa", sum := "d3b8457cf34516c24bac802507c1b2ce249c8bc063a3ecc9df33b2c609ec841f", func := "holdfast/holdfastlaw08.UnitNil", spec := "unitNil", inPlace := ["maps.clone"], unfollowed := true, recurses := true, apart := false, narrowed := true }
def UnitNilUptoSaid : Prop := unitNilUptoRow.holds Try.pinned (OpenSpec.upto unitNilSpec)

/-- 'holdfastlaw08.UnitOnce', WHERE WHAT IT READS IS OF BULK AT MOST 1048576: true; the input reads as it did. -/
def unitOnceUptoRow : OpenClaim := { program := "ytmjpckodcafjiaa", sum := "d3b8457cf34516c24bac802507c1b2ce249c8bc063a3ecc9df33b2c609ec841f", func := "holdfast/holdfastlaw08.UnitOnce", spec := "unitOnce", inPlace := ["maps.clone"], unfollowed := true, recurses := true, apart := false, narrowed := true }
def UnitOnceUptoSaid : Prop := unitOnceUptoRow.holds Try.pinned (OpenSpec.upto unitOnceSpec)

/-- 'holdfastlaw08.UnitTails', WHERE WHAT IT READS IS OF BULK AT MOST 1048576: true; the input reads as it did. -/
def unitTailsUptoRow : OpenClaim := { program := "ytmjpckodcafjiaa", sum := "d3b8457cf34516c24bac802507c1b2ce249c8bc063a3ecc9df33b2c609ec841f", func := "holdfast/holdfastlaw08.UnitTails", spec := "unitTails", unfollowed := true, recurses := true, apart := false, narrowed := true }
def UnitTailsUptoSaid : Prop := unitTailsUptoRow.holds Try.pinned (OpenSpec.upto unitTailsSpec)

end Rows
end Go.Proofs.Ytmjpckodcafjiaa
