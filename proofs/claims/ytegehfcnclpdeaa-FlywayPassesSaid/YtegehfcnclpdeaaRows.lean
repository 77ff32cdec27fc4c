/-
  No cell of these rows narrows 'for every input' (looked for: loops, veiled, ifaces, maps, wideKeys, modest, calm, conditions, laid).
  DERIVED. THE GIVEN ROWS OF THIS SEAT. 11 by the template 'for every input the law returns true; each argument reads behind the call as it read before'; 0 by the template 'total and deterministic' (their statements: YtegehfcnclpdeaaTotals.lean).
  GIVEN WITH THE SEED: the statements are not yours to turn. If you find one false, say at which input.
  Laid BY PROGRAM, IN A SANDBOX (cutbox-rows.mjs): the forced cells as the released guide's own fill.sh prints them over the translation 98e87fe96c188a3f… (all of the seat's roots in one cut). By AI agents, Wed Nov 11 2026. No macro, syntax, notation, axiom, sorry.
-/
import Derived.Test.YtegehfcnclpdeaaChecked
import GoSem.Claim
import GoSem.ClaimJoined
import GoSem.ClaimMapViews
import Derived.JoinedTies
import Derived.KernelRfl
namespace Go.Proofs.Ytegehfcnclpdeaa
/- THE CELL 'sum', in the pinned program and in every row, IS THE sha256 OF THE DUMP (.gsa) THAT YtegehfcnclpdeaaProg.lean LOADS. Nothing in Lean hashes anything: it is a label: what it is worth is what the hold of that sum in a sandbox is worth. -/
noncomputable def Try.pinned : Pinned := { name := "ytegehfcnclpdeaa", sum := "98e87fe96c188a3f9bfb9ee33e9e69090864cc2cffe005f5668fe833aeb2429b", checked := Try.checked }
namespace Rows
def none {H : Type} : Left H := { results := [], args := [] }

/-- 'wigeonlaw07.FlywayPasses': WHATEVER THE INPUT: true; the input reads as it did. -/
def flywayPassesSpec : ChangeSpec := { name := "flywayPasses", fn := fun _ => fun
  | [d1, d2] => { results := [.lit (.bool true)], args := [d1, d2] }
  | _ => none }
def flywayPassesRow : OpenClaim := { program := "ytegehfcnclpdeaa", sum := "98e87fe96c188a3f9bfb9ee33e9e69090864cc2cffe005f5668fe833aeb2429b", func := "wigeon/wigeonlaw07.FlywayPasses", spec := "flywayPasses", unfollowed := true, recurses := true, apart := false }
def FlywayPassesSaid : Prop := flywayPassesRow.holds Try.pinned (OpenSpec.ofChange flywayPassesSpec)

/-- ITS FALSE NEIGHBOUR: 'it returns false'. Refute it at one input. -/
def flywayPassesWrong : ChangeSpec := { name := "flywayPasses", fn := fun _ => fun
  | [d1, d2] => { results := [.lit (.bool false)], args := [d1, d2] }
  | _ => none }
def FlywayPassesWrongFalsely : Prop := flywayPassesRow.holds Try.pinned (OpenSpec.ofChange flywayPassesWrong)

/-- 'wigeonlaw07.FlywayChances': WHATEVER THE INPUT: true; the input reads as it did. -/
def flywayChancesSpec : ChangeSpec := { name := "flywayChances", fn := fun _ => fun
  | [d1, d2, d3] => { results := [.lit (.bool true)], args := [d1, d2, d3] }
  | _ => none }
def flywayChancesRow : OpenClaim := { program := "ytegehfcnclpdeaa", sum := "98e87fe96c188a3f9bfb9ee33e9e69090864cc2cffe005f5668fe833aeb2429b", func := "wigeon/wigeonlaw07.FlywayChances", spec := "flywayChances", unfollowed := true, recurses := true, apart := false }
def FlywayChancesSaid : Prop := flywayChancesRow.holds Try.pinned (OpenSpec.ofChange flywayChancesSpec)

/-- ITS FALSE NEIGHBOUR: 'it returns false'. Refute it at one input. -/
def flywayChancesWrong : ChangeSpec := { name := "flywayChances", fn := fun _ => fun
  | [d1, d2, d3] => { results := [.lit (.bool false)], args := [d1, d2, d3] }
  | _ => none }
def FlywayChancesWrongFalsely : Prop := flywayChancesRow.holds Try.pinned (OpenSpec.ofChange flywayChancesWrong)

/-- 'wigeonlaw07.FlywayLeads': WHATEVER THE INPUT: true; the input reads as it did. -/
def flywayLeadsSpec : ChangeSpec := { name := "flywayLeads", fn := fun _ => fun
  | [d1, d2] => { results := [.lit (.bool true)], args := [d1, d2] }
  | _ => none }
def flywayLeadsRow : OpenClaim := { program := "ytegehfcnclpdeaa", sum := "98e87fe96c188a3f9bfb9ee33e9e69090864cc2cffe005f5668fe833aeb2429b", func := "wigeon/wigeonlaw07.FlywayLeads", spec := "flywayLeads", unfollowed := true, recurses := true, apart := false }
def FlywayLeadsSaid : Prop := flywayLeadsRow.holds Try.pinned (OpenSpec.ofChange flywayLeadsSpec)

/-- ITS FALSE NEIGHBOUR: 'it returns false'. Refute it at one input. -/
def flywayLeadsWrong : ChangeSpec := { name := "flywayLeads", fn := fun _ => fun
  | [d1, d2] => { results := [.lit (.bool false)], args := [d1, d2] }
  | _ => none }
def FlywayLeadsWrongFalsely : Prop := flywayLeadsRow.holds Try.pinned (OpenSpec.ofChange flywayLeadsWrong)

/-- 'wigeonlaw07.FlywayEnds': WHATEVER THE INPUT: true; the input reads as it did. -/
def flywayEndsSpec : ChangeSpec := { name := "flywayEnds", fn := fun _ => fun
  | [d1, d2] => { results := [.lit (.bool true)], args := [d1, d2] }
  | _ => none }
def flywayEndsRow : OpenClaim := { program := "ytegehfcnclpdeaa", sum := "98e87fe96c188a3f9bfb9ee33e9e69090864cc2cffe005f5668fe833aeb2429b", func := "wigeon/wigeonlaw07.FlywayEnds", spec := "flywayEnds", unfollowed := true, recurses := true, apart := false }
def FlywayEndsSaid : Prop := flywayEndsRow.holds Try.pinned (OpenSpec.ofChange flywayEndsSpec)

/-- ITS FALSE NEIGHBOUR: 'it returns false'. Refute it at one input. -/
def flywayEndsWrong : ChangeSpec := { name := "flywayEnds", fn := fun _ => fun
  | [d1, d2] => { results := [.lit (.bool false)], args := [d1, d2] }
  | _ => none }
def FlywayEndsWrongFalsely : Prop := flywayEndsRow.holds Try.pinned (OpenSpec.ofChange flywayEndsWrong)

/-- 'wigeonlaw07.FlywayTimes': WHATEVER THE INPUT: true; the input reads as it did. -/
def flywayTimesSpec : ChangeSpec := { name := "flywayTimes", fn := fun _ => fun
  | [d1, d2] => { results := [.lit (.bool true)], args := [d1, d2] }
  | _ => none }
def flywayTimesRow : OpenClaim := { program := "ytegehfcnclpdeaa", sum := "98e87fe96c188a3f9bfb9ee33e9e69090864cc2cffe005f5668fe833aeb2429b", func := "wigeon/wigeonlaw07.FlywayTimes", spec := "flywayTimes", unfollowed := true, recurses := true, apart := false }
def FlywayTimesSaid : Prop := flywayTimesRow.holds Try.pinned (OpenSpec.ofChange flywayTimesSpec)

/-- ITS FALSE NEIGHBOUR: 'it returns false'. Refute it at one input. -/
def flywayTimesWrong : ChangeSpec := { name := "flywayTimes", fn := fun _ => fun
  | [d1, d2] => { results := [.lit (.bool false)], args := [d1, d2] }
  | _ => none }
def FlywayTimesWrongFalsely : Prop := flywayTimesRow.holds Try.pinned (OpenSpec.ofChange flywayTimesWrong)

/-- 'wigeonlaw07.FlywayChecks': WHATEVER THE INPUT: true; the input reads as it did. -/
def flywayChecksSpec : ChangeSpec := { name := "flywayChecks", fn := fun _ => fun
  | [d1, d2] => { results := [.lit (.bool true)], args := [d1, d2] }
  | _ => none }
def flywayChecksRow : OpenClaim := { program := "ytegehfcnclpdeaa", sum := "98e87fe96c188a3f9bfb9ee33e9e69090864cc2cffe005f5668fe833aeb2429b", func := "wigeon/wigeonlaw07.FlywayChecks", spec := "flywayChecks", unfollowed := true, recurses := true, apart := false }
def FlywayChecksSaid : Prop := flywayChecksRow.holds Try.pinned (OpenSpec.ofChange flywayChecksSpec)

/-- ITS FALSE NEIGHBOUR: 'it returns false'. Refute it at one input. -/
def flywayChecksWrong : ChangeSpec := { name := "flywayChecks", fn := fun _ => fun
  | [d1, d2] => { results := [.lit (.bool false)], args := [d1, d2] }
  | _ => none }
def FlywayChecksWrongFalsely : Prop := flywayChecksRow.holds Try.pinned (OpenSpec.ofChange flywayChecksWrong)

/-- 'wigeonlaw07.FlywayTables': WHATEVER THE INPUT: true; the input reads as it did. -/
def flywayTablesSpec : ChangeSpec := { name := "flywayTables", fn := fun _ => fun
  | [d] => { results := [.lit (.bool true)], args := [d] }
  | _ => none }
def flywayTablesRow : OpenClaim := { program := "ytegehfcnclpdeaa", sum := "98e87fe96c188a3f9bfb9ee33e9e69090864cc2cffe005f5668fe833aeb2429b", func := "wigeon/wigeonlaw07.FlywayTables", spec := "flywayTables", unfollowed := true, recurses := true, apart := false }
def FlywayTablesSaid : Prop := flywayTablesRow.holds Try.pinned (OpenSpec.ofChange flywayTablesSpec)

/-- ITS FALSE NEIGHBOUR: 'it returns false'. Refute it at one input. -/
def flywayTablesWrong : ChangeSpec := { name := "flywayTables", fn := fun _ => fun
  | [d] => { results := [.lit (.bool false)], args := [d] }
  | _ => none }
def FlywayTablesWrongFalsely : Prop := flywayTablesRow.holds Try.pinned (OpenSpec.ofChange flywayTablesWrong)

/-- 'wigeonlaw07.FlywayClasses': WHATEVER THE INPUT: true; the input reads as it did. -/
def flywayClassesSpec : ChangeSpec := { name := "flywayClasses", fn := fun _ => fun
  | [d] => { results := [.lit (.bool true)], args := [d] }
  | _ => none }
def flywayClassesRow : OpenClaim := { program := "ytegehfcnclpdeaa", sum := "98e87fe96c188a3f9bfb9ee33e9e69090864cc2cffe005f5668fe833aeb2429b", func := "wigeon/wigeonlaw07.FlywayClasses", spec := "flywayClasses", unfollowed := true, recurses := true, apart := false }
def FlywayClassesSaid : Prop := flywayClassesRow.holds Try.pinned (OpenSpec.ofChange flywayClassesSpec)

/-- ITS FALSE NEIGHBOUR: 'it returns false'. Refute it at one input. -/
def flywayClassesWrong : ChangeSpec := { name := "flywayClasses", fn := fun _ => fun
  | [d] => { results := [.lit (.bool false)], args := [d] }
  | _ => none }
def FlywayClassesWrongFalsely : Prop := flywayClassesRow.holds Try.pinned (OpenSpec.ofChange flywayClassesWrong)

/-- 'wigeonlaw07.FlywayStill': WHATEVER THE INPUT: true; the input reads as it did. -/
def flywayStillSpec : ChangeSpec := { name := "flywayStill", fn := fun _ => fun
  | [d] => { results := [.lit (.bool true)], args := [d] }
  | _ => none }
def flywayStillRow : OpenClaim := { program := "ytegehfcnclpdeaa", sum := "98e87fe96c188a3f9bfb9ee33e9e69090864cc2cffe005f5668fe833aeb2429b", func := "wigeon/wigeonlaw07.FlywayStill", spec := "flywayStill", unfollowed := true, recurses := true, apart := false }
def FlywayStillSaid : Prop := flywayStillRow.holds Try.pinned (OpenSpec.ofChange flywayStillSpec)

/-- ITS FALSE NEIGHBOUR: 'it returns false'. Refute it at one input. -/
def flywayStillWrong : ChangeSpec := { name := "flywayStill", fn := fun _ => fun
  | [d] => { results := [.lit (.bool false)], args := [d] }
  | _ => none }
def FlywayStillWrongFalsely : Prop := flywayStillRow.holds Try.pinned (OpenSpec.ofChange flywayStillWrong)

/-- 'wigeonlaw07.FlywayReturns': WHATEVER THE INPUT: true; the input reads as it did. -/
def flywayReturnsSpec : ChangeSpec := { name := "flywayReturns", fn := fun _ => fun
  | [d1, d2] => { results := [.lit (.bool true)], args := [d1, d2] }
  | _ => none }
def flywayReturnsRow : OpenClaim := { program := "ytegehfcnclpdeaa", sum := "98e87fe96c188a3f9bfb9ee33e9e69090864cc2cffe005f5668fe833aeb2429b", func := "wigeon/wigeonlaw07.FlywayReturns", spec := "flywayReturns", unfollowed := true, recurses := true, apart := false }
def FlywayReturnsSaid : Prop := flywayReturnsRow.holds Try.pinned (OpenSpec.ofChange flywayReturnsSpec)

/-- ITS FALSE NEIGHBOUR: 'it returns false'. Refute it at one input. -/
def flywayReturnsWrong : ChangeSpec := { name := "flywayReturns", fn := fun _ => fun
  | [d1, d2] => { results := [.lit (.bool false)], args := [d1, d2] }
  | _ => none }
def FlywayReturnsWrongFalsely : Prop := flywayReturnsRow.holds Try.pinned (OpenSpec.ofChange flywayReturnsWrong)

/-- 'wigeonlaw07.FlywayRhythms': WHATEVER THE INPUT: true; the input reads as it did. -/
def flywayRhythmsSpec : ChangeSpec := { name := "flywayRhythms", fn := fun _ => fun
  | [d1, d2, d3] => { results := [.lit (.bool true)], args := [d1, d2, d3] }
  | _ => none }
def flywayRhythmsRow : OpenClaim := { program := "ytegehfcnclpdeaa", sum := "98e87fe96c188a3f9bfb9ee33e9e69090864cc2cffe005f5668fe833aeb2429b", func := "wigeon/wigeonlaw07.FlywayRhythms", spec := "flywayRhythms", unfollowed := true, recurses := true, apart := false }
def FlywayRhythmsSaid : Prop := flywayRhythmsRow.holds Try.pinned (OpenSpec.ofChange flywayRhythmsSpec)

/-- ITS FALSE NEIGHBOUR: 'it returns false'. Refute it at one input. -/
def flywayRhythmsWrong : ChangeSpec := { name := "flywayRhythms", fn := fun _ => fun
  | [d1, d2, d3] => { results := [.lit (.bool false)], args := [d1, d2, d3] }
  | _ => none }
def FlywayRhythmsWrongFalsely : Prop := flywayRhythmsRow.holds Try.pinned (OpenSpec.ofChange flywayRhythmsWrong)

/- THE SECOND FORM. 'bulk': how many values and letters a reading holds, each counted each time it is reached (what is shared counts as often as it is met; a slice's spare places count too). A statement '..UptoSaid' is the law's where the arguments, and the package variables that the reading takes, are together of bulk at most 1048576: NARROWER than '..Said'. Prove '..Said' where nothing that the law and all that it calls make is longer than what came in: it says more and counts as full. Else prove '..UptoSaid'. A law counts once. -/
mutual
def uptoBulk {H : Type} : DataW H → Nat
  | .lit (.string bytes) => bytes.length + 1
  | .lit _ => 1
  | .nil => 1
  | .ptr d => uptoBulk d + 1
  | .slice elems spare => uptoBulkAll elems + uptoBulkAll spare + 1
  | .agg parts => uptoBulkAll parts + 1
  | .iface _ d => uptoBulk d + 1
  | .map entries => uptoBulkEntries entries + 1
  | .held _ => 1
def uptoBulkAll {H : Type} : List (DataW H) → Nat
  | [] => 0
  | d :: r => uptoBulk d + uptoBulkAll r
def uptoBulkEntries {H : Type} : List (Lit × DataW H) → Nat
  | [] => 0
  | x :: r => uptoBulkEntry x + uptoBulkEntries r
def uptoBulkEntry {H : Type} : Lit × DataW H → Nat
  | (.string bytes, d) => bytes.length + uptoBulk d + 1
  | (_, d) => uptoBulk d + 1
 end
def uptoSmall : (H : Type) → List (DataW H) → Bool := fun _ ds => decide (uptoBulkAll ds ≤ 1048576)
def OpenSpec.upto (s : _root_.Go.ChangeSpec) : _root_.Go.OpenSpec := { _root_.Go.OpenSpec.ofChange s with cond := some uptoSmall }

/-- 'wigeonlaw07.FlywayPasses', WHERE WHAT IT READS IS OF BULK AT MOST 1048576: true; the input reads as it did. -/
def flywayPassesUptoRow : OpenClaim := { program := "ytegehfcnclpdeaa", sum := "98e87fe96c188a3f9bfb9ee33e9e69090864cc2cffe005f5668fe833aeb2429b", func := "wigeon/wigeonlaw07.FlywayPasses", spec := "flywayPasses", unfollowed := true, recurses := true, apart := false, narrowed := true }
def FlywayPassesUptoSaid : Prop := flywayPassesUptoRow.holds Try.pinned (OpenSpec.upto flywayPassesSpec)

/-- 'wigeonlaw07.FlywayChances', WHERE WHAT IT READS IS OF BULK AT MOST 1048576: true; the input reads as it did. -/
def flywayChancesUptoRow : OpenClaim := { program := "ytegehfcnclpdeaa", sum := "98e87fe96c188a3f9bfb9ee33e9e69090864cc2cffe005f5668fe833aeb2429b", func := "wigeon/wigeonlaw07.FlywayChances", spec := "flywayChances", unfollowed := true, recurses := true, apart := false, narrowed := true }
def FlywayChancesUptoSaid : Prop := flywayChancesUptoRow.holds Try.pinned (OpenSpec.upto flywayChancesSpec)

/-- 'wigeonlaw07.FlywayLeads', WHERE WHAT IT READS IS OF BULK AT MOST 1048576: true; the input reads as it did. -/
def flywayLeadsUptoRow : OpenClaim := { program := "ytegehfcnclpdeaa", sum := "98e87fe96c188a3f9bfb9ee33e9e69090864cc2cffe005f5668fe833aeb2429b", func := "wigeon/wigeonlaw07.FlywayLeads", spec := "flywayLeads", unfollowed := true, recurses := true, apart := false, narrowed := true }
def FlywayLeadsUptoSaid : Prop := flywayLeadsUptoRow.holds Try.pinned (OpenSpec.upto flywayLeadsSpec)

/-- 'wigeonlaw07.FlywayEnds', WHERE WHAT IT READS IS OF BULK AT MOST 1048576: true; the input reads as it did. -/
def flywayEndsUptoRow : OpenClaim := { program := "ytegehfcnclpdeaa", sum := "98e87fe96c188a3f9bfb9ee33e9e69090864cc2cffe005f5668fe833aeb2429b", func := "wigeon/wigeonlaw07.FlywayEnds", spec := "flywayEnds", unfollowed := true, recurses := true, apart := false, narrowed := true }
def FlywayEndsUptoSaid : Prop := flywayEndsUptoRow.holds Try.pinned (OpenSpec.upto flywayEndsSpec)

/-- 'wigeonlaw07.FlywayTimes', WHERE WHAT IT READS IS OF BULK AT MOST 1048576: true; the input reads as it did. -/
def flywayTimesUptoRow : OpenClaim := { program := "ytegehfcnclpdeaa", sum := "98e87fe96c188a3f9bfb9ee33e9e69090864cc2cffe005f5668fe833aeb2429b", func := "wigeon/wigeonlaw07.FlywayTimes", spec := "flywayTimes", unfollowed := true, recurses := true, apart := false, narrowed := true }
def FlywayTimesUptoSaid : Prop := flywayTimesUptoRow.holds Try.pinned (OpenSpec.upto flywayTimesSpec)

/-- 'wigeonlaw07.FlywayChecks', WHERE WHAT IT READS IS OF BULK AT MOST 1048576: true; the input reads as it did. -/
def flywayChecksUptoRow : OpenClaim := { program := "ytegehfcnclpdeaa", sum := "98e87fe96c188a3f9bfb9ee33e9e69090864cc2cffe005f5668fe833aeb2429b", func := "wigeon/wigeonlaw07.FlywayChecks", spec := "flywayChecks", unfollowed := true, recurses := true, apart := false, narrowed := true }
def FlywayChecksUptoSaid : Prop := flywayChecksUptoRow.holds Try.pinned (OpenSpec.upto flywayChecksSpec)

/-- 'wigeonlaw07.FlywayTables', WHERE WHAT IT READS IS OF BULK AT MOST 1048576: true; the input reads as it did. -/
def flywayTablesUptoRow : OpenClaim := { program := "ytegehfcnclpdeaa", sum := "98e87fe96c188a3f9bfb9ee33e9e69090864cc2cffe005f5668fe833aeb2429b", func := "wigeon/wigeonlaw07.FlywayTables", spec := "flywayTables", unfollowed := true, recurses := true, apart := false, narrowed := true }
def FlywayTablesUptoSaid : Prop := flywayTablesUptoRow.holds Try.pinned (OpenSpec.upto flywayTablesSpec)

/-- 'wigeonlaw07.FlywayClasses', WHERE WHAT IT READS IS OF BULK AT MOST 1048576: true; the input reads as it did. -/
def flywayClassesUptoRow : OpenClaim := { program := "ytegehfcnclpdeaa", sum := "98e87fe96c188a3f9bfb9ee33e9e69090864cc2cffe005f5668fe833aeb2429b", func := "wigeon/wigeonlaw07.FlywayClasses", spec := "flywayClasses", unfollowed := true, recurses := true, apart := false, narrowed := true }
def FlywayClassesUptoSaid : Prop := flywayClassesUptoRow.holds Try.pinned (OpenSpec.upto flywayClassesSpec)

/-- 'wigeonlaw07.FlywayStill', WHERE WHAT IT READS IS OF BULK AT MOST 1048576: true; the input reads as it did. -/
def flywayStillUptoRow : OpenClaim := { program := "ytegehfcnclpdeaa", sum := "98e87fe96c188a3f9bfb9ee33e9e69090864cc2cffe005f5668fe833aeb2429b", func := "wigeon/wigeonlaw07.FlywayStill", spec := "flywayStill", unfollowed := true, recurses := true, apart := false, narrowed := true }
def FlywayStillUptoSaid : Prop := flywayStillUptoRow.holds Try.pinned (OpenSpec.upto flywayStillSpec)

/-- 'wigeonlaw07.FlywayReturns', WHERE WHAT IT READS IS OF BULK AT MOST 1048576: true; the input reads as it did. -/
def flywayReturnsUptoRow : OpenClaim := { program := "ytegehfcnclpdeaa", sum := "98e87fe96c188a3f9bfb9ee33e9e69090864cc2cffe005f5668fe833aeb2429b", func := "wigeon/wigeonlaw07.FlywayReturns", spec := "flywayReturns", unfollowed := true, recurses := true, apart := false, narrowed := true }
def FlywayReturnsUptoSaid : Prop := flywayReturnsUptoRow.holds Try.pinned (OpenSpec.upto flywayReturnsSpec)

/-- 'wigeonlaw07.FlywayRhythms', WHERE WHAT IT READS IS OF BULK AT MOST 1048576: true; the input reads as it did. -/
def flywayRhythmsUptoRow : OpenClaim := { program := "ytegehfcnclpdeaa", sum := "98e87fe96c188a3f9bfb9ee33e9e69090864cc2cffe005f5668fe833aeb2429b", func := "wigeon/wigeonlaw07.FlywayRhythms", spec := "flywayRhythms", unfollowed := true, recurses := true, apart := false, narrowed := true }
def FlywayRhythmsUptoSaid : Prop := flywayRhythmsUptoRow.holds Try.pinned (OpenSpec.upto flywayRhythmsSpec)

end Rows
end Go.Proofs.Ytegehfcnclpdeaa
