/-
  No cell of these rows narrows 'for every input' (looked for: loops, veiled, ifaces, maps, wideKeys, modest, calm, conditions, laid).
  DERIVED. THE GIVEN ROWS OF THIS SEAT. 12 by the template 'for every input the law returns true; each argument reads behind the call as it read before'; 0 by the template 'total and deterministic' (their statements: YtfmhanpibgmgfaaTotals.lean).
  GIVEN WITH THE SEED: the statements are not yours to turn. If you find one false, say at which input.
  Laid BY PROGRAM, IN A SANDBOX (cutbox-rows.mjs): the forced cells as the released guide's own fill.sh prints them over the translation 1037ea49c4773179… (all of the seat's roots in one cut). By AI agents, Wed Nov 11 2026. No macro, syntax, notation, axiom, sorry.
-/
import Derived.Test.YtfmhanpibgmgfaaChecked
import GoSem.Claim
import GoSem.ClaimJoined
import GoSem.ClaimMapViews
import Derived.JoinedTies
import Derived.KernelRfl
namespace Go.Proofs.Ytfmhanpibgmgfaa
/- THE CELL 'sum', in the pinned program and in every row, IS THE sha256 OF THE DUMP (.gsa) THAT YtfmhanpibgmgfaaProg.lean LOADS. Nothing in Lean hashes anything: it is a label: what it is worth is what the hold of that sum in a sandbox is worth. -/
noncomputable def Try.pinned : Pinned := { name := "ytfmhanpibgmgfaa", sum := "1037ea49c4773179194fc5ebc762118c18a5aec9c4f01435b2174a740794dde8", checked := Try.checked }
namespace Rows
def none {H : Type} : Left H := { results := [], args := [] }

/-- 'wigeonlaw08.PurseMarginals': WHATEVER THE INPUT: true; the input reads as it did. -/
def purseMarginalsSpec : ChangeSpec := { name := "purseMarginals", fn := fun _ => fun
  | [d1, d2] => { results := [.lit (.bool true)], args := [d1, d2] }
  | _ => none }
def purseMarginalsRow : OpenClaim := { program := "ytfmhanpibgmgfaa", sum := "1037ea49c4773179194fc5ebc762118c18a5aec9c4f01435b2174a740794dde8", func := "wigeon/wigeonlaw08.PurseMarginals", spec := "purseMarginals", unfollowed := true, recurses := true, apart := false }
def PurseMarginalsSaid : Prop := purseMarginalsRow.holds Try.pinned (OpenSpec.ofChange purseMarginalsSpec)

/-- ITS FALSE NEIGHBOUR: 'it returns false'. Refute it at one input. -/
def purseMarginalsWrong : ChangeSpec := { name := "purseMarginals", fn := fun _ => fun
  | [d1, d2] => { results := [.lit (.bool false)], args := [d1, d2] }
  | _ => none }
def PurseMarginalsWrongFalsely : Prop := purseMarginalsRow.holds Try.pinned (OpenSpec.ofChange purseMarginalsWrong)

/-- 'wigeonlaw08.PurseShapleys': WHATEVER THE INPUT: true; the input reads as it did. -/
def purseShapleysSpec : ChangeSpec := { name := "purseShapleys", fn := fun _ => fun
  | [d] => { results := [.lit (.bool true)], args := [d] }
  | _ => none }
def purseShapleysRow : OpenClaim := { program := "ytfmhanpibgmgfaa", sum := "1037ea49c4773179194fc5ebc762118c18a5aec9c4f01435b2174a740794dde8", func := "wigeon/wigeonlaw08.PurseShapleys", spec := "purseShapleys", unfollowed := true, recurses := true, apart := false }
def PurseShapleysSaid : Prop := purseShapleysRow.holds Try.pinned (OpenSpec.ofChange purseShapleysSpec)

/-- ITS FALSE NEIGHBOUR: 'it returns false'. Refute it at one input. -/
def purseShapleysWrong : ChangeSpec := { name := "purseShapleys", fn := fun _ => fun
  | [d] => { results := [.lit (.bool false)], args := [d] }
  | _ => none }
def PurseShapleysWrongFalsely : Prop := purseShapleysRow.holds Try.pinned (OpenSpec.ofChange purseShapleysWrong)

/-- 'wigeonlaw08.PurseDividends': WHATEVER THE INPUT: true; the input reads as it did. -/
def purseDividendsSpec : ChangeSpec := { name := "purseDividends", fn := fun _ => fun
  | [d1, d2] => { results := [.lit (.bool true)], args := [d1, d2] }
  | _ => none }
def purseDividendsRow : OpenClaim := { program := "ytfmhanpibgmgfaa", sum := "1037ea49c4773179194fc5ebc762118c18a5aec9c4f01435b2174a740794dde8", func := "wigeon/wigeonlaw08.PurseDividends", spec := "purseDividends", unfollowed := true, recurses := true, apart := false }
def PurseDividendsSaid : Prop := purseDividendsRow.holds Try.pinned (OpenSpec.ofChange purseDividendsSpec)

/-- ITS FALSE NEIGHBOUR: 'it returns false'. Refute it at one input. -/
def purseDividendsWrong : ChangeSpec := { name := "purseDividends", fn := fun _ => fun
  | [d1, d2] => { results := [.lit (.bool false)], args := [d1, d2] }
  | _ => none }
def PurseDividendsWrongFalsely : Prop := purseDividendsRow.holds Try.pinned (OpenSpec.ofChange purseDividendsWrong)

/-- 'wigeonlaw08.PurseParts': WHATEVER THE INPUT: true; the input reads as it did. -/
def pursePartsSpec : ChangeSpec := { name := "purseParts", fn := fun _ => fun
  | [d] => { results := [.lit (.bool true)], args := [d] }
  | _ => none }
def pursePartsRow : OpenClaim := { program := "ytfmhanpibgmgfaa", sum := "1037ea49c4773179194fc5ebc762118c18a5aec9c4f01435b2174a740794dde8", func := "wigeon/wigeonlaw08.PurseParts", spec := "purseParts", unfollowed := true, recurses := true, apart := false }
def PursePartsSaid : Prop := pursePartsRow.holds Try.pinned (OpenSpec.ofChange pursePartsSpec)

/-- ITS FALSE NEIGHBOUR: 'it returns false'. Refute it at one input. -/
def pursePartsWrong : ChangeSpec := { name := "purseParts", fn := fun _ => fun
  | [d] => { results := [.lit (.bool false)], args := [d] }
  | _ => none }
def PursePartsWrongFalsely : Prop := pursePartsRow.holds Try.pinned (OpenSpec.ofChange pursePartsWrong)

/-- 'wigeonlaw08.PurseAdds': WHATEVER THE INPUT: true; the input reads as it did. -/
def purseAddsSpec : ChangeSpec := { name := "purseAdds", fn := fun _ => fun
  | [d1, d2] => { results := [.lit (.bool true)], args := [d1, d2] }
  | _ => none }
def purseAddsRow : OpenClaim := { program := "ytfmhanpibgmgfaa", sum := "1037ea49c4773179194fc5ebc762118c18a5aec9c4f01435b2174a740794dde8", func := "wigeon/wigeonlaw08.PurseAdds", spec := "purseAdds", unfollowed := true, recurses := true, apart := false }
def PurseAddsSaid : Prop := purseAddsRow.holds Try.pinned (OpenSpec.ofChange purseAddsSpec)

/-- ITS FALSE NEIGHBOUR: 'it returns false'. Refute it at one input. -/
def purseAddsWrong : ChangeSpec := { name := "purseAdds", fn := fun _ => fun
  | [d1, d2] => { results := [.lit (.bool false)], args := [d1, d2] }
  | _ => none }
def PurseAddsWrongFalsely : Prop := purseAddsRow.holds Try.pinned (OpenSpec.ofChange purseAddsWrong)

/-- 'wigeonlaw08.PurseDuals': WHATEVER THE INPUT: true; the input reads as it did. -/
def purseDualsSpec : ChangeSpec := { name := "purseDuals", fn := fun _ => fun
  | [d1, d2] => { results := [.lit (.bool true)], args := [d1, d2] }
  | _ => none }
def purseDualsRow : OpenClaim := { program := "ytfmhanpibgmgfaa", sum := "1037ea49c4773179194fc5ebc762118c18a5aec9c4f01435b2174a740794dde8", func := "wigeon/wigeonlaw08.PurseDuals", spec := "purseDuals", unfollowed := true, recurses := true, apart := false }
def PurseDualsSaid : Prop := purseDualsRow.holds Try.pinned (OpenSpec.ofChange purseDualsSpec)

/-- ITS FALSE NEIGHBOUR: 'it returns false'. Refute it at one input. -/
def purseDualsWrong : ChangeSpec := { name := "purseDuals", fn := fun _ => fun
  | [d1, d2] => { results := [.lit (.bool false)], args := [d1, d2] }
  | _ => none }
def PurseDualsWrongFalsely : Prop := purseDualsRow.holds Try.pinned (OpenSpec.ofChange purseDualsWrong)

/-- 'wigeonlaw08.PurseKinds': WHATEVER THE INPUT: true; the input reads as it did. -/
def purseKindsSpec : ChangeSpec := { name := "purseKinds", fn := fun _ => fun
  | [d1, d2] => { results := [.lit (.bool true)], args := [d1, d2] }
  | _ => none }
def purseKindsRow : OpenClaim := { program := "ytfmhanpibgmgfaa", sum := "1037ea49c4773179194fc5ebc762118c18a5aec9c4f01435b2174a740794dde8", func := "wigeon/wigeonlaw08.PurseKinds", spec := "purseKinds", unfollowed := true, recurses := true, apart := false }
def PurseKindsSaid : Prop := purseKindsRow.holds Try.pinned (OpenSpec.ofChange purseKindsSpec)

/-- ITS FALSE NEIGHBOUR: 'it returns false'. Refute it at one input. -/
def purseKindsWrong : ChangeSpec := { name := "purseKinds", fn := fun _ => fun
  | [d1, d2] => { results := [.lit (.bool false)], args := [d1, d2] }
  | _ => none }
def PurseKindsWrongFalsely : Prop := purseKindsRow.holds Try.pinned (OpenSpec.ofChange purseKindsWrong)

/-- 'wigeonlaw08.PurseChecks': WHATEVER THE INPUT: true; the input reads as it did. -/
def purseChecksSpec : ChangeSpec := { name := "purseChecks", fn := fun _ => fun
  | [d1, d2] => { results := [.lit (.bool true)], args := [d1, d2] }
  | _ => none }
def purseChecksRow : OpenClaim := { program := "ytfmhanpibgmgfaa", sum := "1037ea49c4773179194fc5ebc762118c18a5aec9c4f01435b2174a740794dde8", func := "wigeon/wigeonlaw08.PurseChecks", spec := "purseChecks", unfollowed := true, recurses := true, apart := false }
def PurseChecksSaid : Prop := purseChecksRow.holds Try.pinned (OpenSpec.ofChange purseChecksSpec)

/-- ITS FALSE NEIGHBOUR: 'it returns false'. Refute it at one input. -/
def purseChecksWrong : ChangeSpec := { name := "purseChecks", fn := fun _ => fun
  | [d1, d2] => { results := [.lit (.bool false)], args := [d1, d2] }
  | _ => none }
def PurseChecksWrongFalsely : Prop := purseChecksRow.holds Try.pinned (OpenSpec.ofChange purseChecksWrong)

/-- 'wigeonlaw08.PurseCores': WHATEVER THE INPUT: true; the input reads as it did. -/
def purseCoresSpec : ChangeSpec := { name := "purseCores", fn := fun _ => fun
  | [d] => { results := [.lit (.bool true)], args := [d] }
  | _ => none }
def purseCoresRow : OpenClaim := { program := "ytfmhanpibgmgfaa", sum := "1037ea49c4773179194fc5ebc762118c18a5aec9c4f01435b2174a740794dde8", func := "wigeon/wigeonlaw08.PurseCores", spec := "purseCores", unfollowed := true, recurses := true, apart := false }
def PurseCoresSaid : Prop := purseCoresRow.holds Try.pinned (OpenSpec.ofChange purseCoresSpec)

/-- ITS FALSE NEIGHBOUR: 'it returns false'. Refute it at one input. -/
def purseCoresWrong : ChangeSpec := { name := "purseCores", fn := fun _ => fun
  | [d] => { results := [.lit (.bool false)], args := [d] }
  | _ => none }
def PurseCoresWrongFalsely : Prop := purseCoresRow.holds Try.pinned (OpenSpec.ofChange purseCoresWrong)

/-- 'wigeonlaw08.PurseBalances': WHATEVER THE INPUT: true; the input reads as it did. -/
def purseBalancesSpec : ChangeSpec := { name := "purseBalances", fn := fun _ => fun
  | [d1, d2] => { results := [.lit (.bool true)], args := [d1, d2] }
  | _ => none }
def purseBalancesRow : OpenClaim := { program := "ytfmhanpibgmgfaa", sum := "1037ea49c4773179194fc5ebc762118c18a5aec9c4f01435b2174a740794dde8", func := "wigeon/wigeonlaw08.PurseBalances", spec := "purseBalances", unfollowed := true, recurses := true, apart := false }
def PurseBalancesSaid : Prop := purseBalancesRow.holds Try.pinned (OpenSpec.ofChange purseBalancesSpec)

/-- ITS FALSE NEIGHBOUR: 'it returns false'. Refute it at one input. -/
def purseBalancesWrong : ChangeSpec := { name := "purseBalances", fn := fun _ => fun
  | [d1, d2] => { results := [.lit (.bool false)], args := [d1, d2] }
  | _ => none }
def PurseBalancesWrongFalsely : Prop := purseBalancesRow.holds Try.pinned (OpenSpec.ofChange purseBalancesWrong)

/-- 'wigeonlaw08.PurseWeighs': WHATEVER THE INPUT: true; the input reads as it did. -/
def purseWeighsSpec : ChangeSpec := { name := "purseWeighs", fn := fun _ => fun
  | [d1, d2, d3] => { results := [.lit (.bool true)], args := [d1, d2, d3] }
  | _ => none }
def purseWeighsRow : OpenClaim := { program := "ytfmhanpibgmgfaa", sum := "1037ea49c4773179194fc5ebc762118c18a5aec9c4f01435b2174a740794dde8", func := "wigeon/wigeonlaw08.PurseWeighs", spec := "purseWeighs", unfollowed := true, recurses := true, apart := false }
def PurseWeighsSaid : Prop := purseWeighsRow.holds Try.pinned (OpenSpec.ofChange purseWeighsSpec)

/-- ITS FALSE NEIGHBOUR: 'it returns false'. Refute it at one input. -/
def purseWeighsWrong : ChangeSpec := { name := "purseWeighs", fn := fun _ => fun
  | [d1, d2, d3] => { results := [.lit (.bool false)], args := [d1, d2, d3] }
  | _ => none }
def PurseWeighsWrongFalsely : Prop := purseWeighsRow.holds Try.pinned (OpenSpec.ofChange purseWeighsWrong)

/-- 'wigeonlaw08.PurseExcesses': WHATEVER THE INPUT: true; the input reads as it did. -/
def purseExcessesSpec : ChangeSpec := { name := "purseExcesses", fn := fun _ => fun
  | [d1, d2] => { results := [.lit (.bool true)], args := [d1, d2] }
  | _ => none }
def purseExcessesRow : OpenClaim := { program := "ytfmhanpibgmgfaa", sum := "1037ea49c4773179194fc5ebc762118c18a5aec9c4f01435b2174a740794dde8", func := "wigeon/wigeonlaw08.PurseExcesses", spec := "purseExcesses", unfollowed := true, recurses := true, apart := false }
def PurseExcessesSaid : Prop := purseExcessesRow.holds Try.pinned (OpenSpec.ofChange purseExcessesSpec)

/-- ITS FALSE NEIGHBOUR: 'it returns false'. Refute it at one input. -/
def purseExcessesWrong : ChangeSpec := { name := "purseExcesses", fn := fun _ => fun
  | [d1, d2] => { results := [.lit (.bool false)], args := [d1, d2] }
  | _ => none }
def PurseExcessesWrongFalsely : Prop := purseExcessesRow.holds Try.pinned (OpenSpec.ofChange purseExcessesWrong)

/- THE SECOND FORM. 'bulk': how many values and letters a reading holds, each counted each time it is reached (what is shared counts as often as it is met; a slice's spare places count too). A statement '..UptoSaid' is the law's where the arguments, and the package variables that the reading takes, are together of bulk at most 1048576: NARROWER than '..Said'. Prove '..Said' where nothing that the law and all that it calls make is longer than what came in: it says more and counts as full. Else prove '..UptoSaid'. A law counts once. -/
mutual
def uptoBulk {H : Type} : DataW H → Nat
  | .lit (.string bytes) => bytes.length + 1
  | .lit _ => 1
  | .nil => 1
  | .ptr d => uptoBulk d + 1
  | .slice elems spare => uptoBulkAll elems + uptoBulkAll spare + 1
  | .agg parts => uptoBulkAll parts + 1
  | .iface _ d => uptoBulk d + 1
  | .map entries => uptoBulkEntries entries + 1
  | .held _ => 1
def uptoBulkAll {H : Type} : List (DataW H) → Nat
  | [] => 0
  | d :: r => uptoBulk d + uptoBulkAll r
def uptoBulkEntries {H : Type} : List (Lit × DataW H) → Nat
  | [] => 0
  | x :: r => uptoBulkEntry x + uptoBulkEntries r
def uptoBulkEntry {H : Type} : Lit × DataW H → Nat
  | (.string bytes, d) => bytes.length + uptoBulk d + 1
  | (_, d) => uptoBulk d + 1
 end
def uptoSmall : (H : Type) → List (DataW H) → Bool := fun _ ds => decide (uptoBulkAll ds ≤ 1048576)
def OpenSpec.upto (s : _root_.Go.ChangeSpec) : _root_.Go.OpenSpec := { _root_.Go.OpenSpec.ofChange s with cond := some uptoSmall }

/-- 'wigeonlaw08.PurseMarginals', WHERE WHAT IT READS IS OF BULK AT MOST 1048576: true; the input reads as it did. -/
def purseMarginalsUptoRow : OpenClaim := { program := "ytfmhanpibgmgfaa", sum := "1037ea49c4773179194fc5ebc762118c18a5aec9c4f01435b2174a740794dde8", func := "wigeon/wigeonlaw08.PurseMarginals", spec := "purseMarginals", unfollowed := true, recurses := true, apart := false, narrowed := true }
def PurseMarginalsUptoSaid : Prop := purseMarginalsUptoRow.holds Try.pinned (OpenSpec.upto purseMarginalsSpec)

/-- 'wigeonlaw08.PurseShapleys', WHERE WHAT IT READS IS OF BULK AT MOST 1048576: true; the input reads as it did. -/
def purseShapleysUptoRow : OpenClaim := { program := "ytfmhanpibgmgfaa", sum := "1037ea49c4773179194fc5ebc762118c18a5aec9c4f01435b2174a740794dde8", func := "wigeon/wigeonlaw08.PurseShapleys", spec := "purseShapleys", unfollowed := true, recurses := true, apart := false, narrowed := true }
def PurseShapleysUptoSaid : Prop := purseShapleysUptoRow.holds Try.pinned (OpenSpec.upto purseShapleysSpec)

/-- 'wigeonlaw08.PurseDividends', WHERE WHAT IT READS IS OF BULK AT MOST 1048576: true; the input reads as it did. -/
def purseDividendsUptoRow : OpenClaim := { program := "ytfmhanpibgmgfaa", sum := "1037ea49c4773179194fc5ebc762118c18a5aec9c4f01435b2174a740794dde8", func := "wigeon/wigeonlaw08.PurseDividends", spec := "purseDividends", unfollowed := true, recurses := true, apart := false, narrowed := true }
def PurseDividendsUptoSaid : Prop := purseDividendsUptoRow.holds Try.pinned (OpenSpec.upto purseDividendsSpec)

/-- 'wigeonlaw08.PurseParts', WHERE WHAT IT READS IS OF BULK AT MOST 1048576: true; the input reads as it did. -/
def pursePartsUptoRow : OpenClaim := { program := "ytfmhanpibgmgfaa", sum := "1037ea49c4773179194fc5ebc762118c18a5aec9c4f01435b2174a740794dde8", func := "wigeon/wigeonlaw08.PurseParts", spec := "purseParts", unfollowed := true, recurses := true, apart := false, narrowed := true }
def PursePartsUptoSaid : Prop := pursePartsUptoRow.holds Try.pinned (OpenSpec.upto pursePartsSpec)

/-- 'wigeonlaw08.PurseAdds', WHERE WHAT IT READS IS OF BULK AT MOST 1048576: true; the input reads as it did. -/
def purseAddsUptoRow : OpenClaim := { program := "ytfmhanpibgmgfaa", sum := "1037ea49c4773179194fc5ebc762118c18a5aec9c4f01435b2174a740794dde8", func := "wigeon/wigeonlaw08.PurseAdds", spec := "purseAdds", unfollowed := true, recurses := true, apart := false, narrowed := true }
def PurseAddsUptoSaid : Prop := purseAddsUptoRow.holds Try.pinned (OpenSpec.upto purseAddsSpec)

/-- 'wigeonlaw08.PurseDuals', WHERE WHAT IT READS IS OF BULK AT MOST 1048576: true; the input reads as it did. -/
def purseDualsUptoRow : OpenClaim := { program := "ytfmhanpibgmgfaa", sum := "1037ea49c4773179194fc5ebc762118c18a5aec9c4f01435b2174a740794dde8", func := "wigeon/wigeonlaw08.PurseDuals", spec := "purseDuals", unfollowed := true, recurses := true, apart := false, narrowed := true }
def PurseDualsUptoSaid : Prop := purseDualsUptoRow.holds Try.pinned (OpenSpec.upto purseDualsSpec)

/-- 'wigeonlaw08.PurseKinds', WHERE WHAT IT READS IS OF BULK AT MOST 1048576: true; the input reads as it did. -/
def purseKindsUptoRow : OpenClaim := { program := "ytfmhanpibgmgfaa", sum := "1037ea49c4773179194fc5ebc762118c18a5aec9c4f01435b2174a740794dde8", func := "wigeon/wigeonlaw08.PurseKinds", spec := "purseKinds", unfollowed := true, recurses := true, apart := false, narrowed := true }
def PurseKindsUptoSaid : Prop := purseKindsUptoRow.holds Try.pinned (OpenSpec.upto purseKindsSpec)

/-- 'wigeonlaw08.PurseChecks', WHERE WHAT IT READS IS OF BULK AT MOST 1048576: true; the input reads as it did. -/
def purseChecksUptoRow : OpenClaim := { program := "ytfmhanpibgmgfaa", sum := "1037ea49c4773179194fc5ebc762118c18a5aec9c4f01435b2174a740794dde8", func := "wigeon/wigeonlaw08.PurseChecks", spec := "purseChecks", unfollowed := true, recurses := true, apart := false, narrowed := true }
def PurseChecksUptoSaid : Prop := purseChecksUptoRow.holds Try.pinned (OpenSpec.upto purseChecksSpec)

/-- 'wigeonlaw08.PurseCores', WHERE WHAT IT READS IS OF BULK AT MOST 1048576: true; the input reads as it did. -/
def purseCoresUptoRow : OpenClaim := { program := "ytfmhanpibgmgfaa", sum := "1037ea49c4773179194fc5ebc762118c18a5aec9c4f01435b2174a740794dde8", func := "wigeon/wigeonlaw08.PurseCores", spec := "purseCores", unfollowed := true, recurses := true, apart := false, narrowed := true }
def PurseCoresUptoSaid : Prop := purseCoresUptoRow.holds Try.pinned (OpenSpec.upto purseCoresSpec)

/-- 'wigeonlaw08.PurseBalances', WHERE WHAT IT READS IS OF BULK AT MOST 1048576: true; the input reads as it did. -/
def purseBalancesUptoRow : OpenClaim := { program := "ytfmhanpibgmgfaa", sum := "1037ea49c4773179194fc5ebc762118c18a5aec9c4f01435b2174a740794dde8", func := "wigeon/wigeonlaw08.PurseBalances", spec := "purseBalances", unfollowed := true, recurses := true, apart := false, narrowed := true }
def PurseBalancesUptoSaid : Prop := purseBalancesUptoRow.holds Try.pinned (OpenSpec.upto purseBalancesSpec)

/-- 'wigeonlaw08.PurseWeighs', WHERE WHAT IT READS IS OF BULK AT MOST 1048576: true; the input reads as it did. -/
def purseWeighsUptoRow : OpenClaim := { program := "ytfmhanpibgmgfaa", sum := "1037ea49c4773179194fc5ebc762118c18a5aec9c4f01435b2174a740794dde8", func := "wigeon/wigeonlaw08.PurseWeighs", spec := "purseWeighs", unfollowed := true, recurses := true, apart := false, narrowed := true }
def PurseWeighsUptoSaid : Prop := purseWeighsUptoRow.holds Try.pinned (OpenSpec.upto purseWeighsSpec)

/-- 'wigeonlaw08.PurseExcesses', WHERE WHAT IT READS IS OF BULK AT MOST 1048576: true; the input reads as it did. -/
def purseExcessesUptoRow : OpenClaim := { program := "ytfmhanpibgmgfaa", sum := "1037ea49c4773179194fc5ebc762118c18a5aec9c4f01435b2174a740794dde8", func := "wigeon/wigeonlaw08.PurseExcesses", spec := "purseExcesses", unfollowed := true, recurses := true, apart := false, narrowed := true }
def PurseExcessesUptoSaid : Prop := purseExcessesUptoRow.holds Try.pinned (OpenSpec.upto purseExcessesSpec)

end Rows
end Go.Proofs.Ytfmhanpibgmgfaa
