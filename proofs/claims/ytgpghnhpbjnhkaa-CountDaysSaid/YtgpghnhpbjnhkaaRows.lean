/-
  No cell of these rows narrows 'for every input' (looked for: loops, veiled, ifaces, maps, wideKeys, modest, calm, conditions, laid).
  DERIVED. THE GIVEN ROWS OF THIS SEAT. 10 by the template 'for every input the law returns true; each argument reads behind the call as it read before'; 0 by the template 'total and deterministic' (their statements: YtgpghnhpbjnhkaaTotals.lean).
  GIVEN WITH THE SEED: the statements are not yours to turn. If you find one false, say at which input.
  Laid BY PROGRAM, IN A SANDBOX (cutbox-rows.mjs): the forced cells as the released guide's own fill.sh prints them over the translation 2d8e98d63cd4161e… (all of the seat's roots in one cut). By AI agents, Wed Nov 11 2026. No macro, syntax, notation, axiom, sorry.
-/
import Derived.Test.YtgpghnhpbjnhkaaChecked
import GoSem.Claim
import GoSem.ClaimJoined
import GoSem.ClaimMapViews
import Derived.JoinedTies
import Derived.KernelRfl
namespace Go.Proofs.Ytgpghnhpbjnhkaa
/- THE CELL 'sum', in the pinned program and in every row, IS THE sha256 OF THE DUMP (.gsa) THAT YtgpghnhpbjnhkaaProg.lean LOADS. Nothing in Lean hashes anything: it is a label: what it is worth is what the hold of that sum in a sandbox is worth. -/
noncomputable def Try.pinned : Pinned := { name := "ytgpghnhpbjnhkaa", sum := "2d8e98d63cd4161e3e9504d1c3342132fdcdfa613b45b162cab97a0f591e93f1", checked := Try.checked }
namespace Rows
def none {H : Type} : Left H := { results := [], args := [] }

/-- 'wigeonlaw06.CountBinomials': WHATEVER THE INPUT: true; the input reads as it did. -/
def countBinomialsSpec : ChangeSpec := { name := "countBinomials", fn := fun _ => fun
  | [d1, d2] => { results := [.lit (.bool true)], args := [d1, d2] }
  | _ => none }
def countBinomialsRow : OpenClaim := { program := "ytgpghnhpbjnhkaa", sum := "2d8e98d63cd4161e3e9504d1c3342132fdcdfa613b45b162cab97a0f591e93f1", func := "wigeon/wigeonlaw06.CountBinomials", spec := "countBinomials", unfollowed := true, recurses := true, apart := false }
def CountBinomialsSaid : Prop := countBinomialsRow.holds Try.pinned (OpenSpec.ofChange countBinomialsSpec)

/-- ITS FALSE NEIGHBOUR: 'it returns false'. Refute it at one input. -/
def countBinomialsWrong : ChangeSpec := { name := "countBinomials", fn := fun _ => fun
  | [d1, d2] => { results := [.lit (.bool false)], args := [d1, d2] }
  | _ => none }
def CountBinomialsWrongFalsely : Prop := countBinomialsRow.holds Try.pinned (OpenSpec.ofChange countBinomialsWrong)

/-- 'wigeonlaw06.CountWays': WHATEVER THE INPUT: true; the input reads as it did. -/
def countWaysSpec : ChangeSpec := { name := "countWays", fn := fun _ => fun
  | [d] => { results := [.lit (.bool true)], args := [d] }
  | _ => none }
def countWaysRow : OpenClaim := { program := "ytgpghnhpbjnhkaa", sum := "2d8e98d63cd4161e3e9504d1c3342132fdcdfa613b45b162cab97a0f591e93f1", func := "wigeon/wigeonlaw06.CountWays", spec := "countWays", unfollowed := true, recurses := true, apart := false }
def CountWaysSaid : Prop := countWaysRow.holds Try.pinned (OpenSpec.ofChange countWaysSpec)

/-- ITS FALSE NEIGHBOUR: 'it returns false'. Refute it at one input. -/
def countWaysWrong : ChangeSpec := { name := "countWays", fn := fun _ => fun
  | [d] => { results := [.lit (.bool false)], args := [d] }
  | _ => none }
def CountWaysWrongFalsely : Prop := countWaysRow.holds Try.pinned (OpenSpec.ofChange countWaysWrong)

/-- 'wigeonlaw06.CountSums': WHATEVER THE INPUT: true; the input reads as it did. -/
def countSumsSpec : ChangeSpec := { name := "countSums", fn := fun _ => fun
  | [d] => { results := [.lit (.bool true)], args := [d] }
  | _ => none }
def countSumsRow : OpenClaim := { program := "ytgpghnhpbjnhkaa", sum := "2d8e98d63cd4161e3e9504d1c3342132fdcdfa613b45b162cab97a0f591e93f1", func := "wigeon/wigeonlaw06.CountSums", spec := "countSums", unfollowed := true, recurses := true, apart := false }
def CountSumsSaid : Prop := countSumsRow.holds Try.pinned (OpenSpec.ofChange countSumsSpec)

/-- ITS FALSE NEIGHBOUR: 'it returns false'. Refute it at one input. -/
def countSumsWrong : ChangeSpec := { name := "countSums", fn := fun _ => fun
  | [d] => { results := [.lit (.bool false)], args := [d] }
  | _ => none }
def CountSumsWrongFalsely : Prop := countSumsRow.holds Try.pinned (OpenSpec.ofChange countSumsWrong)

/-- 'wigeonlaw06.CountMeans': WHATEVER THE INPUT: true; the input reads as it did. -/
def countMeansSpec : ChangeSpec := { name := "countMeans", fn := fun _ => fun
  | [d] => { results := [.lit (.bool true)], args := [d] }
  | _ => none }
def countMeansRow : OpenClaim := { program := "ytgpghnhpbjnhkaa", sum := "2d8e98d63cd4161e3e9504d1c3342132fdcdfa613b45b162cab97a0f591e93f1", func := "wigeon/wigeonlaw06.CountMeans", spec := "countMeans", unfollowed := true, recurses := true, apart := false }
def CountMeansSaid : Prop := countMeansRow.holds Try.pinned (OpenSpec.ofChange countMeansSpec)

/-- ITS FALSE NEIGHBOUR: 'it returns false'. Refute it at one input. -/
def countMeansWrong : ChangeSpec := { name := "countMeans", fn := fun _ => fun
  | [d] => { results := [.lit (.bool false)], args := [d] }
  | _ => none }
def CountMeansWrongFalsely : Prop := countMeansRow.holds Try.pinned (OpenSpec.ofChange countMeansWrong)

/-- 'wigeonlaw06.CountBest': WHATEVER THE INPUT: true; the input reads as it did. -/
def countBestSpec : ChangeSpec := { name := "countBest", fn := fun _ => fun
  | [d] => { results := [.lit (.bool true)], args := [d] }
  | _ => none }
def countBestRow : OpenClaim := { program := "ytgpghnhpbjnhkaa", sum := "2d8e98d63cd4161e3e9504d1c3342132fdcdfa613b45b162cab97a0f591e93f1", func := "wigeon/wigeonlaw06.CountBest", spec := "countBest", unfollowed := true, recurses := true, apart := false }
def CountBestSaid : Prop := countBestRow.holds Try.pinned (OpenSpec.ofChange countBestSpec)

/-- ITS FALSE NEIGHBOUR: 'it returns false'. Refute it at one input. -/
def countBestWrong : ChangeSpec := { name := "countBest", fn := fun _ => fun
  | [d] => { results := [.lit (.bool false)], args := [d] }
  | _ => none }
def CountBestWrongFalsely : Prop := countBestRow.holds Try.pinned (OpenSpec.ofChange countBestWrong)

/-- 'wigeonlaw06.CountLikely': WHATEVER THE INPUT: true; the input reads as it did. -/
def countLikelySpec : ChangeSpec := { name := "countLikely", fn := fun _ => fun
  | [d] => { results := [.lit (.bool true)], args := [d] }
  | _ => none }
def countLikelyRow : OpenClaim := { program := "ytgpghnhpbjnhkaa", sum := "2d8e98d63cd4161e3e9504d1c3342132fdcdfa613b45b162cab97a0f591e93f1", func := "wigeon/wigeonlaw06.CountLikely", spec := "countLikely", unfollowed := true, recurses := true, apart := false }
def CountLikelySaid : Prop := countLikelyRow.holds Try.pinned (OpenSpec.ofChange countLikelySpec)

/-- ITS FALSE NEIGHBOUR: 'it returns false'. Refute it at one input. -/
def countLikelyWrong : ChangeSpec := { name := "countLikely", fn := fun _ => fun
  | [d] => { results := [.lit (.bool false)], args := [d] }
  | _ => none }
def CountLikelyWrongFalsely : Prop := countLikelyRow.holds Try.pinned (OpenSpec.ofChange countLikelyWrong)

/-- 'wigeonlaw06.CountOdds': WHATEVER THE INPUT: true; the input reads as it did. -/
def countOddsSpec : ChangeSpec := { name := "countOdds", fn := fun _ => fun
  | [d] => { results := [.lit (.bool true)], args := [d] }
  | _ => none }
def countOddsRow : OpenClaim := { program := "ytgpghnhpbjnhkaa", sum := "2d8e98d63cd4161e3e9504d1c3342132fdcdfa613b45b162cab97a0f591e93f1", func := "wigeon/wigeonlaw06.CountOdds", spec := "countOdds", unfollowed := true, recurses := true, apart := false }
def CountOddsSaid : Prop := countOddsRow.holds Try.pinned (OpenSpec.ofChange countOddsSpec)

/-- ITS FALSE NEIGHBOUR: 'it returns false'. Refute it at one input. -/
def countOddsWrong : ChangeSpec := { name := "countOdds", fn := fun _ => fun
  | [d] => { results := [.lit (.bool false)], args := [d] }
  | _ => none }
def CountOddsWrongFalsely : Prop := countOddsRow.holds Try.pinned (OpenSpec.ofChange countOddsWrong)

/-- 'wigeonlaw06.CountChapman': WHATEVER THE INPUT: true; the input reads as it did. -/
def countChapmanSpec : ChangeSpec := { name := "countChapman", fn := fun _ => fun
  | [d] => { results := [.lit (.bool true)], args := [d] }
  | _ => none }
def countChapmanRow : OpenClaim := { program := "ytgpghnhpbjnhkaa", sum := "2d8e98d63cd4161e3e9504d1c3342132fdcdfa613b45b162cab97a0f591e93f1", func := "wigeon/wigeonlaw06.CountChapman", spec := "countChapman", unfollowed := true, recurses := true, apart := false }
def CountChapmanSaid : Prop := countChapmanRow.holds Try.pinned (OpenSpec.ofChange countChapmanSpec)

/-- ITS FALSE NEIGHBOUR: 'it returns false'. Refute it at one input. -/
def countChapmanWrong : ChangeSpec := { name := "countChapman", fn := fun _ => fun
  | [d] => { results := [.lit (.bool false)], args := [d] }
  | _ => none }
def CountChapmanWrongFalsely : Prop := countChapmanRow.holds Try.pinned (OpenSpec.ofChange countChapmanWrong)

/-- 'wigeonlaw06.CountPossible': WHATEVER THE INPUT: true; the input reads as it did. -/
def countPossibleSpec : ChangeSpec := { name := "countPossible", fn := fun _ => fun
  | [d1, d2] => { results := [.lit (.bool true)], args := [d1, d2] }
  | _ => none }
def countPossibleRow : OpenClaim := { program := "ytgpghnhpbjnhkaa", sum := "2d8e98d63cd4161e3e9504d1c3342132fdcdfa613b45b162cab97a0f591e93f1", func := "wigeon/wigeonlaw06.CountPossible", spec := "countPossible", unfollowed := true, recurses := true, apart := false }
def CountPossibleSaid : Prop := countPossibleRow.holds Try.pinned (OpenSpec.ofChange countPossibleSpec)

/-- ITS FALSE NEIGHBOUR: 'it returns false'. Refute it at one input. -/
def countPossibleWrong : ChangeSpec := { name := "countPossible", fn := fun _ => fun
  | [d1, d2] => { results := [.lit (.bool false)], args := [d1, d2] }
  | _ => none }
def CountPossibleWrongFalsely : Prop := countPossibleRow.holds Try.pinned (OpenSpec.ofChange countPossibleWrong)

/-- 'wigeonlaw06.CountDays': WHATEVER THE INPUT: true; the input reads as it did. -/
def countDaysSpec : ChangeSpec := { name := "countDays", fn := fun _ => fun
  | [d] => { results := [.lit (.bool true)], args := [d] }
  | _ => none }
def countDaysRow : OpenClaim := { program := "ytgpghnhpbjnhkaa", sum := "2d8e98d63cd4161e3e9504d1c3342132fdcdfa613b45b162cab97a0f591e93f1", func := "wigeon/wigeonlaw06.CountDays", spec := "countDays", unfollowed := true, recurses := true, apart := false }
def CountDaysSaid : Prop := countDaysRow.holds Try.pinned (OpenSpec.ofChange countDaysSpec)

/-- ITS FALSE NEIGHBOUR: 'it returns false'. Refute it at one input. -/
def countDaysWrong : ChangeSpec := { name := "countDays", fn := fun _ => fun
  | [d] => { results := [.lit (.bool false)], args := [d] }
  | _ => none }
def CountDaysWrongFalsely : Prop := countDaysRow.holds Try.pinned (OpenSpec.ofChange countDaysWrong)

/- THE SECOND FORM. 'bulk': how many values and letters a reading holds, each counted each time it is reached (what is shared counts as often as it is met; a slice's spare places count too). A statement '..UptoSaid' is the law's where the arguments, and the package variables that the reading takes, are together of bulk at most 1048576: NARROWER than '..Said'. Prove '..Said' where nothing that the law and all that it calls make is longer than what came in: it says more and counts as full. Else prove '..UptoSaid'. A law counts once. -/
mutual
def uptoBulk {H : Type} : DataW H → Nat
  | .lit (.string bytes) => bytes.length + 1
  | .lit _ => 1
  | .nil => 1
  | .ptr d => uptoBulk d + 1
  | .slice elems spare => uptoBulkAll elems + uptoBulkAll spare + 1
  | .agg parts => uptoBulkAll parts + 1
  | .iface _ d => uptoBulk d + 1
  | .map entries => uptoBulkEntries entries + 1
  | .held _ => 1
def uptoBulkAll {H : Type} : List (DataW H) → Nat
  | [] => 0
  | d :: r => uptoBulk d + uptoBulkAll r
def uptoBulkEntries {H : Type} : List (Lit × DataW H) → Nat
  | [] => 0
  | x :: r => uptoBulkEntry x + uptoBulkEntries r
def uptoBulkEntry {H : Type} : Lit × DataW H → Nat
  | (.string bytes, d) => bytes.length + uptoBulk d + 1
  | (_, d) => uptoBulk d + 1
 end
def uptoSmall : (H : Type) → List (DataW H) → Bool := fun _ ds => decide (uptoBulkAll ds ≤ 1048576)
def OpenSpec.upto (s : _root_.Go.ChangeSpec) : _root_.Go.OpenSpec := { _root_.Go.OpenSpec.ofChange s with cond := some uptoSmall }

/-- 'wigeonlaw06.CountBinomials', WHERE WHAT IT READS IS OF BULK AT MOST 1048576: true; the input reads as it did. -/
def countBinomialsUptoRow : OpenClaim := { program := "ytgpghnhpbjnhkaa", sum := "2d8e98d63cd4161e3e9504d1c3342132fdcdfa613b45b162cab97a0f591e93f1", func := "wigeon/wigeonlaw06.CountBinomials", spec := "countBinomials", unfollowed := true, recurses := true, apart := false, narrowed := true }
def CountBinomialsUptoSaid : Prop := countBinomialsUptoRow.holds Try.pinned (OpenSpec.upto countBinomialsSpec)

/-- 'wigeonlaw06.CountWays', WHERE WHAT IT READS IS OF BULK AT MOST 1048576: true; the input reads as it did. -/
def countWaysUptoRow : OpenClaim := { program := "ytgpghnhpbjnhkaa", sum := "2d8e98d63cd4161e3e9504d1c3342132fdcdfa613b45b162cab97a0f591e93f1", func := "wigeon/wigeonlaw06.CountWays", spec := "countWays", unfollowed := true, recurses := true, apart := false, narrowed := true }
def CountWaysUptoSaid : Prop := countWaysUptoRow.holds Try.pinned (OpenSpec.upto countWaysSpec)

/-- 'wigeonlaw06.CountSums', WHERE WHAT IT READS IS OF BULK AT MOST 1048576: true; the input reads as it did. -/
def countSumsUptoRow : OpenClaim := { program := "ytgpghnhpbjnhkaa", sum := "2d8e98d63cd4161e3e9504d1c3342132fdcdfa613b45b162cab97a0f591e93f1", func := "wigeon/wigeonlaw06.CountSums", spec := "countSums", unfollowed := true, recurses := true, apart := false, narrowed := true }
def CountSumsUptoSaid : Prop := countSumsUptoRow.holds Try.pinned (OpenSpec.upto countSumsSpec)

/-- 'wigeonlaw06.CountMeans', WHERE WHAT IT READS IS OF BULK AT MOST 1048576: true; the input reads as it did. -/
def countMeansUptoRow : OpenClaim := { program := "ytgpghnhpbjnhkaa", sum := "2d8e98d63cd4161e3e9504d1c3342132fdcdfa613b45b162cab97a0f591e93f1", func := "wigeon/wigeonlaw06.CountMeans", spec := "countMeans", unfollowed := true, recurses := true, apart := false, narrowed := true }
def CountMeansUptoSaid : Prop := countMeansUptoRow.holds Try.pinned (OpenSpec.upto countMeansSpec)

/-- 'wigeonlaw06.CountBest', WHERE WHAT IT READS IS OF BULK AT MOST 1048576: true; the input reads as it did. -/
def countBestUptoRow : OpenClaim := { program := "ytgpghnhpbjnhkaa", sum := "2d8e98d63cd4161e3e9504d1c3342132fdcdfa613b45b162cab97a0f591e93f1", func := "wigeon/wigeonlaw06.CountBest", spec := "countBest", unfollowed := true, recurses := true, apart := false, narrowed := true }
def CountBestUptoSaid : Prop := countBestUptoRow.holds Try.pinned (OpenSpec.upto countBestSpec)

/-- 'wigeonlaw06.CountLikely', WHERE WHAT IT READS IS OF BULK AT MOST 1048576: true; the input reads as it did. -/
def countLikelyUptoRow : OpenClaim := { program := "ytgpghnhpbjnhkaa", sum := "2d8e98d63cd4161e3e9504d1c3342132fdcdfa613b45b162cab97a0f591e93f1", func := "wigeon/wigeonlaw06.CountLikely", spec := "countLikely", unfollowed := true, recurses := true, apart := false, narrowed := true }
def CountLikelyUptoSaid : Prop := countLikelyUptoRow.holds Try.pinned (OpenSpec.upto countLikelySpec)

/-- 'wigeonlaw06.CountOdds', WHERE WHAT IT READS IS OF BULK AT MOST 1048576: true; the input reads as it did. -/
def countOddsUptoRow : OpenClaim := { program := "ytgpghnhpbjnhkaa", sum := "2d8e98d63cd4161e3e9504d1c3342132fdcdfa613b45b162cab97a0f591e93f1", func := "wigeon/wigeonlaw06.CountOdds", spec := "countOdds", unfollowed := true, recurses := true, apart := false, narrowed := true }
def CountOddsUptoSaid : Prop := countOddsUptoRow.holds Try.pinned (OpenSpec.upto countOddsSpec)

/-- 'wigeonlaw06.CountChapman', WHERE WHAT IT READS IS OF BULK AT MOST 1048576: true; the input reads as it did. -/
def countChapmanUptoRow : OpenClaim := { program := "ytgpghnhpbjnhkaa", sum := "2d8e98d63cd4161e3e9504d1c3342132fdcdfa613b45b162cab97a0f591e93f1", func := "wigeon/wigeonlaw06.CountChapman", spec := "countChapman", unfollowed := true, recurses := true, apart := false, narrowed := true }
def CountChapmanUptoSaid : Prop := countChapmanUptoRow.holds Try.pinned (OpenSpec.upto countChapmanSpec)

/-- 'wigeonlaw06.CountPossible', WHERE WHAT IT READS IS OF BULK AT MOST 1048576: true; the input reads as it did. -/
def countPossibleUptoRow : OpenClaim := { program := "ytgpghnhpbjnhkaa", sum := "2d8e98d63cd4161e3e9504d1c3342132fdcdfa613b45b162cab97a0f591e93f1", func := "wigeon/wigeonlaw06.CountPossible", spec := "countPossible", unfollowed := true, recurses := true, apart := false, narrowed := true }
def CountPossibleUptoSaid : Prop := countPossibleUptoRow.holds Try.pinned (OpenSpec.upto countPossibleSpec)

/-- 'wigeonlaw06.CountDays', WHERE WHAT IT READS IS OF BULK AT MOST 1048576: true; the input reads as it did. -/
def countDaysUptoRow : OpenClaim := { program := "ytgpghnhpbjnhkaa", sum := "2d8e98d63cd4161e3e9504d1c3342132fdcdfa613b45b162cab97a0f591e93f1", func := "wigeon/wigeonlaw06.CountDays", spec := "countDays", unfollowed := true, recurses := true, apart := false, narrowed := true }
def CountDaysUptoSaid : Prop := countDaysUptoRow.holds Try.pinned (OpenSpec.upto countDaysSpec)

end Rows
end Go.Proofs.Ytgpghnhpbjnhkaa
