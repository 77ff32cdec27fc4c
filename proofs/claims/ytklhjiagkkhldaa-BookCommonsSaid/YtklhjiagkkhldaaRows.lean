/-
  No cell of these rows narrows 'for every input' (looked for: loops, veiled, ifaces, maps, wideKeys, modest, calm, conditions, laid).
  DERIVED. THE GIVEN ROWS OF THIS SEAT. 9 by the template 'for every input the law returns true; each argument reads behind the call as it read before'; 0 by the template 'total and deterministic' (their statements: YtklhjiagkkhldaaTotals.lean).
  GIVEN WITH THE SEED: the statements are not yours to turn. If you find one false, say at which input.
  Laid BY PROGRAM, IN A SANDBOX (cutbox-rows.mjs): the forced cells as the released guide's own fill.sh prints them over the translation 7436a5a1f646aac2… (all of the seat's roots in one cut). By AI agents, Wed Nov 11 2026. No macro, syntax, notation, axiom, sorry.
-/
import Derived.Test.YtklhjiagkkhldaaChecked
import GoSem.Claim
import GoSem.ClaimJoined
import GoSem.ClaimMapViews
import Derived.JoinedTies
import Derived.KernelRfl
namespace Go.Proofs.Ytklhjiagkkhldaa
/- THE CELL 'sum', in the pinned program and in every row, IS THE sha256 OF THE DUMP (.gsa) THAT YtklhjiagkkhldaaProg.lean LOADS. Nothing in Lean hashes anything: it is a label: what it is worth is what the hold of that sum in a sandbox is worth. -/
noncomputable def Try.pinned : Pinned := { name := "ytklhjiagkkhldaa", sum := "7436a5a1f646aac2f599b87a11766d3da73b7a1d4b8603c108e8416ba15bef1b", checked := Try.checked }
namespace Rows
def none {H : Type} : Left H := { results := [], args := [] }

/-- 'wigeonlaw09.BookSums': WHATEVER THE INPUT: true; the input reads as it did. -/
def bookSumsSpec : ChangeSpec := { name := "bookSums", fn := fun _ => fun
  | [d1, d2, d3] => { results := [.lit (.bool true)], args := [d1, d2, d3] }
  | _ => none }
def bookSumsRow : OpenClaim := { program := "ytklhjiagkkhldaa", sum := "7436a5a1f646aac2f599b87a11766d3da73b7a1d4b8603c108e8416ba15bef1b", func := "wigeon/wigeonlaw09.BookSums", spec := "bookSums", recurses := true, apart := false }
def BookSumsSaid : Prop := bookSumsRow.holds Try.pinned (OpenSpec.ofChange bookSumsSpec)

/-- ITS FALSE NEIGHBOUR: 'it returns false'. Refute it at one input. -/
def bookSumsWrong : ChangeSpec := { name := "bookSums", fn := fun _ => fun
  | [d1, d2, d3] => { results := [.lit (.bool false)], args := [d1, d2, d3] }
  | _ => none }
def BookSumsWrongFalsely : Prop := bookSumsRow.holds Try.pinned (OpenSpec.ofChange bookSumsWrong)

/-- 'wigeonlaw09.BookRoots': WHATEVER THE INPUT: true; the input reads as it did. -/
def bookRootsSpec : ChangeSpec := { name := "bookRoots", fn := fun _ => fun
  | [d1, d2] => { results := [.lit (.bool true)], args := [d1, d2] }
  | _ => none }
def bookRootsRow : OpenClaim := { program := "ytklhjiagkkhldaa", sum := "7436a5a1f646aac2f599b87a11766d3da73b7a1d4b8603c108e8416ba15bef1b", func := "wigeon/wigeonlaw09.BookRoots", spec := "bookRoots", recurses := true, apart := false }
def BookRootsSaid : Prop := bookRootsRow.holds Try.pinned (OpenSpec.ofChange bookRootsSpec)

/-- ITS FALSE NEIGHBOUR: 'it returns false'. Refute it at one input. -/
def bookRootsWrong : ChangeSpec := { name := "bookRoots", fn := fun _ => fun
  | [d1, d2] => { results := [.lit (.bool false)], args := [d1, d2] }
  | _ => none }
def BookRootsWrongFalsely : Prop := bookRootsRow.holds Try.pinned (OpenSpec.ofChange bookRootsWrong)

/-- 'wigeonlaw09.BookSplits': WHATEVER THE INPUT: true; the input reads as it did. -/
def bookSplitsSpec : ChangeSpec := { name := "bookSplits", fn := fun _ => fun
  | [d] => { results := [.lit (.bool true)], args := [d] }
  | _ => none }
def bookSplitsRow : OpenClaim := { program := "ytklhjiagkkhldaa", sum := "7436a5a1f646aac2f599b87a11766d3da73b7a1d4b8603c108e8416ba15bef1b", func := "wigeon/wigeonlaw09.BookSplits", spec := "bookSplits", recurses := true, apart := false }
def BookSplitsSaid : Prop := bookSplitsRow.holds Try.pinned (OpenSpec.ofChange bookSplitsSpec)

/-- ITS FALSE NEIGHBOUR: 'it returns false'. Refute it at one input. -/
def bookSplitsWrong : ChangeSpec := { name := "bookSplits", fn := fun _ => fun
  | [d] => { results := [.lit (.bool false)], args := [d] }
  | _ => none }
def BookSplitsWrongFalsely : Prop := bookSplitsRow.holds Try.pinned (OpenSpec.ofChange bookSplitsWrong)

/-- 'wigeonlaw09.BookProofs': WHATEVER THE INPUT: true; the input reads as it did. -/
def bookProofsSpec : ChangeSpec := { name := "bookProofs", fn := fun _ => fun
  | [d1, d2] => { results := [.lit (.bool true)], args := [d1, d2] }
  | _ => none }
def bookProofsRow : OpenClaim := { program := "ytklhjiagkkhldaa", sum := "7436a5a1f646aac2f599b87a11766d3da73b7a1d4b8603c108e8416ba15bef1b", func := "wigeon/wigeonlaw09.BookProofs", spec := "bookProofs", unfollowed := true, recurses := true, apart := false }
def BookProofsSaid : Prop := bookProofsRow.holds Try.pinned (OpenSpec.ofChange bookProofsSpec)

/-- ITS FALSE NEIGHBOUR: 'it returns false'. Refute it at one input. -/
def bookProofsWrong : ChangeSpec := { name := "bookProofs", fn := fun _ => fun
  | [d1, d2] => { results := [.lit (.bool false)], args := [d1, d2] }
  | _ => none }
def BookProofsWrongFalsely : Prop := bookProofsRow.holds Try.pinned (OpenSpec.ofChange bookProofsWrong)

/-- 'wigeonlaw09.BookClimbs': WHATEVER THE INPUT: true; the input reads as it did. -/
def bookClimbsSpec : ChangeSpec := { name := "bookClimbs", fn := fun _ => fun
  | [d] => { results := [.lit (.bool true)], args := [d] }
  | _ => none }
def bookClimbsRow : OpenClaim := { program := "ytklhjiagkkhldaa", sum := "7436a5a1f646aac2f599b87a11766d3da73b7a1d4b8603c108e8416ba15bef1b", func := "wigeon/wigeonlaw09.BookClimbs", spec := "bookClimbs", unfollowed := true, recurses := true, apart := false }
def BookClimbsSaid : Prop := bookClimbsRow.holds Try.pinned (OpenSpec.ofChange bookClimbsSpec)

/-- ITS FALSE NEIGHBOUR: 'it returns false'. Refute it at one input. -/
def bookClimbsWrong : ChangeSpec := { name := "bookClimbs", fn := fun _ => fun
  | [d] => { results := [.lit (.bool false)], args := [d] }
  | _ => none }
def BookClimbsWrongFalsely : Prop := bookClimbsRow.holds Try.pinned (OpenSpec.ofChange bookClimbsWrong)

/-- 'wigeonlaw09.BookChecks': WHATEVER THE INPUT: true; the input reads as it did. -/
def bookChecksSpec : ChangeSpec := { name := "bookChecks", fn := fun _ => fun
  | [d1, d2, d3] => { results := [.lit (.bool true)], args := [d1, d2, d3] }
  | _ => none }
def bookChecksRow : OpenClaim := { program := "ytklhjiagkkhldaa", sum := "7436a5a1f646aac2f599b87a11766d3da73b7a1d4b8603c108e8416ba15bef1b", func := "wigeon/wigeonlaw09.BookChecks", spec := "bookChecks", unfollowed := true, recurses := true, apart := false }
def BookChecksSaid : Prop := bookChecksRow.holds Try.pinned (OpenSpec.ofChange bookChecksSpec)

/-- ITS FALSE NEIGHBOUR: 'it returns false'. Refute it at one input. -/
def bookChecksWrong : ChangeSpec := { name := "bookChecks", fn := fun _ => fun
  | [d1, d2, d3] => { results := [.lit (.bool false)], args := [d1, d2, d3] }
  | _ => none }
def BookChecksWrongFalsely : Prop := bookChecksRow.holds Try.pinned (OpenSpec.ofChange bookChecksWrong)

/-- 'wigeonlaw09.BookGrowths': WHATEVER THE INPUT: true; the input reads as it did. -/
def bookGrowthsSpec : ChangeSpec := { name := "bookGrowths", fn := fun _ => fun
  | [d1, d2] => { results := [.lit (.bool true)], args := [d1, d2] }
  | _ => none }
def bookGrowthsRow : OpenClaim := { program := "ytklhjiagkkhldaa", sum := "7436a5a1f646aac2f599b87a11766d3da73b7a1d4b8603c108e8416ba15bef1b", func := "wigeon/wigeonlaw09.BookGrowths", spec := "bookGrowths", unfollowed := true, recurses := true, apart := false }
def BookGrowthsSaid : Prop := bookGrowthsRow.holds Try.pinned (OpenSpec.ofChange bookGrowthsSpec)

/-- ITS FALSE NEIGHBOUR: 'it returns false'. Refute it at one input. -/
def bookGrowthsWrong : ChangeSpec := { name := "bookGrowths", fn := fun _ => fun
  | [d1, d2] => { results := [.lit (.bool false)], args := [d1, d2] }
  | _ => none }
def BookGrowthsWrongFalsely : Prop := bookGrowthsRow.holds Try.pinned (OpenSpec.ofChange bookGrowthsWrong)

/-- 'wigeonlaw09.BookUnfolds': WHATEVER THE INPUT: true; the input reads as it did. -/
def bookUnfoldsSpec : ChangeSpec := { name := "bookUnfolds", fn := fun _ => fun
  | [d] => { results := [.lit (.bool true)], args := [d] }
  | _ => none }
def bookUnfoldsRow : OpenClaim := { program := "ytklhjiagkkhldaa", sum := "7436a5a1f646aac2f599b87a11766d3da73b7a1d4b8603c108e8416ba15bef1b", func := "wigeon/wigeonlaw09.BookUnfolds", spec := "bookUnfolds", unfollowed := true, recurses := true, apart := false }
def BookUnfoldsSaid : Prop := bookUnfoldsRow.holds Try.pinned (OpenSpec.ofChange bookUnfoldsSpec)

/-- ITS FALSE NEIGHBOUR: 'it returns false'. Refute it at one input. -/
def bookUnfoldsWrong : ChangeSpec := { name := "bookUnfolds", fn := fun _ => fun
  | [d] => { results := [.lit (.bool false)], args := [d] }
  | _ => none }
def BookUnfoldsWrongFalsely : Prop := bookUnfoldsRow.holds Try.pinned (OpenSpec.ofChange bookUnfoldsWrong)

/-- 'wigeonlaw09.BookCommons': WHATEVER THE INPUT: true; the input reads as it did. -/
def bookCommonsSpec : ChangeSpec := { name := "bookCommons", fn := fun _ => fun
  | [d1, d2] => { results := [.lit (.bool true)], args := [d1, d2] }
  | _ => none }
def bookCommonsRow : OpenClaim := { program := "ytklhjiagkkhldaa", sum := "7436a5a1f646aac2f599b87a11766d3da73b7a1d4b8603c108e8416ba15bef1b", func := "wigeon/wigeonlaw09.BookCommons", spec := "bookCommons", recurses := true, apart := false }
def BookCommonsSaid : Prop := bookCommonsRow.holds Try.pinned (OpenSpec.ofChange bookCommonsSpec)

/-- ITS FALSE NEIGHBOUR: 'it returns false'. Refute it at one input. -/
def bookCommonsWrong : ChangeSpec := { name := "bookCommons", fn := fun _ => fun
  | [d1, d2] => { results := [.lit (.bool false)], args := [d1, d2] }
  | _ => none }
def BookCommonsWrongFalsely : Prop := bookCommonsRow.holds Try.pinned (OpenSpec.ofChange bookCommonsWrong)

/- THE SECOND FORM. 'bulk': how many values and letters a reading holds, each counted each time it is reached (what is shared counts as often as it is met; a slice's spare places count too). A statement '..UptoSaid' is the law's where the arguments, and the package variables that the reading takes, are together of bulk at most 1048576: NARROWER than '..Said'. Prove '..Said' where nothing that the law and all that it calls make is longer than what came in: it says more and counts as full. Else prove '..UptoSaid'. A law counts once. -/
mutual
def uptoBulk {H : Type} : DataW H → Nat
  | .lit (.string bytes) => bytes.length + 1
  | .lit _ => 1
  | .nil => 1
  | .ptr d => uptoBulk d + 1
  | .slice elems spare => uptoBulkAll elems + uptoBulkAll spare + 1
  | .agg parts => uptoBulkAll parts + 1
  | .iface _ d => uptoBulk d + 1
  | .map entries => uptoBulkEntries entries + 1
  | .held _ => 1
def uptoBulkAll {H : Type} : List (DataW H) → Nat
  | [] => 0
  | d :: r => uptoBulk d + uptoBulkAll r
def uptoBulkEntries {H : Type} : List (Lit × DataW H) → Nat
  | [] => 0
  | x :: r => uptoBulkEntry x + uptoBulkEntries r
def uptoBulkEntry {H : Type} : Lit × DataW H → Nat
  | (.string bytes, d) => bytes.length + uptoBulk d + 1
  | (_, d) => uptoBulk d + 1
 end
def uptoSmall : (H : Type) → List (DataW H) → Bool := fun _ ds => decide (uptoBulkAll ds ≤ 1048576)
def OpenSpec.upto (s : _root_.Go.ChangeSpec) : _root_.Go.OpenSpec := { _root_.Go.OpenSpec.ofChange s with cond := some uptoSmall }

/-- 'wigeonlaw09.BookSums', WHERE WHAT IT READS IS OF BULK AT MOST 1048576: true; the input reads as it did. -/
def bookSumsUptoRow : OpenClaim := { program := "ytklhjiagkkhldaa", sum := "7436a5a1f646aac2f599b87a11766d3da73b7a1d4b8603c108e8416ba15bef1b", func := "wigeon/wigeonlaw09.BookSums", spec := "bookSums", recurses := true, apart := false, narrowed := true }
def BookSumsUptoSaid : Prop := bookSumsUptoRow.holds Try.pinned (OpenSpec.upto bookSumsSpec)

/-- 'wigeonlaw09.BookRoots', WHERE WHAT IT READS IS OF BULK AT MOST 1048576: true; the input reads as it did. -/
def bookRootsUptoRow : OpenClaim := { program := "ytklhjiagkkhldaa", sum := "7436a5a1f646aac2f599b87a11766d3da73b7a1d4b8603c108e8416ba15bef1b", func := "wigeon/wigeonlaw09.BookRoots", spec := "bookRoots", recurses := true, apart := false, narrowed := true }
def BookRootsUptoSaid : Prop := bookRootsUptoRow.holds Try.pinned (OpenSpec.upto bookRootsSpec)

/-- 'wigeonlaw09.BookSplits', WHERE WHAT IT READS IS OF BULK AT MOST 1048576: true; the input reads as it did. -/
def bookSplitsUptoRow : OpenClaim := { program := "ytklhjiagkkhldaa", sum := "7436a5a1f646aac2f599b87a11766d3da73b7a1d4b8603c108e8416ba15bef1b", func := "wigeon/wigeonlaw09.BookSplits", spec := "bookSplits", recurses := true, apart := false, narrowed := true }
def BookSplitsUptoSaid : Prop := bookSplitsUptoRow.holds Try.pinned (OpenSpec.upto bookSplitsSpec)

/-- 'wigeonlaw09.BookProofs', WHERE WHAT IT READS IS OF BULK AT MOST 1048576: true; the input reads as it did. -/
def bookProofsUptoRow : OpenClaim := { program := "ytklhjiagkkhldaa", sum := "7436a5a1f646aac2f599b87a11766d3da73b7a1d4b8603c108e8416ba15bef1b", func := "wigeon/wigeonlaw09.BookProofs", spec := "bookProofs", unfollowed := true, recurses := true, apart := false, narrowed := true }
def BookProofsUptoSaid : Prop := bookProofsUptoRow.holds Try.pinned (OpenSpec.upto bookProofsSpec)

/-- 'wigeonlaw09.BookClimbs', WHERE WHAT IT READS IS OF BULK AT MOST 1048576: true; the input reads as it did. -/
def bookClimbsUptoRow : OpenClaim := { program := "ytklhjiagkkhldaa", sum := "7436a5a1f646aac2f599b87a11766d3da73b7a1d4b8603c108e8416ba15bef1b", func := "wigeon/wigeonlaw09.BookClimbs", spec := "bookClimbs", unfollowed := true, recurses := true, apart := false, narrowed := true }
def BookClimbsUptoSaid : Prop := bookClimbsUptoRow.holds Try.pinned (OpenSpec.upto bookClimbsSpec)

/-- 'wigeonlaw09.BookChecks', WHERE WHAT IT READS IS OF BULK AT MOST 1048576: true; the input reads as it did. -/
def bookChecksUptoRow : OpenClaim := { program := "ytklhjiagkkhldaa", sum := "7436a5a1f646aac2f599b87a11766d3da73b7a1d4b8603c108e8416ba15bef1b", func := "wigeon/wigeonlaw09.BookChecks", spec := "bookChecks", unfollowed := true, recurses := true, apart := false, narrowed := true }
def BookChecksUptoSaid : Prop := bookChecksUptoRow.holds Try.pinned (OpenSpec.upto bookChecksSpec)

/-- 'wigeonlaw09.BookGrowths', WHERE WHAT IT READS IS OF BULK AT MOST 1048576: true; the input reads as it did. -/
def bookGrowthsUptoRow : OpenClaim := { program := "ytklhjiagkkhldaa", sum := "7436a5a1f646aac2f599b87a11766d3da73b7a1d4b8603c108e8416ba15bef1b", func := "wigeon/wigeonlaw09.BookGrowths", spec := "bookGrowths", unfollowed := true, recurses := true, apart := false, narrowed := true }
def BookGrowthsUptoSaid : Prop := bookGrowthsUptoRow.holds Try.pinned (OpenSpec.upto bookGrowthsSpec)

/-- 'wigeonlaw09.BookUnfolds', WHERE WHAT IT READS IS OF BULK AT MOST 1048576: true; the input reads as it did. -/
def bookUnfoldsUptoRow : OpenClaim := { program := "ytklhjiagkkhldaa", sum := "7436a5a1f646aac2f599b87a11766d3da73b7a1d4b8603c108e8416ba15bef1b", func := "wigeon/wigeonlaw09.BookUnfolds", spec := "bookUnfolds", unfollowed := true, recurses := true, apart := false, narrowed := true }
def BookUnfoldsUptoSaid : Prop := bookUnfoldsUptoRow.holds Try.pinned (OpenSpec.upto bookUnfoldsSpec)

/-- 'wigeonlaw09.BookCommons', WHERE WHAT IT READS IS OF BULK AT MOST 1048576: true; the input reads as it did. -/
def bookCommonsUptoRow : OpenClaim := { program := "ytklhjiagkkhldaa", sum := "7436a5a1f646aac2f599b87a11766d3da73b7a1d4b8603c108e8416ba15bef1b", func := "wigeon/wigeonlaw09.BookCommons", spec := "bookCommons", recurses := true, apart := false, narrowed := true }
def BookCommonsUptoSaid : Prop := bookCommonsUptoRow.holds Try.pinned (OpenSpec.upto bookCommonsSpec)

end Rows
end Go.Proofs.Ytklhjiagkkhldaa
