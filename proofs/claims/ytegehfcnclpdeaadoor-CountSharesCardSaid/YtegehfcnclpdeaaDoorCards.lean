/-
  DERIVED. GIVEN WITH THE SEED: THE CARDS: each row of YtegehfcnclpdeaaDoorRows.lean that lists a variable, with what it lists TIED to the program's text (the seventh form; the later family's looks); each row that meets fmt, with fmt's text TOLD by the authors' own Lean function (tested against real Go, not proved from fmt's source: count such statements apart). THE CARD IS WHAT COUNTS. Prove the row's statement (the work); the ties are given (YtegehfcnclpdeaaDoorTie.lean); close each card by the builder's one call (the guide's Derived/Test/ToyasCard.lean, 'card_holds'). Laid BY PROGRAM, IN A SANDBOX (cutbox-door.mjs). By AI agents, Wed Nov 11 2026. No macro, syntax, notation, axiom, sorry.
-/
import Derived.Test.YtegehfcnclpdeaaDoorRows
import GoSem.ClaimSeven
namespace Go.Proofs.YtegehfcnclpdeaaDoor
namespace Rows

/-- THE TIED CARD OF 'wigeonlaw06.CountShares'. -/
def countSharesCard : Claim7 := { stood := { row := countSharesRow, standIns := [], harness := (true, "ee93e8c23b26ba389d6da0fb70c189b3a915368f9e26af46cb6ec68365548b6c"), looks := false }, kinds := [], alts := [], laidByText := true, laidKinds := [.data, .pinned], laidTests := true, laidLooks := .later }
def CountSharesCardSaid : Prop := Claim7.holds Tryd.pinned (.plain (OpenSpec.ofChange countSharesSpec)) countSharesCard

/-- THE SECOND FORM's CARD OF 'wigeonlaw06.CountShares'. -/
def countSharesUptoCard : Claim7 := { stood := { row := countSharesUptoRow, standIns := [], harness := (true, "ee93e8c23b26ba389d6da0fb70c189b3a915368f9e26af46cb6ec68365548b6c"), looks := false }, kinds := [], alts := [], laidByText := true, laidKinds := [.data, .pinned], laidTests := true, laidLooks := .later }
def CountSharesUptoCardSaid : Prop := Claim7.holds Tryd.pinned (.plain (OpenSpec.upto countSharesSpec)) countSharesUptoCard
end Rows
end Go.Proofs.YtegehfcnclpdeaaDoor
