/-
  DERIVED. GIVEN WITH THE SEED: THE CARDS: each row of YtgpghnhpbjnhkaaDoorRows.lean that lists a variable, with what it lists TIED to the program's text (the seventh form; the later family's looks); each row that meets fmt, with fmt's text TOLD by the authors' own Lean function (tested against real Go, not proved from fmt's source: count such statements apart). THE CARD IS WHAT COUNTS. Prove the row's statement (the work); the ties are given (YtgpghnhpbjnhkaaDoorTie.lean); close each card by the builder's one call (the guide's Derived/Test/ToyasCard.lean, 'card_holds'). Laid BY PROGRAM, IN A SANDBOX (cutbox-door.mjs). By AI agents, Wed Nov 11 2026. No macro, syntax, notation, axiom, sorry.
-/
import Derived.Test.YtgpghnhpbjnhkaaDoorRows
import GoSem.ClaimSeven
namespace Go.Proofs.YtgpghnhpbjnhkaaDoor
namespace Rows

/-- THE TIED CARD OF 'wigeonlaw06.CountHistories'. -/
def countHistoriesCard : Claim7 := { stood := { row := countHistoriesRow, standIns := [], harness := (true, "2800a70139056a9b4ffea9f2f2bffd23dbe07bd5de08e199b6ac02b339a278dd"), looks := false }, kinds := [], alts := [], laidByText := true, laidKinds := [.data, .pinned], laidTests := true, laidLooks := .later }
def CountHistoriesCardSaid : Prop := Claim7.holds Tryd.pinned (.plain (OpenSpec.ofChange countHistoriesSpec)) countHistoriesCard

/-- THE TIED CARD OF 'wigeonlaw06.CountLives'. -/
def countLivesCard : Claim7 := { stood := { row := countLivesRow, standIns := [], harness := (true, "2800a70139056a9b4ffea9f2f2bffd23dbe07bd5de08e199b6ac02b339a278dd"), looks := false }, kinds := [], alts := [], laidByText := true, laidKinds := [.data, .pinned], laidTests := true, laidLooks := .later }
def CountLivesCardSaid : Prop := Claim7.holds Tryd.pinned (.plain (OpenSpec.ofChange countLivesSpec)) countLivesCard

/-- THE SECOND FORM's CARD OF 'wigeonlaw06.CountHistories'. -/
def countHistoriesUptoCard : Claim7 := { stood := { row := countHistoriesUptoRow, standIns := [], harness := (true, "2800a70139056a9b4ffea9f2f2bffd23dbe07bd5de08e199b6ac02b339a278dd"), looks := false }, kinds := [], alts := [], laidByText := true, laidKinds := [.data, .pinned], laidTests := true, laidLooks := .later }
def CountHistoriesUptoCardSaid : Prop := Claim7.holds Tryd.pinned (.plain (OpenSpec.upto countHistoriesSpec)) countHistoriesUptoCard

/-- THE SECOND FORM's CARD OF 'wigeonlaw06.CountLives'. -/
def countLivesUptoCard : Claim7 := { stood := { row := countLivesUptoRow, standIns := [], harness := (true, "2800a70139056a9b4ffea9f2f2bffd23dbe07bd5de08e199b6ac02b339a278dd"), looks := false }, kinds := [], alts := [], laidByText := true, laidKinds := [.data, .pinned], laidTests := true, laidLooks := .later }
def CountLivesUptoCardSaid : Prop := Claim7.holds Tryd.pinned (.plain (OpenSpec.upto countLivesSpec)) countLivesUptoCard
end Rows
end Go.Proofs.YtgpghnhpbjnhkaaDoor
