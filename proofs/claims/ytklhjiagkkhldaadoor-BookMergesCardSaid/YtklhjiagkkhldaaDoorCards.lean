/-
  DERIVED. GIVEN WITH THE SEED: THE CARDS: each row of YtklhjiagkkhldaaDoorRows.lean that lists a variable, with what it lists TIED to the program's text (the seventh form; the later family's looks); each row that meets fmt, with fmt's text TOLD by the authors' own Lean function (tested against real Go, not proved from fmt's source: count such statements apart). THE CARD IS WHAT COUNTS. Prove the row's statement (the work); the ties are given (YtklhjiagkkhldaaDoorTie.lean); close each card by the builder's one call (the guide's Derived/Test/ToyasCard.lean, 'card_holds'). Laid BY PROGRAM, IN A SANDBOX (cutbox-door.mjs). By AI agents, Wed Nov 11 2026. No macro, syntax, notation, axiom, sorry.
-/
import Derived.Test.YtklhjiagkkhldaaDoorRows
import GoSem.ClaimSeven
namespace Go.Proofs.YtklhjiagkkhldaaDoor
namespace Rows

/-- THE TIED CARD OF 'wigeonlaw09.BookWrites'. -/
def bookWritesCard : Claim7 := { stood := { row := bookWritesRow, standIns := [], harness := (true, "a3a68b4c35967f688578ce8acbc45353b241e6da0f1b66f78768d804bd1a72e4"), looks := true }, kinds := [], alts := [], laidByText := true, laidKinds := [.data, .data, .data, .sentinel, .sentinel], laidTests := true, laidLooks := .later }
def BookWritesCardSaid : Prop := Claim7.holds Tryd.pinned (.plain (OpenSpec.ofChange bookWritesSpec)) bookWritesCard

/-- THE TIED CARD OF 'wigeonlaw09.BookReads'. -/
def bookReadsCard : Claim7 := { stood := { row := bookReadsRow, standIns := [], harness := (true, "a3a68b4c35967f688578ce8acbc45353b241e6da0f1b66f78768d804bd1a72e4"), looks := true }, kinds := [], alts := [], laidByText := true, laidKinds := [.data, .data, .data, .sentinel, .sentinel], laidTests := true, laidLooks := .later }
def BookReadsCardSaid : Prop := Claim7.holds Tryd.pinned (.plain (OpenSpec.ofChange bookReadsSpec)) bookReadsCard

/-- THE TIED CARD OF 'wigeonlaw09.BookMerges'. -/
def bookMergesCard : Claim7 := { stood := { row := bookMergesRow, standIns := [], harness := (true, "a3a68b4c35967f688578ce8acbc45353b241e6da0f1b66f78768d804bd1a72e4"), looks := true }, kinds := [], alts := [], laidByText := true, laidKinds := [.data, .data, .data, .sentinel, .sentinel], laidTests := true, laidLooks := .later }
def BookMergesCardSaid : Prop := Claim7.holds Tryd.pinned (.plain (OpenSpec.ofChange bookMergesSpec)) bookMergesCard

/-- THE SECOND FORM's CARD OF 'wigeonlaw09.BookWrites'. -/
def bookWritesUptoCard : Claim7 := { stood := { row := bookWritesUptoRow, standIns := [], harness := (true, "a3a68b4c35967f688578ce8acbc45353b241e6da0f1b66f78768d804bd1a72e4"), looks := true }, kinds := [], alts := [], laidByText := true, laidKinds := [.data, .data, .data, .sentinel, .sentinel], laidTests := true, laidLooks := .later }
def BookWritesUptoCardSaid : Prop := Claim7.holds Tryd.pinned (.plain (OpenSpec.upto bookWritesSpec)) bookWritesUptoCard

/-- THE SECOND FORM's CARD OF 'wigeonlaw09.BookReads'. -/
def bookReadsUptoCard : Claim7 := { stood := { row := bookReadsUptoRow, standIns := [], harness := (true, "a3a68b4c35967f688578ce8acbc45353b241e6da0f1b66f78768d804bd1a72e4"), looks := true }, kinds := [], alts := [], laidByText := true, laidKinds := [.data, .data, .data, .sentinel, .sentinel], laidTests := true, laidLooks := .later }
def BookReadsUptoCardSaid : Prop := Claim7.holds Tryd.pinned (.plain (OpenSpec.upto bookReadsSpec)) bookReadsUptoCard

/-- THE SECOND FORM's CARD OF 'wigeonlaw09.BookMerges'. -/
def bookMergesUptoCard : Claim7 := { stood := { row := bookMergesUptoRow, standIns := [], harness := (true, "a3a68b4c35967f688578ce8acbc45353b241e6da0f1b66f78768d804bd1a72e4"), looks := true }, kinds := [], alts := [], laidByText := true, laidKinds := [.data, .data, .data, .sentinel, .sentinel], laidTests := true, laidLooks := .later }
def BookMergesUptoCardSaid : Prop := Claim7.holds Tryd.pinned (.plain (OpenSpec.upto bookMergesSpec)) bookMergesUptoCard
end Rows
end Go.Proofs.YtklhjiagkkhldaaDoor
