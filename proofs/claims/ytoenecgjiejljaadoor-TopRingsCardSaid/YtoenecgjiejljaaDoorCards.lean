/-
  DERIVED. GIVEN WITH THE SEED: THE CARDS: each row of YtoenecgjiejljaaDoorRows.lean that lists a variable, with what it lists TIED to the program's text (the seventh form; the later family's looks); each row that meets fmt, with fmt's text TOLD by the authors' own Lean function (tested against real Go, not proved from fmt's source: count such statements apart). THE CARD IS WHAT COUNTS. Prove the row's statement (the work); the ties are given (YtoenecgjiejljaaDoorTie.lean); close each card by the builder's one call (the guide's Derived/Test/ToyasCard.lean, 'card_holds'). Laid BY PROGRAM, IN A SANDBOX (cutbox-door.mjs). By AI agents, Wed Nov 11 2026. No macro, syntax, notation, axiom, sorry.
-/
import Derived.Test.YtoenecgjiejljaaDoorRows
import GoSem.ClaimSeven
namespace Go.Proofs.YtoenecgjiejljaaDoor
namespace Rows

/-- THE TIED CARD OF 'wigeonlaw01.RingReads'. -/
def ringReadsCard : Claim7 := { stood := { row := ringReadsRow, standIns := [], harness := (true, "fd12ab1a887927560f5683344741dce6f545bf380fda18f12e709895425efe83"), looks := true }, kinds := [], alts := [], laidByText := true, laidKinds := [.data, .data, .data, .data, .data], laidTests := true, laidLooks := .later }
def RingReadsCardSaid : Prop := Claim7.holds Tryd.pinned (.plain (OpenSpec.ofChange ringReadsSpec)) ringReadsCard

/-- THE TIED CARD OF 'wigeonlaw01.RingMakes'. -/
def ringMakesCard : Claim7 := { stood := { row := ringMakesRow, standIns := [], harness := (true, "fd12ab1a887927560f5683344741dce6f545bf380fda18f12e709895425efe83"), looks := true }, kinds := [], alts := [], laidByText := true, laidKinds := [.data, .data, .data, .data, .data], laidTests := true, laidLooks := .later }
def RingMakesCardSaid : Prop := Claim7.holds Tryd.pinned (.plain (OpenSpec.ofChange ringMakesSpec)) ringMakesCard

/-- THE TIED CARD OF 'wigeonlaw01.RingNears'. -/
def ringNearsCard : Claim7 := { stood := { row := ringNearsRow, standIns := [], harness := (true, "fd12ab1a887927560f5683344741dce6f545bf380fda18f12e709895425efe83"), looks := true }, kinds := [], alts := [], laidByText := true, laidKinds := [.data, .data], laidTests := true, laidLooks := .later }
def RingNearsCardSaid : Prop := Claim7.holds Tryd.pinned (.plain (OpenSpec.ofChange ringNearsSpec)) ringNearsCard

/-- THE TIED CARD OF 'wigeonlaw01.RingCounts'. -/
def ringCountsCard : Claim7 := { stood := { row := ringCountsRow, standIns := [], harness := (true, "fd12ab1a887927560f5683344741dce6f545bf380fda18f12e709895425efe83"), looks := true }, kinds := [], alts := [], laidByText := true, laidKinds := [.data, .data, .data, .pinned], laidTests := true, laidLooks := .later }
def RingCountsCardSaid : Prop := Claim7.holds Tryd.pinned (.plain (OpenSpec.ofChange ringCountsSpec)) ringCountsCard

/-- THE TIED CARD OF 'wigeonlaw01.RingRestores'. -/
def ringRestoresCard : Claim7 := { stood := { row := ringRestoresRow, standIns := [], harness := (true, "fd12ab1a887927560f5683344741dce6f545bf380fda18f12e709895425efe83"), looks := true }, kinds := [], alts := [], laidByText := true, laidKinds := [.data, .data, .data, .data, .data, .data, .pinned], laidTests := true, laidLooks := .later }
def RingRestoresCardSaid : Prop := Claim7.holds Tryd.pinned (.plain (OpenSpec.ofChange ringRestoresSpec)) ringRestoresCard

/-- THE TIED CARD OF 'wigeonlaw01.RingJoins'. -/
def ringJoinsCard : Claim7 := { stood := { row := ringJoinsRow, standIns := [], harness := (true, "fd12ab1a887927560f5683344741dce6f545bf380fda18f12e709895425efe83"), looks := true }, kinds := [], alts := [], laidByText := true, laidKinds := [.data, .data], laidTests := true, laidLooks := .later }
def RingJoinsCardSaid : Prop := Claim7.holds Tryd.pinned (.plain (OpenSpec.ofChange ringJoinsSpec)) ringJoinsCard

/-- THE TIED CARD OF 'wigeontop.TopRings'. -/
def topRingsCard : Claim7 := { stood := { row := topRingsRow, standIns := [], harness := (true, "fd12ab1a887927560f5683344741dce6f545bf380fda18f12e709895425efe83"), looks := true }, kinds := [], alts := [], laidByText := true, laidKinds := [.data, .data, .data, .data, .data, .data, .pinned], laidTests := true, laidLooks := .later }
def TopRingsCardSaid : Prop := Claim7.holds Tryd.pinned (.plain (OpenSpec.ofChange topRingsSpec)) topRingsCard

/-- THE TIED CARD OF 'wigeonlaw09.BookWrites'. -/
def bookWritesCard : Claim7 := { stood := { row := bookWritesRow, standIns := [], harness := (true, "fd12ab1a887927560f5683344741dce6f545bf380fda18f12e709895425efe83"), looks := true }, kinds := [], alts := [], laidByText := true, laidKinds := [.data, .data, .data, .sentinel, .sentinel], laidTests := true, laidLooks := .later }
def BookWritesCardSaid : Prop := Claim7.holds Tryd.pinned (.plain (OpenSpec.ofChange bookWritesSpec)) bookWritesCard

/-- THE TIED CARD OF 'wigeontop.TopBook'. -/
def topBookCard : Claim7 := { stood := { row := topBookRow, standIns := [], harness := (true, "fd12ab1a887927560f5683344741dce6f545bf380fda18f12e709895425efe83"), looks := true }, kinds := [], alts := [], laidByText := true, laidKinds := [.data, .data, .data, .sentinel, .sentinel], laidTests := true, laidLooks := .later }
def TopBookCardSaid : Prop := Claim7.holds Tryd.pinned (.plain (OpenSpec.ofChange topBookSpec)) topBookCard

/-- THE SECOND FORM's CARD OF 'wigeonlaw01.RingReads'. -/
def ringReadsUptoCard : Claim7 := { stood := { row := ringReadsUptoRow, standIns := [], harness := (true, "fd12ab1a887927560f5683344741dce6f545bf380fda18f12e709895425efe83"), looks := true }, kinds := [], alts := [], laidByText := true, laidKinds := [.data, .data, .data, .data, .data], laidTests := true, laidLooks := .later }
def RingReadsUptoCardSaid : Prop := Claim7.holds Tryd.pinned (.plain (OpenSpec.upto ringReadsSpec)) ringReadsUptoCard

/-- THE SECOND FORM's CARD OF 'wigeonlaw01.RingMakes'. -/
def ringMakesUptoCard : Claim7 := { stood := { row := ringMakesUptoRow, standIns := [], harness := (true, "fd12ab1a887927560f5683344741dce6f545bf380fda18f12e709895425efe83"), looks := true }, kinds := [], alts := [], laidByText := true, laidKinds := [.data, .data, .data, .data, .data], laidTests := true, laidLooks := .later }
def RingMakesUptoCardSaid : Prop := Claim7.holds Tryd.pinned (.plain (OpenSpec.upto ringMakesSpec)) ringMakesUptoCard

/-- THE SECOND FORM's CARD OF 'wigeonlaw01.RingNears'. -/
def ringNearsUptoCard : Claim7 := { stood := { row := ringNearsUptoRow, standIns := [], harness := (true, "fd12ab1a887927560f5683344741dce6f545bf380fda18f12e709895425efe83"), looks := true }, kinds := [], alts := [], laidByText := true, laidKinds := [.data, .data], laidTests := true, laidLooks := .later }
def RingNearsUptoCardSaid : Prop := Claim7.holds Tryd.pinned (.plain (OpenSpec.upto ringNearsSpec)) ringNearsUptoCard

/-- THE SECOND FORM's CARD OF 'wigeonlaw01.RingCounts'. -/
def ringCountsUptoCard : Claim7 := { stood := { row := ringCountsUptoRow, standIns := [], harness := (true, "fd12ab1a887927560f5683344741dce6f545bf380fda18f12e709895425efe83"), looks := true }, kinds := [], alts := [], laidByText := true, laidKinds := [.data, .data, .data, .pinned], laidTests := true, laidLooks := .later }
def RingCountsUptoCardSaid : Prop := Claim7.holds Tryd.pinned (.plain (OpenSpec.upto ringCountsSpec)) ringCountsUptoCard

/-- THE SECOND FORM's CARD OF 'wigeonlaw01.RingRestores'. -/
def ringRestoresUptoCard : Claim7 := { stood := { row := ringRestoresUptoRow, standIns := [], harness := (true, "fd12ab1a887927560f5683344741dce6f545bf380fda18f12e709895425efe83"), looks := true }, kinds := [], alts := [], laidByText := true, laidKinds := [.data, .data, .data, .data, .data, .data, .pinned], laidTests := true, laidLooks := .later }
def RingRestoresUptoCardSaid : Prop := Claim7.holds Tryd.pinned (.plain (OpenSpec.upto ringRestoresSpec)) ringRestoresUptoCard

/-- THE SECOND FORM's CARD OF 'wigeonlaw01.RingJoins'. -/
def ringJoinsUptoCard : Claim7 := { stood := { row := ringJoinsUptoRow, standIns := [], harness := (true, "fd12ab1a887927560f5683344741dce6f545bf380fda18f12e709895425efe83"), looks := true }, kinds := [], alts := [], laidByText := true, laidKinds := [.data, .data], laidTests := true, laidLooks := .later }
def RingJoinsUptoCardSaid : Prop := Claim7.holds Tryd.pinned (.plain (OpenSpec.upto ringJoinsSpec)) ringJoinsUptoCard

/-- THE SECOND FORM's CARD OF 'wigeontop.TopRings'. -/
def topRingsUptoCard : Claim7 := { stood := { row := topRingsUptoRow, standIns := [], harness := (true, "fd12ab1a887927560f5683344741dce6f545bf380fda18f12e709895425efe83"), looks := true }, kinds := [], alts := [], laidByText := true, laidKinds := [.data, .data, .data, .data, .data, .data, .pinned], laidTests := true, laidLooks := .later }
def TopRingsUptoCardSaid : Prop := Claim7.holds Tryd.pinned (.plain (OpenSpec.upto topRingsSpec)) topRingsUptoCard

/-- THE SECOND FORM's CARD OF 'wigeonlaw09.BookWrites'. -/
def bookWritesUptoCard : Claim7 := { stood := { row := bookWritesUptoRow, standIns := [], harness := (true, "fd12ab1a887927560f5683344741dce6f545bf380fda18f12e709895425efe83"), looks := true }, kinds := [], alts := [], laidByText := true, laidKinds := [.data, .data, .data, .sentinel, .sentinel], laidTests := true, laidLooks := .later }
def BookWritesUptoCardSaid : Prop := Claim7.holds Tryd.pinned (.plain (OpenSpec.upto bookWritesSpec)) bookWritesUptoCard

/-- THE SECOND FORM's CARD OF 'wigeontop.TopBook'. -/
def topBookUptoCard : Claim7 := { stood := { row := topBookUptoRow, standIns := [], harness := (true, "fd12ab1a887927560f5683344741dce6f545bf380fda18f12e709895425efe83"), looks := true }, kinds := [], alts := [], laidByText := true, laidKinds := [.data, .data, .data, .sentinel, .sentinel], laidTests := true, laidLooks := .later }
def TopBookUptoCardSaid : Prop := Claim7.holds Tryd.pinned (.plain (OpenSpec.upto topBookSpec)) topBookUptoCard
end Rows
end Go.Proofs.YtoenecgjiejljaaDoor
