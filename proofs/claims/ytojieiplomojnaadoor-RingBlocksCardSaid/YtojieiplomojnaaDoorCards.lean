/-
  DERIVED. GIVEN WITH THE SEED: THE CARDS: each row of YtojieiplomojnaaDoorRows.lean that lists a variable, with what it lists TIED to the program's text (the seventh form; the later family's looks); each row that meets fmt, with fmt's text TOLD by the authors' own Lean function (tested against real Go, not proved from fmt's source: count such statements apart). THE CARD IS WHAT COUNTS. Prove the row's statement (the work); the ties are given (YtojieiplomojnaaDoorTie.lean); close each card by the builder's one call (the guide's Derived/Test/ToyasCard.lean, 'card_holds'). Laid BY PROGRAM, IN A SANDBOX (cutbox-door.mjs). By AI agents, Wed Nov 11 2026. No macro, syntax, notation, axiom, sorry.
-/
import Derived.Test.YtojieiplomojnaaDoorRows
import GoSem.ClaimSeven
namespace Go.Proofs.YtojieiplomojnaaDoor
namespace Rows

/-- THE TIED CARD OF 'wigeonlaw01.RingTimes'. -/
def ringTimesCard : Claim7 := { stood := { row := ringTimesRow, standIns := [], harness := (true, "53bcdb7f6641e9daaea6d94a4ada8aeaf15ce271d1c1c88a2c8f102e0c560ad9"), looks := false }, kinds := [], alts := [], laidByText := true, laidKinds := [.data, .data], laidTests := true, laidLooks := .later }
def RingTimesCardSaid : Prop := Claim7.holds Tryd.pinned (.plain (OpenSpec.ofChange ringTimesSpec)) ringTimesCard

/-- THE TIED CARD OF 'wigeonlaw01.RingGroups'. -/
def ringGroupsCard : Claim7 := { stood := { row := ringGroupsRow, standIns := [], harness := (true, "53bcdb7f6641e9daaea6d94a4ada8aeaf15ce271d1c1c88a2c8f102e0c560ad9"), looks := false }, kinds := [], alts := [], laidByText := true, laidKinds := [.data, .data], laidTests := true, laidLooks := .later }
def RingGroupsCardSaid : Prop := Claim7.holds Tryd.pinned (.plain (OpenSpec.ofChange ringGroupsSpec)) ringGroupsCard

/-- THE TIED CARD OF 'wigeonlaw01.RingSums'. -/
def ringSumsCard : Claim7 := { stood := { row := ringSumsRow, standIns := [], harness := (true, "53bcdb7f6641e9daaea6d94a4ada8aeaf15ce271d1c1c88a2c8f102e0c560ad9"), looks := false }, kinds := [], alts := [], laidByText := true, laidKinds := [.data, .data], laidTests := true, laidLooks := .later }
def RingSumsCardSaid : Prop := Claim7.holds Tryd.pinned (.plain (OpenSpec.ofChange ringSumsSpec)) ringSumsCard

/-- THE TIED CARD OF 'wigeonlaw01.RingFinds'. -/
def ringFindsCard : Claim7 := { stood := { row := ringFindsRow, standIns := [], harness := (true, "53bcdb7f6641e9daaea6d94a4ada8aeaf15ce271d1c1c88a2c8f102e0c560ad9"), looks := false }, kinds := [], alts := [], laidByText := true, laidKinds := [.data, .data], laidTests := true, laidLooks := .later }
def RingFindsCardSaid : Prop := Claim7.holds Tryd.pinned (.plain (OpenSpec.ofChange ringFindsSpec)) ringFindsCard

/-- THE TIED CARD OF 'wigeonlaw01.RingReads'. -/
def ringReadsCard : Claim7 := { stood := { row := ringReadsRow, standIns := [], harness := (true, "53bcdb7f6641e9daaea6d94a4ada8aeaf15ce271d1c1c88a2c8f102e0c560ad9"), looks := false }, kinds := [], alts := [], laidByText := true, laidKinds := [.data, .data, .data, .data, .data], laidTests := true, laidLooks := .later }
def RingReadsCardSaid : Prop := Claim7.holds Tryd.pinned (.plain (OpenSpec.ofChange ringReadsSpec)) ringReadsCard

/-- THE TIED CARD OF 'wigeonlaw01.RingMakes'. -/
def ringMakesCard : Claim7 := { stood := { row := ringMakesRow, standIns := [], harness := (true, "53bcdb7f6641e9daaea6d94a4ada8aeaf15ce271d1c1c88a2c8f102e0c560ad9"), looks := false }, kinds := [], alts := [], laidByText := true, laidKinds := [.data, .data, .data, .data, .data], laidTests := true, laidLooks := .later }
def RingMakesCardSaid : Prop := Claim7.holds Tryd.pinned (.plain (OpenSpec.ofChange ringMakesSpec)) ringMakesCard

/-- THE TIED CARD OF 'wigeonlaw01.RingNears'. -/
def ringNearsCard : Claim7 := { stood := { row := ringNearsRow, standIns := [], harness := (true, "53bcdb7f6641e9daaea6d94a4ada8aeaf15ce271d1c1c88a2c8f102e0c560ad9"), looks := false }, kinds := [], alts := [], laidByText := true, laidKinds := [.data, .data], laidTests := true, laidLooks := .later }
def RingNearsCardSaid : Prop := Claim7.holds Tryd.pinned (.plain (OpenSpec.ofChange ringNearsSpec)) ringNearsCard

/-- THE TIED CARD OF 'wigeonlaw01.RingFits'. -/
def ringFitsCard : Claim7 := { stood := { row := ringFitsRow, standIns := [], harness := (true, "53bcdb7f6641e9daaea6d94a4ada8aeaf15ce271d1c1c88a2c8f102e0c560ad9"), looks := false }, kinds := [], alts := [], laidByText := true, laidKinds := [.data, .data], laidTests := true, laidLooks := .later }
def RingFitsCardSaid : Prop := Claim7.holds Tryd.pinned (.plain (OpenSpec.ofChange ringFitsSpec)) ringFitsCard

/-- THE TIED CARD OF 'wigeonlaw01.RingCounts'. -/
def ringCountsCard : Claim7 := { stood := { row := ringCountsRow, standIns := [], harness := (true, "53bcdb7f6641e9daaea6d94a4ada8aeaf15ce271d1c1c88a2c8f102e0c560ad9"), looks := false }, kinds := [], alts := [], laidByText := true, laidKinds := [.data, .data, .data, .pinned], laidTests := true, laidLooks := .later }
def RingCountsCardSaid : Prop := Claim7.holds Tryd.pinned (.plain (OpenSpec.ofChange ringCountsSpec)) ringCountsCard

/-- THE TIED CARD OF 'wigeonlaw01.RingRestores'. -/
def ringRestoresCard : Claim7 := { stood := { row := ringRestoresRow, standIns := [], harness := (true, "53bcdb7f6641e9daaea6d94a4ada8aeaf15ce271d1c1c88a2c8f102e0c560ad9"), looks := false }, kinds := [], alts := [], laidByText := true, laidKinds := [.data, .data, .data, .data, .data, .data, .pinned], laidTests := true, laidLooks := .later }
def RingRestoresCardSaid : Prop := Claim7.holds Tryd.pinned (.plain (OpenSpec.ofChange ringRestoresSpec)) ringRestoresCard

/-- THE TIED CARD OF 'wigeonlaw01.RingBlocks'. -/
def ringBlocksCard : Claim7 := { stood := { row := ringBlocksRow, standIns := [], harness := (true, "53bcdb7f6641e9daaea6d94a4ada8aeaf15ce271d1c1c88a2c8f102e0c560ad9"), looks := false }, kinds := [], alts := [], laidByText := true, laidKinds := [.data, .data], laidTests := true, laidLooks := .later }
def RingBlocksCardSaid : Prop := Claim7.holds Tryd.pinned (.plain (OpenSpec.ofChange ringBlocksSpec)) ringBlocksCard

/-- THE TIED CARD OF 'wigeonlaw01.RingJoins'. -/
def ringJoinsCard : Claim7 := { stood := { row := ringJoinsRow, standIns := [], harness := (true, "53bcdb7f6641e9daaea6d94a4ada8aeaf15ce271d1c1c88a2c8f102e0c560ad9"), looks := false }, kinds := [], alts := [], laidByText := true, laidKinds := [.data, .data], laidTests := true, laidLooks := .later }
def RingJoinsCardSaid : Prop := Claim7.holds Tryd.pinned (.plain (OpenSpec.ofChange ringJoinsSpec)) ringJoinsCard

/-- THE SECOND FORM's CARD OF 'wigeonlaw01.RingTimes'. -/
def ringTimesUptoCard : Claim7 := { stood := { row := ringTimesUptoRow, standIns := [], harness := (true, "53bcdb7f6641e9daaea6d94a4ada8aeaf15ce271d1c1c88a2c8f102e0c560ad9"), looks := false }, kinds := [], alts := [], laidByText := true, laidKinds := [.data, .data], laidTests := true, laidLooks := .later }
def RingTimesUptoCardSaid : Prop := Claim7.holds Tryd.pinned (.plain (OpenSpec.upto ringTimesSpec)) ringTimesUptoCard

/-- THE SECOND FORM's CARD OF 'wigeonlaw01.RingGroups'. -/
def ringGroupsUptoCard : Claim7 := { stood := { row := ringGroupsUptoRow, standIns := [], harness := (true, "53bcdb7f6641e9daaea6d94a4ada8aeaf15ce271d1c1c88a2c8f102e0c560ad9"), looks := false }, kinds := [], alts := [], laidByText := true, laidKinds := [.data, .data], laidTests := true, laidLooks := .later }
def RingGroupsUptoCardSaid : Prop := Claim7.holds Tryd.pinned (.plain (OpenSpec.upto ringGroupsSpec)) ringGroupsUptoCard

/-- THE SECOND FORM's CARD OF 'wigeonlaw01.RingSums'. -/
def ringSumsUptoCard : Claim7 := { stood := { row := ringSumsUptoRow, standIns := [], harness := (true, "53bcdb7f6641e9daaea6d94a4ada8aeaf15ce271d1c1c88a2c8f102e0c560ad9"), looks := false }, kinds := [], alts := [], laidByText := true, laidKinds := [.data, .data], laidTests := true, laidLooks := .later }
def RingSumsUptoCardSaid : Prop := Claim7.holds Tryd.pinned (.plain (OpenSpec.upto ringSumsSpec)) ringSumsUptoCard

/-- THE SECOND FORM's CARD OF 'wigeonlaw01.RingFinds'. -/
def ringFindsUptoCard : Claim7 := { stood := { row := ringFindsUptoRow, standIns := [], harness := (true, "53bcdb7f6641e9daaea6d94a4ada8aeaf15ce271d1c1c88a2c8f102e0c560ad9"), looks := false }, kinds := [], alts := [], laidByText := true, laidKinds := [.data, .data], laidTests := true, laidLooks := .later }
def RingFindsUptoCardSaid : Prop := Claim7.holds Tryd.pinned (.plain (OpenSpec.upto ringFindsSpec)) ringFindsUptoCard

/-- THE SECOND FORM's CARD OF 'wigeonlaw01.RingReads'. -/
def ringReadsUptoCard : Claim7 := { stood := { row := ringReadsUptoRow, standIns := [], harness := (true, "53bcdb7f6641e9daaea6d94a4ada8aeaf15ce271d1c1c88a2c8f102e0c560ad9"), looks := false }, kinds := [], alts := [], laidByText := true, laidKinds := [.data, .data, .data, .data, .data], laidTests := true, laidLooks := .later }
def RingReadsUptoCardSaid : Prop := Claim7.holds Tryd.pinned (.plain (OpenSpec.upto ringReadsSpec)) ringReadsUptoCard

/-- THE SECOND FORM's CARD OF 'wigeonlaw01.RingMakes'. -/
def ringMakesUptoCard : Claim7 := { stood := { row := ringMakesUptoRow, standIns := [], harness := (true, "53bcdb7f6641e9daaea6d94a4ada8aeaf15ce271d1c1c88a2c8f102e0c560ad9"), looks := false }, kinds := [], alts := [], laidByText := true, laidKinds := [.data, .data, .data, .data, .data], laidTests := true, laidLooks := .later }
def RingMakesUptoCardSaid : Prop := Claim7.holds Tryd.pinned (.plain (OpenSpec.upto ringMakesSpec)) ringMakesUptoCard

/-- THE SECOND FORM's CARD OF 'wigeonlaw01.RingNears'. -/
def ringNearsUptoCard : Claim7 := { stood := { row := ringNearsUptoRow, standIns := [], harness := (true, "53bcdb7f6641e9daaea6d94a4ada8aeaf15ce271d1c1c88a2c8f102e0c560ad9"), looks := false }, kinds := [], alts := [], laidByText := true, laidKinds := [.data, .data], laidTests := true, laidLooks := .later }
def RingNearsUptoCardSaid : Prop := Claim7.holds Tryd.pinned (.plain (OpenSpec.upto ringNearsSpec)) ringNearsUptoCard

/-- THE SECOND FORM's CARD OF 'wigeonlaw01.RingFits'. -/
def ringFitsUptoCard : Claim7 := { stood := { row := ringFitsUptoRow, standIns := [], harness := (true, "53bcdb7f6641e9daaea6d94a4ada8aeaf15ce271d1c1c88a2c8f102e0c560ad9"), looks := false }, kinds := [], alts := [], laidByText := true, laidKinds := [.data, .data], laidTests := true, laidLooks := .later }
def RingFitsUptoCardSaid : Prop := Claim7.holds Tryd.pinned (.plain (OpenSpec.upto ringFitsSpec)) ringFitsUptoCard

/-- THE SECOND FORM's CARD OF 'wigeonlaw01.RingCounts'. -/
def ringCountsUptoCard : Claim7 := { stood := { row := ringCountsUptoRow, standIns := [], harness := (true, "53bcdb7f6641e9daaea6d94a4ada8aeaf15ce271d1c1c88a2c8f102e0c560ad9"), looks := false }, kinds := [], alts := [], laidByText := true, laidKinds := [.data, .data, .data, .pinned], laidTests := true, laidLooks := .later }
def RingCountsUptoCardSaid : Prop := Claim7.holds Tryd.pinned (.plain (OpenSpec.upto ringCountsSpec)) ringCountsUptoCard

/-- THE SECOND FORM's CARD OF 'wigeonlaw01.RingRestores'. -/
def ringRestoresUptoCard : Claim7 := { stood := { row := ringRestoresUptoRow, standIns := [], harness := (true, "53bcdb7f6641e9daaea6d94a4ada8aeaf15ce271d1c1c88a2c8f102e0c560ad9"), looks := false }, kinds := [], alts := [], laidByText := true, laidKinds := [.data, .data, .data, .data, .data, .data, .pinned], laidTests := true, laidLooks := .later }
def RingRestoresUptoCardSaid : Prop := Claim7.holds Tryd.pinned (.plain (OpenSpec.upto ringRestoresSpec)) ringRestoresUptoCard

/-- THE SECOND FORM's CARD OF 'wigeonlaw01.RingBlocks'. -/
def ringBlocksUptoCard : Claim7 := { stood := { row := ringBlocksUptoRow, standIns := [], harness := (true, "53bcdb7f6641e9daaea6d94a4ada8aeaf15ce271d1c1c88a2c8f102e0c560ad9"), looks := false }, kinds := [], alts := [], laidByText := true, laidKinds := [.data, .data], laidTests := true, laidLooks := .later }
def RingBlocksUptoCardSaid : Prop := Claim7.holds Tryd.pinned (.plain (OpenSpec.upto ringBlocksSpec)) ringBlocksUptoCard

/-- THE SECOND FORM's CARD OF 'wigeonlaw01.RingJoins'. -/
def ringJoinsUptoCard : Claim7 := { stood := { row := ringJoinsUptoRow, standIns := [], harness := (true, "53bcdb7f6641e9daaea6d94a4ada8aeaf15ce271d1c1c88a2c8f102e0c560ad9"), looks := false }, kinds := [], alts := [], laidByText := true, laidKinds := [.data, .data], laidTests := true, laidLooks := .later }
def RingJoinsUptoCardSaid : Prop := Claim7.holds Tryd.pinned (.plain (OpenSpec.upto ringJoinsSpec)) ringJoinsUptoCard
end Rows
end Go.Proofs.YtojieiplomojnaaDoor
