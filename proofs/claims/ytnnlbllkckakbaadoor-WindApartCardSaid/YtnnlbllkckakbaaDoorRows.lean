/-
  NARROWER THAN 'FOR EVERY INPUT', by the rows' own cells (each row's printed sentence says how): WindArcs: laid · WindSets: laid · WindTurns: laid · WindVeers: laid · WindNames: laid · WindPipes: laid · WindCovers: laid · WindFewest: laid · WindApart: laid · WindProves: laid · WindRoses: laid · WindAdds: laid.
  DERIVED. THE GIVEN ROWS OF THIS SEAT. 12 by the template 'for every input the law returns true; each argument reads behind the call as it read before'; 0 by the template 'total and deterministic' (their statements: YtnnlbllkckakbaaDoorTotals.lean).
  GIVEN WITH THE SEED: the statements are not yours to turn. If you find one false, say at which input.
  Laid BY PROGRAM, IN A SANDBOX (cutbox-rows.mjs): the forced cells as the released guide's own fill.sh prints them over the translation 22f144889e8af83e… (all of the seat's roots in one cut). By AI agents, Wed Nov 11 2026. No macro, syntax, notation, axiom, sorry.
-/
import Derived.Test.YtnnlbllkckakbaaDoorChecked
import GoSem.Claim
import GoSem.ClaimJoined
import GoSem.ClaimMapViews
import Derived.JoinedTies
import Derived.KernelRfl
namespace Go.Proofs.YtnnlbllkckakbaaDoor
/- THE CELL 'sum', in the pinned program and in every row, IS THE sha256 OF THE DUMP (.gsa) THAT YtnnlbllkckakbaaDoorProg.lean LOADS. Nothing in Lean hashes anything: it is a label: what it is worth is what the hold of that sum in a sandbox is worth. -/
noncomputable def Tryd.pinned : Pinned := { name := "ytnnlbllkckakbaadoor", sum := "22f144889e8af83e85df4452229f17522aad994f35aa5c4ea9a3762156b2e0da", checked := Tryd.checked }
namespace Rows
def none {H : Type} : Left H := { results := [], args := [] }

/- WHAT THE LISTED PACKAGE-LEVEL VARIABLES READ AS WHEN THE CALL BEGINS. Each datum BY PROGRAM (the guide's laid-datum.mjs) off the statement by which the dump's own 'gosem.cut.vars' lays the variable. In a bare row this is a premise. The card (YtnnlbllkckakbaaDoorCards.lean) ties it to the program's text. -/
def laid_wigeon_wind_names {H : Type} : DataW H := .agg [.lit (.string [78]), .lit (.string [78, 98, 69]), .lit (.string [78, 78, 69]), .lit (.string [78, 69, 98, 78]), .lit (.string [78, 69]), .lit (.string [78, 69, 98, 69]), .lit (.string [69, 78, 69]), .lit (.string [69, 98, 78]), .lit (.string [69]), .lit (.string [69, 98, 83]), .lit (.string [69, 83, 69]), .lit (.string [83, 69, 98, 69]), .lit (.string [83, 69]), .lit (.string [83, 69, 98, 83]), .lit (.string [83, 83, 69]), .lit (.string [83, 98, 69]), .lit (.string [83]), .lit (.string [83, 98, 87]), .lit (.string [83, 83, 87]), .lit (.string [83, 87, 98, 83]), .lit (.string [83, 87]), .lit (.string [83, 87, 98, 87]), .lit (.string [87, 83, 87]), .lit (.string [87, 98, 83]), .lit (.string [87]), .lit (.string [87, 98, 78]), .lit (.string [87, 78, 87]), .lit (.string [78, 87, 98, 87]), .lit (.string [78, 87]), .lit (.string [78, 87, 98, 78]), .lit (.string [78, 78, 87]), .lit (.string [78, 98, 87])]

/-- 'wigeonlaw03.WindArcs': WHATEVER THE INPUT: true; the input reads as it did. -/
def windArcsSpec : ChangeSpec := { name := "windArcs", fn := fun _ => fun
  | [d] => { results := [.lit (.bool true)], args := [d] }
  | _ => none }
def windArcsRow : OpenClaim := { program := "ytnnlbllkckakbaadoor", sum := "22f144889e8af83e85df4452229f17522aad994f35aa5c4ea9a3762156b2e0da", func := "wigeon/wigeonlaw03.WindArcs", spec := "windArcs", unfollowed := true, recurses := true, named := ["wigeon/wind.names"], apart := false, laid := [("wigeon/wind.names", laid_wigeon_wind_names)] }
def WindArcsSaid : Prop := windArcsRow.holds Tryd.pinned (OpenSpec.ofChange windArcsSpec)

/-- ITS FALSE NEIGHBOUR: 'it returns false'. Refute it at one input. -/
def windArcsWrong : ChangeSpec := { name := "windArcs", fn := fun _ => fun
  | [d] => { results := [.lit (.bool false)], args := [d] }
  | _ => none }
def WindArcsWrongFalsely : Prop := windArcsRow.holds Tryd.pinned (OpenSpec.ofChange windArcsWrong)

/-- 'wigeonlaw03.WindSets': WHATEVER THE INPUT: true; the input reads as it did. -/
def windSetsSpec : ChangeSpec := { name := "windSets", fn := fun _ => fun
  | [d] => { results := [.lit (.bool true)], args := [d] }
  | _ => none }
def windSetsRow : OpenClaim := { program := "ytnnlbllkckakbaadoor", sum := "22f144889e8af83e85df4452229f17522aad994f35aa5c4ea9a3762156b2e0da", func := "wigeon/wigeonlaw03.WindSets", spec := "windSets", unfollowed := true, recurses := true, named := ["wigeon/wind.names"], apart := false, laid := [("wigeon/wind.names", laid_wigeon_wind_names)] }
def WindSetsSaid : Prop := windSetsRow.holds Tryd.pinned (OpenSpec.ofChange windSetsSpec)

/-- ITS FALSE NEIGHBOUR: 'it returns false'. Refute it at one input. -/
def windSetsWrong : ChangeSpec := { name := "windSets", fn := fun _ => fun
  | [d] => { results := [.lit (.bool false)], args := [d] }
  | _ => none }
def WindSetsWrongFalsely : Prop := windSetsRow.holds Tryd.pinned (OpenSpec.ofChange windSetsWrong)

/-- 'wigeonlaw03.WindTurns': WHATEVER THE INPUT: true; the input reads as it did. -/
def windTurnsSpec : ChangeSpec := { name := "windTurns", fn := fun _ => fun
  | [d1, d2] => { results := [.lit (.bool true)], args := [d1, d2] }
  | _ => none }
def windTurnsRow : OpenClaim := { program := "ytnnlbllkckakbaadoor", sum := "22f144889e8af83e85df4452229f17522aad994f35aa5c4ea9a3762156b2e0da", func := "wigeon/wigeonlaw03.WindTurns", spec := "windTurns", named := ["wigeon/wind.names"], apart := false, laid := [("wigeon/wind.names", laid_wigeon_wind_names)] }
def WindTurnsSaid : Prop := windTurnsRow.holds Tryd.pinned (OpenSpec.ofChange windTurnsSpec)

/-- ITS FALSE NEIGHBOUR: 'it returns false'. Refute it at one input. -/
def windTurnsWrong : ChangeSpec := { name := "windTurns", fn := fun _ => fun
  | [d1, d2] => { results := [.lit (.bool false)], args := [d1, d2] }
  | _ => none }
def WindTurnsWrongFalsely : Prop := windTurnsRow.holds Tryd.pinned (OpenSpec.ofChange windTurnsWrong)

/-- 'wigeonlaw03.WindVeers': WHATEVER THE INPUT: true; the input reads as it did. -/
def windVeersSpec : ChangeSpec := { name := "windVeers", fn := fun _ => fun
  | [d1, d2, d3] => { results := [.lit (.bool true)], args := [d1, d2, d3] }
  | _ => none }
def windVeersRow : OpenClaim := { program := "ytnnlbllkckakbaadoor", sum := "22f144889e8af83e85df4452229f17522aad994f35aa5c4ea9a3762156b2e0da", func := "wigeon/wigeonlaw03.WindVeers", spec := "windVeers", named := ["wigeon/wind.names"], apart := false, laid := [("wigeon/wind.names", laid_wigeon_wind_names)] }
def WindVeersSaid : Prop := windVeersRow.holds Tryd.pinned (OpenSpec.ofChange windVeersSpec)

/-- ITS FALSE NEIGHBOUR: 'it returns false'. Refute it at one input. -/
def windVeersWrong : ChangeSpec := { name := "windVeers", fn := fun _ => fun
  | [d1, d2, d3] => { results := [.lit (.bool false)], args := [d1, d2, d3] }
  | _ => none }
def WindVeersWrongFalsely : Prop := windVeersRow.holds Tryd.pinned (OpenSpec.ofChange windVeersWrong)

/-- 'wigeonlaw03.WindNames': WHATEVER THE INPUT: true; the input reads as it did. -/
def windNamesSpec : ChangeSpec := { name := "windNames", fn := fun _ => fun
  | [d1, d2] => { results := [.lit (.bool true)], args := [d1, d2] }
  | _ => none }
def windNamesRow : OpenClaim := { program := "ytnnlbllkckakbaadoor", sum := "22f144889e8af83e85df4452229f17522aad994f35aa5c4ea9a3762156b2e0da", func := "wigeon/wigeonlaw03.WindNames", spec := "windNames", named := ["wigeon/wind.names"], apart := false, laid := [("wigeon/wind.names", laid_wigeon_wind_names)] }
def WindNamesSaid : Prop := windNamesRow.holds Tryd.pinned (OpenSpec.ofChange windNamesSpec)

/-- ITS FALSE NEIGHBOUR: 'it returns false'. Refute it at one input. -/
def windNamesWrong : ChangeSpec := { name := "windNames", fn := fun _ => fun
  | [d1, d2] => { results := [.lit (.bool false)], args := [d1, d2] }
  | _ => none }
def WindNamesWrongFalsely : Prop := windNamesRow.holds Tryd.pinned (OpenSpec.ofChange windNamesWrong)

/-- 'wigeonlaw03.WindPipes': WHATEVER THE INPUT: true; the input reads as it did. -/
def windPipesSpec : ChangeSpec := { name := "windPipes", fn := fun _ => fun
  | [d1, d2] => { results := [.lit (.bool true)], args := [d1, d2] }
  | _ => none }
def windPipesRow : OpenClaim := { program := "ytnnlbllkckakbaadoor", sum := "22f144889e8af83e85df4452229f17522aad994f35aa5c4ea9a3762156b2e0da", func := "wigeon/wigeonlaw03.WindPipes", spec := "windPipes", unfollowed := true, recurses := true, named := ["wigeon/wind.names"], apart := false, laid := [("wigeon/wind.names", laid_wigeon_wind_names)] }
def WindPipesSaid : Prop := windPipesRow.holds Tryd.pinned (OpenSpec.ofChange windPipesSpec)

/-- ITS FALSE NEIGHBOUR: 'it returns false'. Refute it at one input. -/
def windPipesWrong : ChangeSpec := { name := "windPipes", fn := fun _ => fun
  | [d1, d2] => { results := [.lit (.bool false)], args := [d1, d2] }
  | _ => none }
def WindPipesWrongFalsely : Prop := windPipesRow.holds Tryd.pinned (OpenSpec.ofChange windPipesWrong)

/-- 'wigeonlaw03.WindCovers': WHATEVER THE INPUT: true; the input reads as it did. -/
def windCoversSpec : ChangeSpec := { name := "windCovers", fn := fun _ => fun
  | [d1, d2] => { results := [.lit (.bool true)], args := [d1, d2] }
  | _ => none }
def windCoversRow : OpenClaim := { program := "ytnnlbllkckakbaadoor", sum := "22f144889e8af83e85df4452229f17522aad994f35aa5c4ea9a3762156b2e0da", func := "wigeon/wigeonlaw03.WindCovers", spec := "windCovers", named := ["wigeon/wind.names"], apart := false, laid := [("wigeon/wind.names", laid_wigeon_wind_names)] }
def WindCoversSaid : Prop := windCoversRow.holds Tryd.pinned (OpenSpec.ofChange windCoversSpec)

/-- ITS FALSE NEIGHBOUR: 'it returns false'. Refute it at one input. -/
def windCoversWrong : ChangeSpec := { name := "windCovers", fn := fun _ => fun
  | [d1, d2] => { results := [.lit (.bool false)], args := [d1, d2] }
  | _ => none }
def WindCoversWrongFalsely : Prop := windCoversRow.holds Tryd.pinned (OpenSpec.ofChange windCoversWrong)

/-- 'wigeonlaw03.WindFewest': WHATEVER THE INPUT: true; the input reads as it did. -/
def windFewestSpec : ChangeSpec := { name := "windFewest", fn := fun _ => fun
  | [d] => { results := [.lit (.bool true)], args := [d] }
  | _ => none }
def windFewestRow : OpenClaim := { program := "ytnnlbllkckakbaadoor", sum := "22f144889e8af83e85df4452229f17522aad994f35aa5c4ea9a3762156b2e0da", func := "wigeon/wigeonlaw03.WindFewest", spec := "windFewest", unfollowed := true, recurses := true, named := ["wigeon/wind.names"], apart := false, laid := [("wigeon/wind.names", laid_wigeon_wind_names)] }
def WindFewestSaid : Prop := windFewestRow.holds Tryd.pinned (OpenSpec.ofChange windFewestSpec)

/-- ITS FALSE NEIGHBOUR: 'it returns false'. Refute it at one input. -/
def windFewestWrong : ChangeSpec := { name := "windFewest", fn := fun _ => fun
  | [d] => { results := [.lit (.bool false)], args := [d] }
  | _ => none }
def WindFewestWrongFalsely : Prop := windFewestRow.holds Tryd.pinned (OpenSpec.ofChange windFewestWrong)

/-- 'wigeonlaw03.WindApart': WHATEVER THE INPUT: true; the input reads as it did. -/
def windApartSpec : ChangeSpec := { name := "windApart", fn := fun _ => fun
  | [d1, d2] => { results := [.lit (.bool true)], args := [d1, d2] }
  | _ => none }
def windApartRow : OpenClaim := { program := "ytnnlbllkckakbaadoor", sum := "22f144889e8af83e85df4452229f17522aad994f35aa5c4ea9a3762156b2e0da", func := "wigeon/wigeonlaw03.WindApart", spec := "windApart", unfollowed := true, recurses := true, named := ["wigeon/wind.names"], apart := false, laid := [("wigeon/wind.names", laid_wigeon_wind_names)] }
def WindApartSaid : Prop := windApartRow.holds Tryd.pinned (OpenSpec.ofChange windApartSpec)

/-- ITS FALSE NEIGHBOUR: 'it returns false'. Refute it at one input. -/
def windApartWrong : ChangeSpec := { name := "windApart", fn := fun _ => fun
  | [d1, d2] => { results := [.lit (.bool false)], args := [d1, d2] }
  | _ => none }
def WindApartWrongFalsely : Prop := windApartRow.holds Tryd.pinned (OpenSpec.ofChange windApartWrong)

/-- 'wigeonlaw03.WindProves': WHATEVER THE INPUT: true; the input reads as it did. -/
def windProvesSpec : ChangeSpec := { name := "windProves", fn := fun _ => fun
  | [d1, d2, d3] => { results := [.lit (.bool true)], args := [d1, d2, d3] }
  | _ => none }
def windProvesRow : OpenClaim := { program := "ytnnlbllkckakbaadoor", sum := "22f144889e8af83e85df4452229f17522aad994f35aa5c4ea9a3762156b2e0da", func := "wigeon/wigeonlaw03.WindProves", spec := "windProves", unfollowed := true, recurses := true, named := ["wigeon/wind.names"], apart := false, laid := [("wigeon/wind.names", laid_wigeon_wind_names)] }
def WindProvesSaid : Prop := windProvesRow.holds Tryd.pinned (OpenSpec.ofChange windProvesSpec)

/-- ITS FALSE NEIGHBOUR: 'it returns false'. Refute it at one input. -/
def windProvesWrong : ChangeSpec := { name := "windProves", fn := fun _ => fun
  | [d1, d2, d3] => { results := [.lit (.bool false)], args := [d1, d2, d3] }
  | _ => none }
def WindProvesWrongFalsely : Prop := windProvesRow.holds Tryd.pinned (OpenSpec.ofChange windProvesWrong)

/-- 'wigeonlaw03.WindRoses': WHATEVER THE INPUT: true; the input reads as it did. -/
def windRosesSpec : ChangeSpec := { name := "windRoses", fn := fun _ => fun
  | [d1, d2, d3] => { results := [.lit (.bool true)], args := [d1, d2, d3] }
  | _ => none }
def windRosesRow : OpenClaim := { program := "ytnnlbllkckakbaadoor", sum := "22f144889e8af83e85df4452229f17522aad994f35aa5c4ea9a3762156b2e0da", func := "wigeon/wigeonlaw03.WindRoses", spec := "windRoses", unfollowed := true, recurses := true, named := ["wigeon/wind.names"], apart := false, laid := [("wigeon/wind.names", laid_wigeon_wind_names)] }
def WindRosesSaid : Prop := windRosesRow.holds Tryd.pinned (OpenSpec.ofChange windRosesSpec)

/-- ITS FALSE NEIGHBOUR: 'it returns false'. Refute it at one input. -/
def windRosesWrong : ChangeSpec := { name := "windRoses", fn := fun _ => fun
  | [d1, d2, d3] => { results := [.lit (.bool false)], args := [d1, d2, d3] }
  | _ => none }
def WindRosesWrongFalsely : Prop := windRosesRow.holds Tryd.pinned (OpenSpec.ofChange windRosesWrong)

/-- 'wigeonlaw03.WindAdds': WHATEVER THE INPUT: true; the input reads as it did. -/
def windAddsSpec : ChangeSpec := { name := "windAdds", fn := fun _ => fun
  | [d1, d2, d3] => { results := [.lit (.bool true)], args := [d1, d2, d3] }
  | _ => none }
def windAddsRow : OpenClaim := { program := "ytnnlbllkckakbaadoor", sum := "22f144889e8af83e85df4452229f17522aad994f35aa5c4ea9a3762156b2e0da", func := "wigeon/wigeonlaw03.WindAdds", spec := "windAdds", unfollowed := true, recurses := true, named := ["wigeon/wind.names"], apart := false, laid := [("wigeon/wind.names", laid_wigeon_wind_names)] }
def WindAddsSaid : Prop := windAddsRow.holds Tryd.pinned (OpenSpec.ofChange windAddsSpec)

/-- ITS FALSE NEIGHBOUR: 'it returns false'. Refute it at one input. -/
def windAddsWrong : ChangeSpec := { name := "windAdds", fn := fun _ => fun
  | [d1, d2, d3] => { results := [.lit (.bool false)], args := [d1, d2, d3] }
  | _ => none }
def WindAddsWrongFalsely : Prop := windAddsRow.holds Tryd.pinned (OpenSpec.ofChange windAddsWrong)

/- THE SECOND FORM. 'bulk': how many values and letters a reading holds, each counted each time it is reached (what is shared counts as often as it is met; a slice's spare places count too). A statement '..UptoSaid' is the law's where the arguments, and the package variables that the reading takes, are together of bulk at most 1048576: NARROWER than '..Said'. Prove '..Said' where nothing that the law and all that it calls make is longer than what came in: it says more and counts as full. Else prove '..UptoSaid'. A law counts once. -/
mutual
def uptoBulk {H : Type} : DataW H → Nat
  | .lit (.string bytes) => bytes.length + 1
  | .lit _ => 1
  | .nil => 1
  | .ptr d => uptoBulk d + 1
  | .slice elems spare => uptoBulkAll elems + uptoBulkAll spare + 1
  | .agg parts => uptoBulkAll parts + 1
  | .iface _ d => uptoBulk d + 1
  | .map entries => uptoBulkEntries entries + 1
  | .held _ => 1
def uptoBulkAll {H : Type} : List (DataW H) → Nat
  | [] => 0
  | d :: r => uptoBulk d + uptoBulkAll r
def uptoBulkEntries {H : Type} : List (Lit × DataW H) → Nat
  | [] => 0
  | x :: r => uptoBulkEntry x + uptoBulkEntries r
def uptoBulkEntry {H : Type} : Lit × DataW H → Nat
  | (.string bytes, d) => bytes.length + uptoBulk d + 1
  | (_, d) => uptoBulk d + 1
 end
def uptoSmall : (H : Type) → List (DataW H) → Bool := fun _ ds => decide (uptoBulkAll ds ≤ 1048576)
def OpenSpec.upto (s : _root_.Go.ChangeSpec) : _root_.Go.OpenSpec := { _root_.Go.OpenSpec.ofChange s with cond := some uptoSmall }

/-- 'wigeonlaw03.WindArcs', WHERE WHAT IT READS IS OF BULK AT MOST 1048576: true; the input reads as it did. -/
def windArcsUptoRow : OpenClaim := { program := "ytnnlbllkckakbaadoor", sum := "22f144889e8af83e85df4452229f17522aad994f35aa5c4ea9a3762156b2e0da", func := "wigeon/wigeonlaw03.WindArcs", spec := "windArcs", unfollowed := true, recurses := true, named := ["wigeon/wind.names"], apart := false, laid := [("wigeon/wind.names", laid_wigeon_wind_names)], narrowed := true }
def WindArcsUptoSaid : Prop := windArcsUptoRow.holds Tryd.pinned (OpenSpec.upto windArcsSpec)

/-- 'wigeonlaw03.WindSets', WHERE WHAT IT READS IS OF BULK AT MOST 1048576: true; the input reads as it did. -/
def windSetsUptoRow : OpenClaim := { program := "ytnnlbllkckakbaadoor", sum := "22f144889e8af83e85df4452229f17522aad994f35aa5c4ea9a3762156b2e0da", func := "wigeon/wigeonlaw03.WindSets", spec := "windSets", unfollowed := true, recurses := true, named := ["wigeon/wind.names"], apart := false, laid := [("wigeon/wind.names", laid_wigeon_wind_names)], narrowed := true }
def WindSetsUptoSaid : Prop := windSetsUptoRow.holds Tryd.pinned (OpenSpec.upto windSetsSpec)

/-- 'wigeonlaw03.WindTurns', WHERE WHAT IT READS IS OF BULK AT MOST 1048576: true; the input reads as it did. -/
def windTurnsUptoRow : OpenClaim := { program := "ytnnlbllkckakbaadoor", sum := "22f144889e8af83e85df4452229f17522aad994f35aa5c4ea9a3762156b2e0da", func := "wigeon/wigeonlaw03.WindTurns", spec := "windTurns", named := ["wigeon/wind.names"], apart := false, laid := [("wigeon/wind.names", laid_wigeon_wind_names)], narrowed := true }
def WindTurnsUptoSaid : Prop := windTurnsUptoRow.holds Tryd.pinned (OpenSpec.upto windTurnsSpec)

/-- 'wigeonlaw03.WindVeers', WHERE WHAT IT READS IS OF BULK AT MOST 1048576: true; the input reads as it did. -/
def windVeersUptoRow : OpenClaim := { program := "ytnnlbllkckakbaadoor", sum := "22f144889e8af83e85df4452229f17522aad994f35aa5c4ea9a3762156b2e0da", func := "wigeon/wigeonlaw03.WindVeers", spec := "windVeers", named := ["wigeon/wind.names"], apart := false, laid := [("wigeon/wind.names", laid_wigeon_wind_names)], narrowed := true }
def WindVeersUptoSaid : Prop := windVeersUptoRow.holds Tryd.pinned (OpenSpec.upto windVeersSpec)

/-- 'wigeonlaw03.WindNames', WHERE WHAT IT READS IS OF BULK AT MOST 1048576: true; the input reads as it did. -/
def windNamesUptoRow : OpenClaim := { program := "ytnnlbllkckakbaadoor", sum := "22f144889e8af83e85df4452229f17522aad994f35aa5c4ea9a3762156b2e0da", func := "wigeon/wigeonlaw03.WindNames", spec := "windNames", named := ["wigeon/wind.names"], apart := false, laid := [("wigeon/wind.names", laid_wigeon_wind_names)], narrowed := true }
def WindNamesUptoSaid : Prop := windNamesUptoRow.holds Tryd.pinned (OpenSpec.upto windNamesSpec)

/-- 'wigeonlaw03.WindPipes', WHERE WHAT IT READS IS OF BULK AT MOST 1048576: true; the input reads as it did. -/
def windPipesUptoRow : OpenClaim := { program := "ytnnlbllkckakbaadoor", sum := "22f144889e8af83e85df4452229f17522aad994f35aa5c4ea9a3762156b2e0da", func := "wigeon/wigeonlaw03.WindPipes", spec := "windPipes", unfollowed := true, recurses := true, named := ["wigeon/wind.names"], apart := false, laid := [("wigeon/wind.names", laid_wigeon_wind_names)], narrowed := true }
def WindPipesUptoSaid : Prop := windPipesUptoRow.holds Tryd.pinned (OpenSpec.upto windPipesSpec)

/-- 'wigeonlaw03.WindCovers', WHERE WHAT IT READS IS OF BULK AT MOST 1048576: true; the input reads as it did. -/
def windCoversUptoRow : OpenClaim := { program := "ytnnlbllkckakbaadoor", sum := "22f144889e8af83e85df4452229f17522aad994f35aa5c4ea9a3762156b2e0da", func := "wigeon/wigeonlaw03.WindCovers", spec := "windCovers", named := ["wigeon/wind.names"], apart := false, laid := [("wigeon/wind.names", laid_wigeon_wind_names)], narrowed := true }
def WindCoversUptoSaid : Prop := windCoversUptoRow.holds Tryd.pinned (OpenSpec.upto windCoversSpec)

/-- 'wigeonlaw03.WindFewest', WHERE WHAT IT READS IS OF BULK AT MOST 1048576: true; the input reads as it did. -/
def windFewestUptoRow : OpenClaim := { program := "ytnnlbllkckakbaadoor", sum := "22f144889e8af83e85df4452229f17522aad994f35aa5c4ea9a3762156b2e0da", func := "wigeon/wigeonlaw03.WindFewest", spec := "windFewest", unfollowed := true, recurses := true, named := ["wigeon/wind.names"], apart := false, laid := [("wigeon/wind.names", laid_wigeon_wind_names)], narrowed := true }
def WindFewestUptoSaid : Prop := windFewestUptoRow.holds Tryd.pinned (OpenSpec.upto windFewestSpec)

/-- 'wigeonlaw03.WindApart', WHERE WHAT IT READS IS OF BULK AT MOST 1048576: true; the input reads as it did. -/
def windApartUptoRow : OpenClaim := { program := "ytnnlbllkckakbaadoor", sum := "22f144889e8af83e85df4452229f17522aad994f35aa5c4ea9a3762156b2e0da", func := "wigeon/wigeonlaw03.WindApart", spec := "windApart", unfollowed := true, recurses := true, named := ["wigeon/wind.names"], apart := false, laid := [("wigeon/wind.names", laid_wigeon_wind_names)], narrowed := true }
def WindApartUptoSaid : Prop := windApartUptoRow.holds Tryd.pinned (OpenSpec.upto windApartSpec)

/-- 'wigeonlaw03.WindProves', WHERE WHAT IT READS IS OF BULK AT MOST 1048576: true; the input reads as it did. -/
def windProvesUptoRow : OpenClaim := { program := "ytnnlbllkckakbaadoor", sum := "22f144889e8af83e85df4452229f17522aad994f35aa5c4ea9a3762156b2e0da", func := "wigeon/wigeonlaw03.WindProves", spec := "windProves", unfollowed := true, recurses := true, named := ["wigeon/wind.names"], apart := false, laid := [("wigeon/wind.names", laid_wigeon_wind_names)], narrowed := true }
def WindProvesUptoSaid : Prop := windProvesUptoRow.holds Tryd.pinned (OpenSpec.upto windProvesSpec)

/-- 'wigeonlaw03.WindRoses', WHERE WHAT IT READS IS OF BULK AT MOST 1048576: true; the input reads as it did. -/
def windRosesUptoRow : OpenClaim := { program := "ytnnlbllkckakbaadoor", sum := "22f144889e8af83e85df4452229f17522aad994f35aa5c4ea9a3762156b2e0da", func := "wigeon/wigeonlaw03.WindRoses", spec := "windRoses", unfollowed := true, recurses := true, named := ["wigeon/wind.names"], apart := false, laid := [("wigeon/wind.names", laid_wigeon_wind_names)], narrowed := true }
def WindRosesUptoSaid : Prop := windRosesUptoRow.holds Tryd.pinned (OpenSpec.upto windRosesSpec)

/-- 'wigeonlaw03.WindAdds', WHERE WHAT IT READS IS OF BULK AT MOST 1048576: true; the input reads as it did. -/
def windAddsUptoRow : OpenClaim := { program := "ytnnlbllkckakbaadoor", sum := "22f144889e8af83e85df4452229f17522aad994f35aa5c4ea9a3762156b2e0da", func := "wigeon/wigeonlaw03.WindAdds", spec := "windAdds", unfollowed := true, recurses := true, named := ["wigeon/wind.names"], apart := false, laid := [("wigeon/wind.names", laid_wigeon_wind_names)], narrowed := true }
def WindAddsUptoSaid : Prop := windAddsUptoRow.holds Tryd.pinned (OpenSpec.upto windAddsSpec)

end Rows
end Go.Proofs.YtnnlbllkckakbaaDoor
