/-
  NARROWER THAN 'FOR EVERY INPUT', by the rows' own cells (each row's printed sentence says how): RingTimes: laid · RingGroups: laid · RingSums: laid · RingFinds: laid · RingReads: laid · RingMakes: laid · RingNears: laid · RingFits: laid · RingCounts: laid · RingRestores: laid · RingBlocks: laid · RingJoins: laid.
  DERIVED. THE GIVEN ROWS OF THIS SEAT. 12 by the template 'for every input the law returns true; each argument reads behind the call as it read before'; 0 by the template 'total and deterministic' (their statements: YtojieiplomojnaaDoorTotals.lean).
  GIVEN WITH THE SEED: the statements are not yours to turn. If you find one false, say at which input.
  Laid BY PROGRAM, IN A SANDBOX (cutbox-rows.mjs): the forced cells as the released guide's own fill.sh prints them over the translation 6a6b4a3209d9563a… (all of the seat's roots in one cut). By AI agents, Wed Nov 11 2026. No macro, syntax, notation, axiom, sorry.
-/
import Derived.Test.YtojieiplomojnaaDoorChecked
import GoSem.PinnedTables
import GoSem.Claim
import GoSem.ClaimJoined
import GoSem.ClaimMapViews
import Derived.JoinedTies
import Derived.KernelRfl
namespace Go.Proofs.YtojieiplomojnaaDoor
/- THE CELL 'sum', in the pinned program and in every row, IS THE sha256 OF THE DUMP (.gsa) THAT YtojieiplomojnaaDoorProg.lean LOADS. Nothing in Lean hashes anything: it is a label: what it is worth is what the hold of that sum in a sandbox is worth. -/
noncomputable def Tryd.pinned : Pinned := { name := "ytojieiplomojnaadoor", sum := "6a6b4a3209d9563a664e4a7539592c52f889c9d10316c7b12c892a9a6a123665", checked := Tryd.checked }
namespace Rows
def none {H : Type} : Left H := { results := [], args := [] }

/- WHAT THE LISTED PACKAGE-LEVEL VARIABLES READ AS WHEN THE CALL BEGINS. Each datum BY PROGRAM (the guide's laid-datum.mjs) off the statement by which the dump's own 'gosem.cut.vars' lays the variable. In a bare row this is a premise. The card (YtojieiplomojnaaDoorCards.lean) ties it to the program's text. -/
def laid_wigeon_ring_product {H : Type} : DataW H := .agg [.agg [.lit (.int .i64 0), .lit (.int .i64 1), .lit (.int .i64 2), .lit (.int .i64 3), .lit (.int .i64 4), .lit (.int .i64 5), .lit (.int .i64 6), .lit (.int .i64 7), .lit (.int .i64 8), .lit (.int .i64 9)], .agg [.lit (.int .i64 1), .lit (.int .i64 2), .lit (.int .i64 3), .lit (.int .i64 4), .lit (.int .i64 0), .lit (.int .i64 6), .lit (.int .i64 7), .lit (.int .i64 8), .lit (.int .i64 9), .lit (.int .i64 5)], .agg [.lit (.int .i64 2), .lit (.int .i64 3), .lit (.int .i64 4), .lit (.int .i64 0), .lit (.int .i64 1), .lit (.int .i64 7), .lit (.int .i64 8), .lit (.int .i64 9), .lit (.int .i64 5), .lit (.int .i64 6)], .agg [.lit (.int .i64 3), .lit (.int .i64 4), .lit (.int .i64 0), .lit (.int .i64 1), .lit (.int .i64 2), .lit (.int .i64 8), .lit (.int .i64 9), .lit (.int .i64 5), .lit (.int .i64 6), .lit (.int .i64 7)], .agg [.lit (.int .i64 4), .lit (.int .i64 0), .lit (.int .i64 1), .lit (.int .i64 2), .lit (.int .i64 3), .lit (.int .i64 9), .lit (.int .i64 5), .lit (.int .i64 6), .lit (.int .i64 7), .lit (.int .i64 8)], .agg [.lit (.int .i64 5), .lit (.int .i64 9), .lit (.int .i64 8), .lit (.int .i64 7), .lit (.int .i64 6), .lit (.int .i64 0), .lit (.int .i64 4), .lit (.int .i64 3), .lit (.int .i64 2), .lit (.int .i64 1)], .agg [.lit (.int .i64 6), .lit (.int .i64 5), .lit (.int .i64 9), .lit (.int .i64 8), .lit (.int .i64 7), .lit (.int .i64 1), .lit (.int .i64 0), .lit (.int .i64 4), .lit (.int .i64 3), .lit (.int .i64 2)], .agg [.lit (.int .i64 7), .lit (.int .i64 6), .lit (.int .i64 5), .lit (.int .i64 9), .lit (.int .i64 8), .lit (.int .i64 2), .lit (.int .i64 1), .lit (.int .i64 0), .lit (.int .i64 4), .lit (.int .i64 3)], .agg [.lit (.int .i64 8), .lit (.int .i64 7), .lit (.int .i64 6), .lit (.int .i64 5), .lit (.int .i64 9), .lit (.int .i64 3), .lit (.int .i64 2), .lit (.int .i64 1), .lit (.int .i64 0), .lit (.int .i64 4)], .agg [.lit (.int .i64 9), .lit (.int .i64 8), .lit (.int .i64 7), .lit (.int .i64 6), .lit (.int .i64 5), .lit (.int .i64 4), .lit (.int .i64 3), .lit (.int .i64 2), .lit (.int .i64 1), .lit (.int .i64 0)]]
def laid_wigeon_ring_turned {H : Type} : DataW H := .agg [.lit (.int .i64 1), .lit (.int .i64 5), .lit (.int .i64 7), .lit (.int .i64 6), .lit (.int .i64 2), .lit (.int .i64 8), .lit (.int .i64 3), .lit (.int .i64 0), .lit (.int .i64 9), .lit (.int .i64 4)]
def laid_math_bits_deBruijn32tab {H : Type} : DataW H := .agg [.lit (.int .u8 0), .lit (.int .u8 1), .lit (.int .u8 28), .lit (.int .u8 2), .lit (.int .u8 29), .lit (.int .u8 14), .lit (.int .u8 24), .lit (.int .u8 3), .lit (.int .u8 30), .lit (.int .u8 22), .lit (.int .u8 20), .lit (.int .u8 15), .lit (.int .u8 25), .lit (.int .u8 17), .lit (.int .u8 4), .lit (.int .u8 8), .lit (.int .u8 31), .lit (.int .u8 27), .lit (.int .u8 13), .lit (.int .u8 23), .lit (.int .u8 21), .lit (.int .u8 19), .lit (.int .u8 16), .lit (.int .u8 7), .lit (.int .u8 26), .lit (.int .u8 12), .lit (.int .u8 18), .lit (.int .u8 6), .lit (.int .u8 11), .lit (.int .u8 5), .lit (.int .u8 10), .lit (.int .u8 9)]
def laid_math_bits_deBruijn64tab {H : Type} : DataW H := .agg [.lit (.int .u8 0), .lit (.int .u8 1), .lit (.int .u8 56), .lit (.int .u8 2), .lit (.int .u8 57), .lit (.int .u8 49), .lit (.int .u8 28), .lit (.int .u8 3), .lit (.int .u8 61), .lit (.int .u8 58), .lit (.int .u8 42), .lit (.int .u8 50), .lit (.int .u8 38), .lit (.int .u8 29), .lit (.int .u8 17), .lit (.int .u8 4), .lit (.int .u8 62), .lit (.int .u8 47), .lit (.int .u8 59), .lit (.int .u8 36), .lit (.int .u8 45), .lit (.int .u8 43), .lit (.int .u8 51), .lit (.int .u8 22), .lit (.int .u8 53), .lit (.int .u8 39), .lit (.int .u8 33), .lit (.int .u8 30), .lit (.int .u8 24), .lit (.int .u8 18), .lit (.int .u8 12), .lit (.int .u8 5), .lit (.int .u8 63), .lit (.int .u8 55), .lit (.int .u8 48), .lit (.int .u8 27), .lit (.int .u8 60), .lit (.int .u8 41), .lit (.int .u8 37), .lit (.int .u8 16), .lit (.int .u8 46), .lit (.int .u8 35), .lit (.int .u8 44), .lit (.int .u8 21), .lit (.int .u8 52), .lit (.int .u8 32), .lit (.int .u8 23), .lit (.int .u8 11), .lit (.int .u8 54), .lit (.int .u8 26), .lit (.int .u8 40), .lit (.int .u8 15), .lit (.int .u8 34), .lit (.int .u8 20), .lit (.int .u8 31), .lit (.int .u8 10), .lit (.int .u8 25), .lit (.int .u8 14), .lit (.int .u8 19), .lit (.int .u8 9), .lit (.int .u8 13), .lit (.int .u8 8), .lit (.int .u8 7), .lit (.int .u8 6)]
def laid_internal_strconv_uint64pow10 {H : Type} : DataW H := .agg [.lit (.int .u64 1), .lit (.int .u64 10), .lit (.int .u64 100), .lit (.int .u64 1000), .lit (.int .u64 10000), .lit (.int .u64 100000), .lit (.int .u64 1000000), .lit (.int .u64 10000000), .lit (.int .u64 100000000), .lit (.int .u64 1000000000), .lit (.int .u64 10000000000), .lit (.int .u64 100000000000), .lit (.int .u64 1000000000000), .lit (.int .u64 10000000000000), .lit (.int .u64 100000000000000), .lit (.int .u64 1000000000000000), .lit (.int .u64 10000000000000000), .lit (.int .u64 100000000000000000), .lit (.int .u64 1000000000000000000), .lit (.int .u64 10000000000000000000)]
def laid_unicode_utf8_acceptRanges {H : Type} : DataW H := .agg [.agg [.lit (.int .u8 128), .lit (.int .u8 191)], .agg [.lit (.int .u8 160), .lit (.int .u8 191)], .agg [.lit (.int .u8 128), .lit (.int .u8 159)], .agg [.lit (.int .u8 144), .lit (.int .u8 191)], .agg [.lit (.int .u8 128), .lit (.int .u8 143)], .agg [.lit (.int .u8 0), .lit (.int .u8 0)], .agg [.lit (.int .u8 0), .lit (.int .u8 0)], .agg [.lit (.int .u8 0), .lit (.int .u8 0)], .agg [.lit (.int .u8 0), .lit (.int .u8 0)], .agg [.lit (.int .u8 0), .lit (.int .u8 0)], .agg [.lit (.int .u8 0), .lit (.int .u8 0)], .agg [.lit (.int .u8 0), .lit (.int .u8 0)], .agg [.lit (.int .u8 0), .lit (.int .u8 0)], .agg [.lit (.int .u8 0), .lit (.int .u8 0)], .agg [.lit (.int .u8 0), .lit (.int .u8 0)], .agg [.lit (.int .u8 0), .lit (.int .u8 0)]]
/-- One of Go's own tables, pinned by name: the form's constant. -/
def laid_unicode_utf8_first : DataW Unit := Go.Pinned.utf8First

/-- 'wigeonlaw01.RingTimes': WHATEVER THE INPUT: true; the input reads as it did. -/
def ringTimesSpec : ChangeSpec := { name := "ringTimes", fn := fun _ => fun
  | [d1, d2, d3] => { results := [.lit (.bool true)], args := [d1, d2, d3] }
  | _ => none }
def ringTimesRow : OpenClaim := { program := "ytojieiplomojnaadoor", sum := "6a6b4a3209d9563a664e4a7539592c52f889c9d10316c7b12c892a9a6a123665", func := "wigeon/wigeonlaw01.RingTimes", spec := "ringTimes", named := ["wigeon/ring.product", "wigeon/ring.turned"], apart := false, laid := [("wigeon/ring.product", laid_wigeon_ring_product), ("wigeon/ring.turned", laid_wigeon_ring_turned)] }
def RingTimesSaid : Prop := ringTimesRow.holds Tryd.pinned (OpenSpec.ofChange ringTimesSpec)

/-- ITS FALSE NEIGHBOUR: 'it returns false'. Refute it at one input. -/
def ringTimesWrong : ChangeSpec := { name := "ringTimes", fn := fun _ => fun
  | [d1, d2, d3] => { results := [.lit (.bool false)], args := [d1, d2, d3] }
  | _ => none }
def RingTimesWrongFalsely : Prop := ringTimesRow.holds Tryd.pinned (OpenSpec.ofChange ringTimesWrong)

/-- 'wigeonlaw01.RingGroups': WHATEVER THE INPUT: true; the input reads as it did. -/
def ringGroupsSpec : ChangeSpec := { name := "ringGroups", fn := fun _ => fun
  | [d1, d2, d3] => { results := [.lit (.bool true)], args := [d1, d2, d3] }
  | _ => none }
def ringGroupsRow : OpenClaim := { program := "ytojieiplomojnaadoor", sum := "6a6b4a3209d9563a664e4a7539592c52f889c9d10316c7b12c892a9a6a123665", func := "wigeon/wigeonlaw01.RingGroups", spec := "ringGroups", named := ["wigeon/ring.product", "wigeon/ring.turned"], apart := false, laid := [("wigeon/ring.product", laid_wigeon_ring_product), ("wigeon/ring.turned", laid_wigeon_ring_turned)] }
def RingGroupsSaid : Prop := ringGroupsRow.holds Tryd.pinned (OpenSpec.ofChange ringGroupsSpec)

/-- ITS FALSE NEIGHBOUR: 'it returns false'. Refute it at one input. -/
def ringGroupsWrong : ChangeSpec := { name := "ringGroups", fn := fun _ => fun
  | [d1, d2, d3] => { results := [.lit (.bool false)], args := [d1, d2, d3] }
  | _ => none }
def RingGroupsWrongFalsely : Prop := ringGroupsRow.holds Tryd.pinned (OpenSpec.ofChange ringGroupsWrong)

/-- 'wigeonlaw01.RingSums': WHATEVER THE INPUT: true; the input reads as it did. -/
def ringSumsSpec : ChangeSpec := { name := "ringSums", fn := fun _ => fun
  | [d] => { results := [.lit (.bool true)], args := [d] }
  | _ => none }
def ringSumsRow : OpenClaim := { program := "ytojieiplomojnaadoor", sum := "6a6b4a3209d9563a664e4a7539592c52f889c9d10316c7b12c892a9a6a123665", func := "wigeon/wigeonlaw01.RingSums", spec := "ringSums", named := ["wigeon/ring.product", "wigeon/ring.turned"], apart := false, laid := [("wigeon/ring.product", laid_wigeon_ring_product), ("wigeon/ring.turned", laid_wigeon_ring_turned)] }
def RingSumsSaid : Prop := ringSumsRow.holds Tryd.pinned (OpenSpec.ofChange ringSumsSpec)

/-- ITS FALSE NEIGHBOUR: 'it returns false'. Refute it at one input. -/
def ringSumsWrong : ChangeSpec := { name := "ringSums", fn := fun _ => fun
  | [d] => { results := [.lit (.bool false)], args := [d] }
  | _ => none }
def RingSumsWrongFalsely : Prop := ringSumsRow.holds Tryd.pinned (OpenSpec.ofChange ringSumsWrong)

/-- 'wigeonlaw01.RingFinds': WHATEVER THE INPUT: true; the input reads as it did. -/
def ringFindsSpec : ChangeSpec := { name := "ringFinds", fn := fun _ => fun
  | [d1, d2, d3] => { results := [.lit (.bool true)], args := [d1, d2, d3] }
  | _ => none }
def ringFindsRow : OpenClaim := { program := "ytojieiplomojnaadoor", sum := "6a6b4a3209d9563a664e4a7539592c52f889c9d10316c7b12c892a9a6a123665", func := "wigeon/wigeonlaw01.RingFinds", spec := "ringFinds", named := ["wigeon/ring.product", "wigeon/ring.turned"], apart := false, laid := [("wigeon/ring.product", laid_wigeon_ring_product), ("wigeon/ring.turned", laid_wigeon_ring_turned)] }
def RingFindsSaid : Prop := ringFindsRow.holds Tryd.pinned (OpenSpec.ofChange ringFindsSpec)

/-- ITS FALSE NEIGHBOUR: 'it returns false'. Refute it at one input. -/
def ringFindsWrong : ChangeSpec := { name := "ringFinds", fn := fun _ => fun
  | [d1, d2, d3] => { results := [.lit (.bool false)], args := [d1, d2, d3] }
  | _ => none }
def RingFindsWrongFalsely : Prop := ringFindsRow.holds Tryd.pinned (OpenSpec.ofChange ringFindsWrong)

/-- 'wigeonlaw01.RingReads': WHATEVER THE INPUT: true; the input reads as it did. -/
def ringReadsSpec : ChangeSpec := { name := "ringReads", fn := fun _ => fun
  | [d] => { results := [.lit (.bool true)], args := [d] }
  | _ => none }
def ringReadsRow : OpenClaim := { program := "ytojieiplomojnaadoor", sum := "6a6b4a3209d9563a664e4a7539592c52f889c9d10316c7b12c892a9a6a123665", func := "wigeon/wigeonlaw01.RingReads", spec := "ringReads", inPlace := ["internal/abi.NoEscape", "internal/bytealg.MakeNoZero"], named := ["wigeon/ring.product", "wigeon/ring.turned", "internal/strconv.uint64pow10", "math/bits.deBruijn32tab", "math/bits.deBruijn64tab"], apart := false, laid := [("math/bits.deBruijn32tab", laid_math_bits_deBruijn32tab), ("math/bits.deBruijn64tab", laid_math_bits_deBruijn64tab), ("internal/strconv.uint64pow10", laid_internal_strconv_uint64pow10), ("wigeon/ring.product", laid_wigeon_ring_product), ("wigeon/ring.turned", laid_wigeon_ring_turned)] }
def RingReadsSaid : Prop := ringReadsRow.holds Tryd.pinned (OpenSpec.ofChange ringReadsSpec)

/-- ITS FALSE NEIGHBOUR: 'it returns false'. Refute it at one input. -/
def ringReadsWrong : ChangeSpec := { name := "ringReads", fn := fun _ => fun
  | [d] => { results := [.lit (.bool false)], args := [d] }
  | _ => none }
def RingReadsWrongFalsely : Prop := ringReadsRow.holds Tryd.pinned (OpenSpec.ofChange ringReadsWrong)

/-- 'wigeonlaw01.RingMakes': WHATEVER THE INPUT: true; the input reads as it did. -/
def ringMakesSpec : ChangeSpec := { name := "ringMakes", fn := fun _ => fun
  | [d1, d2] => { results := [.lit (.bool true)], args := [d1, d2] }
  | _ => none }
def ringMakesRow : OpenClaim := { program := "ytojieiplomojnaadoor", sum := "6a6b4a3209d9563a664e4a7539592c52f889c9d10316c7b12c892a9a6a123665", func := "wigeon/wigeonlaw01.RingMakes", spec := "ringMakes", inPlace := ["internal/abi.NoEscape", "internal/bytealg.MakeNoZero"], named := ["wigeon/ring.product", "wigeon/ring.turned", "internal/strconv.uint64pow10", "math/bits.deBruijn32tab", "math/bits.deBruijn64tab"], apart := false, laid := [("math/bits.deBruijn32tab", laid_math_bits_deBruijn32tab), ("math/bits.deBruijn64tab", laid_math_bits_deBruijn64tab), ("internal/strconv.uint64pow10", laid_internal_strconv_uint64pow10), ("wigeon/ring.product", laid_wigeon_ring_product), ("wigeon/ring.turned", laid_wigeon_ring_turned)] }
def RingMakesSaid : Prop := ringMakesRow.holds Tryd.pinned (OpenSpec.ofChange ringMakesSpec)

/-- ITS FALSE NEIGHBOUR: 'it returns false'. Refute it at one input. -/
def ringMakesWrong : ChangeSpec := { name := "ringMakes", fn := fun _ => fun
  | [d1, d2] => { results := [.lit (.bool false)], args := [d1, d2] }
  | _ => none }
def RingMakesWrongFalsely : Prop := ringMakesRow.holds Tryd.pinned (OpenSpec.ofChange ringMakesWrong)

/-- 'wigeonlaw01.RingNears': WHATEVER THE INPUT: true; the input reads as it did. -/
def ringNearsSpec : ChangeSpec := { name := "ringNears", fn := fun _ => fun
  | [d] => { results := [.lit (.bool true)], args := [d] }
  | _ => none }
def ringNearsRow : OpenClaim := { program := "ytojieiplomojnaadoor", sum := "6a6b4a3209d9563a664e4a7539592c52f889c9d10316c7b12c892a9a6a123665", func := "wigeon/wigeonlaw01.RingNears", spec := "ringNears", recurses := true, named := ["wigeon/ring.product", "wigeon/ring.turned"], apart := false, laid := [("wigeon/ring.product", laid_wigeon_ring_product), ("wigeon/ring.turned", laid_wigeon_ring_turned)] }
def RingNearsSaid : Prop := ringNearsRow.holds Tryd.pinned (OpenSpec.ofChange ringNearsSpec)

/-- ITS FALSE NEIGHBOUR: 'it returns false'. Refute it at one input. -/
def ringNearsWrong : ChangeSpec := { name := "ringNears", fn := fun _ => fun
  | [d] => { results := [.lit (.bool false)], args := [d] }
  | _ => none }
def RingNearsWrongFalsely : Prop := ringNearsRow.holds Tryd.pinned (OpenSpec.ofChange ringNearsWrong)

/-- 'wigeonlaw01.RingFits': WHATEVER THE INPUT: true; the input reads as it did. -/
def ringFitsSpec : ChangeSpec := { name := "ringFits", fn := fun _ => fun
  | [d1, d2] => { results := [.lit (.bool true)], args := [d1, d2] }
  | _ => none }
def ringFitsRow : OpenClaim := { program := "ytojieiplomojnaadoor", sum := "6a6b4a3209d9563a664e4a7539592c52f889c9d10316c7b12c892a9a6a123665", func := "wigeon/wigeonlaw01.RingFits", spec := "ringFits", named := ["wigeon/ring.product", "wigeon/ring.turned"], apart := false, laid := [("wigeon/ring.product", laid_wigeon_ring_product), ("wigeon/ring.turned", laid_wigeon_ring_turned)] }
def RingFitsSaid : Prop := ringFitsRow.holds Tryd.pinned (OpenSpec.ofChange ringFitsSpec)

/-- ITS FALSE NEIGHBOUR: 'it returns false'. Refute it at one input. -/
def ringFitsWrong : ChangeSpec := { name := "ringFits", fn := fun _ => fun
  | [d1, d2] => { results := [.lit (.bool false)], args := [d1, d2] }
  | _ => none }
def RingFitsWrongFalsely : Prop := ringFitsRow.holds Tryd.pinned (OpenSpec.ofChange ringFitsWrong)

/-- 'wigeonlaw01.RingCounts': WHATEVER THE INPUT: true; the input reads as it did. -/
def ringCountsSpec : ChangeSpec := { name := "ringCounts", fn := fun _ => fun
  | [d] => { results := [.lit (.bool true)], args := [d] }
  | _ => none }
def ringCountsRow : OpenClaim := { program := "ytojieiplomojnaadoor", sum := "6a6b4a3209d9563a664e4a7539592c52f889c9d10316c7b12c892a9a6a123665", func := "wigeon/wigeonlaw01.RingCounts", spec := "ringCounts", inPlace := ["internal/bytealg.CountString", "internal/bytealg.IndexByteString", "internal/bytealg.IndexString", "internal/abi.NoEscape", "internal/bytealg.MakeNoZero"], named := ["wigeon/ring.product", "wigeon/ring.turned", "internal/bytealg.MaxLen", "unicode/utf8.first", "unicode/utf8.acceptRanges"], apart := false, laid := [("unicode/utf8.acceptRanges", laid_unicode_utf8_acceptRanges), ("wigeon/ring.product", laid_wigeon_ring_product), ("wigeon/ring.turned", laid_wigeon_ring_turned), ("unicode/utf8.first", laid_unicode_utf8_first)] }
def RingCountsSaid : Prop := ringCountsRow.holds Tryd.pinned (OpenSpec.ofChange ringCountsSpec)

/-- ITS FALSE NEIGHBOUR: 'it returns false'. Refute it at one input. -/
def ringCountsWrong : ChangeSpec := { name := "ringCounts", fn := fun _ => fun
  | [d] => { results := [.lit (.bool false)], args := [d] }
  | _ => none }
def RingCountsWrongFalsely : Prop := ringCountsRow.holds Tryd.pinned (OpenSpec.ofChange ringCountsWrong)

/-- 'wigeonlaw01.RingRestores': WHATEVER THE INPUT: true; the input reads as it did. -/
def ringRestoresSpec : ChangeSpec := { name := "ringRestores", fn := fun _ => fun
  | [d1, d2, d3] => { results := [.lit (.bool true)], args := [d1, d2, d3] }
  | _ => none }
def ringRestoresRow : OpenClaim := { program := "ytojieiplomojnaadoor", sum := "6a6b4a3209d9563a664e4a7539592c52f889c9d10316c7b12c892a9a6a123665", func := "wigeon/wigeonlaw01.RingRestores", spec := "ringRestores", inPlace := ["internal/abi.NoEscape", "internal/bytealg.MakeNoZero", "internal/bytealg.CountString", "internal/bytealg.IndexByteString", "internal/bytealg.IndexString"], named := ["wigeon/ring.product", "wigeon/ring.turned", "internal/strconv.uint64pow10", "math/bits.deBruijn32tab", "math/bits.deBruijn64tab", "internal/bytealg.MaxLen", "unicode/utf8.first", "unicode/utf8.acceptRanges"], apart := false, laid := [("math/bits.deBruijn32tab", laid_math_bits_deBruijn32tab), ("math/bits.deBruijn64tab", laid_math_bits_deBruijn64tab), ("internal/strconv.uint64pow10", laid_internal_strconv_uint64pow10), ("unicode/utf8.acceptRanges", laid_unicode_utf8_acceptRanges), ("wigeon/ring.product", laid_wigeon_ring_product), ("wigeon/ring.turned", laid_wigeon_ring_turned), ("unicode/utf8.first", laid_unicode_utf8_first)] }
def RingRestoresSaid : Prop := ringRestoresRow.holds Tryd.pinned (OpenSpec.ofChange ringRestoresSpec)

/-- ITS FALSE NEIGHBOUR: 'it returns false'. Refute it at one input. -/
def ringRestoresWrong : ChangeSpec := { name := "ringRestores", fn := fun _ => fun
  | [d1, d2, d3] => { results := [.lit (.bool false)], args := [d1, d2, d3] }
  | _ => none }
def RingRestoresWrongFalsely : Prop := ringRestoresRow.holds Tryd.pinned (OpenSpec.ofChange ringRestoresWrong)

/-- 'wigeonlaw01.RingBlocks': WHATEVER THE INPUT: true; the input reads as it did. -/
def ringBlocksSpec : ChangeSpec := { name := "ringBlocks", fn := fun _ => fun
  | [d1, d2] => { results := [.lit (.bool true)], args := [d1, d2] }
  | _ => none }
def ringBlocksRow : OpenClaim := { program := "ytojieiplomojnaadoor", sum := "6a6b4a3209d9563a664e4a7539592c52f889c9d10316c7b12c892a9a6a123665", func := "wigeon/wigeonlaw01.RingBlocks", spec := "ringBlocks", named := ["wigeon/ring.product", "wigeon/ring.turned"], apart := false, laid := [("wigeon/ring.product", laid_wigeon_ring_product), ("wigeon/ring.turned", laid_wigeon_ring_turned)] }
def RingBlocksSaid : Prop := ringBlocksRow.holds Tryd.pinned (OpenSpec.ofChange ringBlocksSpec)

/-- ITS FALSE NEIGHBOUR: 'it returns false'. Refute it at one input. -/
def ringBlocksWrong : ChangeSpec := { name := "ringBlocks", fn := fun _ => fun
  | [d1, d2] => { results := [.lit (.bool false)], args := [d1, d2] }
  | _ => none }
def RingBlocksWrongFalsely : Prop := ringBlocksRow.holds Tryd.pinned (OpenSpec.ofChange ringBlocksWrong)

/-- 'wigeonlaw01.RingJoins': WHATEVER THE INPUT: true; the input reads as it did. -/
def ringJoinsSpec : ChangeSpec := { name := "ringJoins", fn := fun _ => fun
  | [d1, d2] => { results := [.lit (.bool true)], args := [d1, d2] }
  | _ => none }
def ringJoinsRow : OpenClaim := { program := "ytojieiplomojnaadoor", sum := "6a6b4a3209d9563a664e4a7539592c52f889c9d10316c7b12c892a9a6a123665", func := "wigeon/wigeonlaw01.RingJoins", spec := "ringJoins", unfollowed := true, recurses := true, named := ["wigeon/ring.product", "wigeon/ring.turned"], apart := false, laid := [("wigeon/ring.product", laid_wigeon_ring_product), ("wigeon/ring.turned", laid_wigeon_ring_turned)] }
def RingJoinsSaid : Prop := ringJoinsRow.holds Tryd.pinned (OpenSpec.ofChange ringJoinsSpec)

/-- ITS FALSE NEIGHBOUR: 'it returns false'. Refute it at one input. -/
def ringJoinsWrong : ChangeSpec := { name := "ringJoins", fn := fun _ => fun
  | [d1, d2] => { results := [.lit (.bool false)], args := [d1, d2] }
  | _ => none }
def RingJoinsWrongFalsely : Prop := ringJoinsRow.holds Tryd.pinned (OpenSpec.ofChange ringJoinsWrong)

/- THE SECOND FORM. 'bulk': how many values and letters a reading holds, each counted each time it is reached (what is shared counts as often as it is met; a slice's spare places count too). A statement '..UptoSaid' is the law's where the arguments, and the package variables that the reading takes, are together of bulk at most 1048576: NARROWER than '..Said'. Prove '..Said' where nothing that the law and all that it calls make is longer than what came in: it says more and counts as full. Else prove '..UptoSaid'. A law counts once. -/
mutual
def uptoBulk {H : Type} : DataW H → Nat
  | .lit (.string bytes) => bytes.length + 1
  | .lit _ => 1
  | .nil => 1
  | .ptr d => uptoBulk d + 1
  | .slice elems spare => uptoBulkAll elems + uptoBulkAll spare + 1
  | .agg parts => uptoBulkAll parts + 1
  | .iface _ d => uptoBulk d + 1
  | .map entries => uptoBulkEntries entries + 1
  | .held _ => 1
def uptoBulkAll {H : Type} : List (DataW H) → Nat
  | [] => 0
  | d :: r => uptoBulk d + uptoBulkAll r
def uptoBulkEntries {H : Type} : List (Lit × DataW H) → Nat
  | [] => 0
  | x :: r => uptoBulkEntry x + uptoBulkEntries r
def uptoBulkEntry {H : Type} : Lit × DataW H → Nat
  | (.string bytes, d) => bytes.length + uptoBulk d + 1
  | (_, d) => uptoBulk d + 1
 end
def uptoSmall : (H : Type) → List (DataW H) → Bool := fun _ ds => decide (uptoBulkAll ds ≤ 1048576)
def OpenSpec.upto (s : _root_.Go.ChangeSpec) : _root_.Go.OpenSpec := { _root_.Go.OpenSpec.ofChange s with cond := some uptoSmall }

/-- 'wigeonlaw01.RingTimes', WHERE WHAT IT READS IS OF BULK AT MOST 1048576: true; the input reads as it did. -/
def ringTimesUptoRow : OpenClaim := { program := "ytojieiplomojnaadoor", sum := "6a6b4a3209d9563a664e4a7539592c52f889c9d10316c7b12c892a9a6a123665", func := "wigeon/wigeonlaw01.RingTimes", spec := "ringTimes", named := ["wigeon/ring.product", "wigeon/ring.turned"], apart := false, laid := [("wigeon/ring.product", laid_wigeon_ring_product), ("wigeon/ring.turned", laid_wigeon_ring_turned)], narrowed := true }
def RingTimesUptoSaid : Prop := ringTimesUptoRow.holds Tryd.pinned (OpenSpec.upto ringTimesSpec)

/-- 'wigeonlaw01.RingGroups', WHERE WHAT IT READS IS OF BULK AT MOST 1048576: true; the input reads as it did. -/
def ringGroupsUptoRow : OpenClaim := { program := "ytojieiplomojnaadoor", sum := "6a6b4a3209d9563a664e4a7539592c52f889c9d10316c7b12c892a9a6a123665", func := "wigeon/wigeonlaw01.RingGroups", spec := "ringGroups", named := ["wigeon/ring.product", "wigeon/ring.turned"], apart := false, laid := [("wigeon/ring.product", laid_wigeon_ring_product), ("wigeon/ring.turned", laid_wigeon_ring_turned)], narrowed := true }
def RingGroupsUptoSaid : Prop := ringGroupsUptoRow.holds Tryd.pinned (OpenSpec.upto ringGroupsSpec)

/-- 'wigeonlaw01.RingSums', WHERE WHAT IT READS IS OF BULK AT MOST 1048576: true; the input reads as it did. -/
def ringSumsUptoRow : OpenClaim := { program := "ytojieiplomojnaadoor", sum := "6a6b4a3209d9563a664e4a7539592c52f889c9d10316c7b12c892a9a6a123665", func := "wigeon/wigeonlaw01.RingSums", spec := "ringSums", named := ["wigeon/ring.product", "wigeon/ring.turned"], apart := false, laid := [("wigeon/ring.product", laid_wigeon_ring_product), ("wigeon/ring.turned", laid_wigeon_ring_turned)], narrowed := true }
def RingSumsUptoSaid : Prop := ringSumsUptoRow.holds Tryd.pinned (OpenSpec.upto ringSumsSpec)

/-- 'wigeonlaw01.RingFinds', WHERE WHAT IT READS IS OF BULK AT MOST 1048576: true; the input reads as it did. -/
def ringFindsUptoRow : OpenClaim := { program := "ytojieiplomojnaadoor", sum := "6a6b4a3209d9563a664e4a7539592c52f889c9d10316c7b12c892a9a6a123665", func := "wigeon/wigeonlaw01.RingFinds", spec := "ringFinds", named := ["wigeon/ring.product", "wigeon/ring.turned"], apart := false, laid := [("wigeon/ring.product", laid_wigeon_ring_product), ("wigeon/ring.turned", laid_wigeon_ring_turned)], narrowed := true }
def RingFindsUptoSaid : Prop := ringFindsUptoRow.holds Tryd.pinned (OpenSpec.upto ringFindsSpec)

/-- 'wigeonlaw01.RingReads', WHERE WHAT IT READS IS OF BULK AT MOST 1048576: true; the input reads as it did. -/
def ringReadsUptoRow : OpenClaim := { program := "ytojieiplomojnaadoor", sum := "6a6b4a3209d9563a664e4a7539592c52f889c9d10316c7b12c892a9a6a123665", func := "wigeon/wigeonlaw01.RingReads", spec := "ringReads", inPlace := ["internal/abi.NoEscape", "internal/bytealg.MakeNoZero"], named := ["wigeon/ring.product", "wigeon/ring.turned", "internal/strconv.uint64pow10", "math/bits.deBruijn32tab", "math/bits.deBruijn64tab"], apart := false, laid := [("math/bits.deBruijn32tab", laid_math_bits_deBruijn32tab), ("math/bits.deBruijn64tab", laid_math_bits_deBruijn64tab), ("internal/strconv.uint64pow10", laid_internal_strconv_uint64pow10), ("wigeon/ring.product", laid_wigeon_ring_product), ("wigeon/ring.turned", laid_wigeon_ring_turned)], narrowed := true }
def RingReadsUptoSaid : Prop := ringReadsUptoRow.holds Tryd.pinned (OpenSpec.upto ringReadsSpec)

/-- 'wigeonlaw01.RingMakes', WHERE WHAT IT READS IS OF BULK AT MOST 1048576: true; the input reads as it did. -/
def ringMakesUptoRow : OpenClaim := { program := "ytojieiplomojnaadoor", sum := "6a6b4a3209d9563a664e4a7539592c52f889c9d10316c7b12c892a9a6a123665", func := "wigeon/wigeonlaw01.RingMakes", spec := "ringMakes", inPlace := ["internal/abi.NoEscape", "internal/bytealg.MakeNoZero"], named := ["wigeon/ring.product", "wigeon/ring.turned", "internal/strconv.uint64pow10", "math/bits.deBruijn32tab", "math/bits.deBruijn64tab"], apart := false, laid := [("math/bits.deBruijn32tab", laid_math_bits_deBruijn32tab), ("math/bits.deBruijn64tab", laid_math_bits_deBruijn64tab), ("internal/strconv.uint64pow10", laid_internal_strconv_uint64pow10), ("wigeon/ring.product", laid_wigeon_ring_product), ("wigeon/ring.turned", laid_wigeon_ring_turned)], narrowed := true }
def RingMakesUptoSaid : Prop := ringMakesUptoRow.holds Tryd.pinned (OpenSpec.upto ringMakesSpec)

/-- 'wigeonlaw01.RingNears', WHERE WHAT IT READS IS OF BULK AT MOST 1048576: true; the input reads as it did. -/
def ringNearsUptoRow : OpenClaim := { program := "ytojieiplomojnaadoor", sum := "6a6b4a3209d9563a664e4a7539592c52f889c9d10316c7b12c892a9a6a123665", func := "wigeon/wigeonlaw01.RingNears", spec := "ringNears", recurses := true, named := ["wigeon/ring.product", "wigeon/ring.turned"], apart := false, laid := [("wigeon/ring.product", laid_wigeon_ring_product), ("wigeon/ring.turned", laid_wigeon_ring_turned)], narrowed := true }
def RingNearsUptoSaid : Prop := ringNearsUptoRow.holds Tryd.pinned (OpenSpec.upto ringNearsSpec)

/-- 'wigeonlaw01.RingFits', WHERE WHAT IT READS IS OF BULK AT MOST 1048576: true; the input reads as it did. -/
def ringFitsUptoRow : OpenClaim := { program := "ytojieiplomojnaadoor", sum := "6a6b4a3209d9563a664e4a7539592c52f889c9d10316c7b12c892a9a6a123665", func := "wigeon/wigeonlaw01.RingFits", spec := "ringFits", named := ["wigeon/ring.product", "wigeon/ring.turned"], apart := false, laid := [("wigeon/ring.product", laid_wigeon_ring_product), ("wigeon/ring.turned", laid_wigeon_ring_turned)], narrowed := true }
def RingFitsUptoSaid : Prop := ringFitsUptoRow.holds Tryd.pinned (OpenSpec.upto ringFitsSpec)

/-- 'wigeonlaw01.RingCounts', WHERE WHAT IT READS IS OF BULK AT MOST 1048576: true; the input reads as it did. -/
def ringCountsUptoRow : OpenClaim := { program := "ytojieiplomojnaadoor", sum := "6a6b4a3209d9563a664e4a7539592c52f889c9d10316c7b12c892a9a6a123665", func := "wigeon/wigeonlaw01.RingCounts", spec := "ringCounts", inPlace := ["internal/bytealg.CountString", "internal/bytealg.IndexByteString", "internal/bytealg.IndexString", "internal/abi.NoEscape", "internal/bytealg.MakeNoZero"], named := ["wigeon/ring.product", "wigeon/ring.turned", "internal/bytealg.MaxLen", "unicode/utf8.first", "unicode/utf8.acceptRanges"], apart := false, laid := [("unicode/utf8.acceptRanges", laid_unicode_utf8_acceptRanges), ("wigeon/ring.product", laid_wigeon_ring_product), ("wigeon/ring.turned", laid_wigeon_ring_turned), ("unicode/utf8.first", laid_unicode_utf8_first)], narrowed := true }
def RingCountsUptoSaid : Prop := ringCountsUptoRow.holds Tryd.pinned (OpenSpec.upto ringCountsSpec)

/-- 'wigeonlaw01.RingRestores', WHERE WHAT IT READS IS OF BULK AT MOST 1048576: true; the input reads as it did. -/
def ringRestoresUptoRow : OpenClaim := { program := "ytojieiplomojnaadoor", sum := "6a6b4a3209d9563a664e4a7539592c52f889c9d10316c7b12c892a9a6a123665", func := "wigeon/wigeonlaw01.RingRestores", spec := "ringRestores", inPlace := ["internal/abi.NoEscape", "internal/bytealg.MakeNoZero", "internal/bytealg.CountString", "internal/bytealg.IndexByteString", "internal/bytealg.IndexString"], named := ["wigeon/ring.product", "wigeon/ring.turned", "internal/strconv.uint64pow10", "math/bits.deBruijn32tab", "math/bits.deBruijn64tab", "internal/bytealg.MaxLen", "unicode/utf8.first", "unicode/utf8.acceptRanges"], apart := false, laid := [("math/bits.deBruijn32tab", laid_math_bits_deBruijn32tab), ("math/bits.deBruijn64tab", laid_math_bits_deBruijn64tab), ("internal/strconv.uint64pow10", laid_internal_strconv_uint64pow10), ("unicode/utf8.acceptRanges", laid_unicode_utf8_acceptRanges), ("wigeon/ring.product", laid_wigeon_ring_product), ("wigeon/ring.turned", laid_wigeon_ring_turned), ("unicode/utf8.first", laid_unicode_utf8_first)], narrowed := true }
def RingRestoresUptoSaid : Prop := ringRestoresUptoRow.holds Tryd.pinned (OpenSpec.upto ringRestoresSpec)

/-- 'wigeonlaw01.RingBlocks', WHERE WHAT IT READS IS OF BULK AT MOST 1048576: true; the input reads as it did. -/
def ringBlocksUptoRow : OpenClaim := { program := "ytojieiplomojnaadoor", sum := "6a6b4a3209d9563a664e4a7539592c52f889c9d10316c7b12c892a9a6a123665", func := "wigeon/wigeonlaw01.RingBlocks", spec := "ringBlocks", named := ["wigeon/ring.product", "wigeon/ring.turned"], apart := false, laid := [("wigeon/ring.product", laid_wigeon_ring_product), ("wigeon/ring.turned", laid_wigeon_ring_turned)], narrowed := true }
def RingBlocksUptoSaid : Prop := ringBlocksUptoRow.holds Tryd.pinned (OpenSpec.upto ringBlocksSpec)

/-- 'wigeonlaw01.RingJoins', WHERE WHAT IT READS IS OF BULK AT MOST 1048576: true; the input reads as it did. -/
def ringJoinsUptoRow : OpenClaim := { program := "ytojieiplomojnaadoor", sum := "6a6b4a3209d9563a664e4a7539592c52f889c9d10316c7b12c892a9a6a123665", func := "wigeon/wigeonlaw01.RingJoins", spec := "ringJoins", unfollowed := true, recurses := true, named := ["wigeon/ring.product", "wigeon/ring.turned"], apart := false, laid := [("wigeon/ring.product", laid_wigeon_ring_product), ("wigeon/ring.turned", laid_wigeon_ring_turned)], narrowed := true }
def RingJoinsUptoSaid : Prop := ringJoinsUptoRow.holds Tryd.pinned (OpenSpec.upto ringJoinsSpec)

end Rows
end Go.Proofs.YtojieiplomojnaaDoor
