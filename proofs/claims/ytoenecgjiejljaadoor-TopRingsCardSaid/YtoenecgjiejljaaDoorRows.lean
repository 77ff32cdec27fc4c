/-
  NARROWER THAN 'FOR EVERY INPUT', by the rows' own cells (each row's printed sentence says how): RingReads: laid · RingMakes: laid · RingNears: laid · RingCounts: laid · RingRestores: laid · RingJoins: laid · TopRings: laid · BookWrites: laid · TopBook: laid.
  DERIVED. THE GIVEN ROWS OF THIS SEAT. 9 by the template 'for every input the law returns true; each argument reads behind the call as it read before'; 0 by the template 'total and deterministic' (their statements: YtoenecgjiejljaaDoorTotals.lean).
  GIVEN WITH THE SEED: the statements are not yours to turn. If you find one false, say at which input.
  Laid BY PROGRAM, IN A SANDBOX (cutbox-rows.mjs): the forced cells as the released guide's own fill.sh prints them over the translation 082a043f2e73ac7d… (all of the seat's roots in one cut). By AI agents, Wed Nov 11 2026. No macro, syntax, notation, axiom, sorry.
-/
import Derived.Test.YtoenecgjiejljaaDoorChecked
import GoSem.PinnedTables
import GoSem.Claim
import GoSem.ClaimJoined
import GoSem.ClaimMapViews
import Derived.JoinedTies
import Derived.KernelRfl
namespace Go.Proofs.YtoenecgjiejljaaDoor
/- THE CELL 'sum', in the pinned program and in every row, IS THE sha256 OF THE DUMP (.gsa) THAT YtoenecgjiejljaaDoorProg.lean LOADS. Nothing in Lean hashes anything: it is a label: what it is worth is what the hold of that sum in a sandbox is worth. -/
noncomputable def Tryd.pinned : Pinned := { name := "ytoenecgjiejljaadoor", sum := "082a043f2e73ac7da4c48654bba6ac0e7a69c1afcad11ec43c7b5aa7ab927e78", checked := Tryd.checked }
namespace Rows
def none {H : Type} : Left H := { results := [], args := [] }

/- WHAT THE LISTED PACKAGE-LEVEL VARIABLES READ AS WHEN THE CALL BEGINS. Each datum BY PROGRAM (the guide's laid-datum.mjs) off the statement by which the dump's own 'gosem.cut.vars' lays the variable. In a bare row this is a premise. The card (YtoenecgjiejljaaDoorCards.lean) ties it to the program's text. -/
def laid_math_bits_deBruijn32tab {H : Type} : DataW H := .agg [.lit (.int .u8 0), .lit (.int .u8 1), .lit (.int .u8 28), .lit (.int .u8 2), .lit (.int .u8 29), .lit (.int .u8 14), .lit (.int .u8 24), .lit (.int .u8 3), .lit (.int .u8 30), .lit (.int .u8 22), .lit (.int .u8 20), .lit (.int .u8 15), .lit (.int .u8 25), .lit (.int .u8 17), .lit (.int .u8 4), .lit (.int .u8 8), .lit (.int .u8 31), .lit (.int .u8 27), .lit (.int .u8 13), .lit (.int .u8 23), .lit (.int .u8 21), .lit (.int .u8 19), .lit (.int .u8 16), .lit (.int .u8 7), .lit (.int .u8 26), .lit (.int .u8 12), .lit (.int .u8 18), .lit (.int .u8 6), .lit (.int .u8 11), .lit (.int .u8 5), .lit (.int .u8 10), .lit (.int .u8 9)]
def laid_math_bits_deBruijn64tab {H : Type} : DataW H := .agg [.lit (.int .u8 0), .lit (.int .u8 1), .lit (.int .u8 56), .lit (.int .u8 2), .lit (.int .u8 57), .lit (.int .u8 49), .lit (.int .u8 28), .lit (.int .u8 3), .lit (.int .u8 61), .lit (.int .u8 58), .lit (.int .u8 42), .lit (.int .u8 50), .lit (.int .u8 38), .lit (.int .u8 29), .lit (.int .u8 17), .lit (.int .u8 4), .lit (.int .u8 62), .lit (.int .u8 47), .lit (.int .u8 59), .lit (.int .u8 36), .lit (.int .u8 45), .lit (.int .u8 43), .lit (.int .u8 51), .lit (.int .u8 22), .lit (.int .u8 53), .lit (.int .u8 39), .lit (.int .u8 33), .lit (.int .u8 30), .lit (.int .u8 24), .lit (.int .u8 18), .lit (.int .u8 12), .lit (.int .u8 5), .lit (.int .u8 63), .lit (.int .u8 55), .lit (.int .u8 48), .lit (.int .u8 27), .lit (.int .u8 60), .lit (.int .u8 41), .lit (.int .u8 37), .lit (.int .u8 16), .lit (.int .u8 46), .lit (.int .u8 35), .lit (.int .u8 44), .lit (.int .u8 21), .lit (.int .u8 52), .lit (.int .u8 32), .lit (.int .u8 23), .lit (.int .u8 11), .lit (.int .u8 54), .lit (.int .u8 26), .lit (.int .u8 40), .lit (.int .u8 15), .lit (.int .u8 34), .lit (.int .u8 20), .lit (.int .u8 31), .lit (.int .u8 10), .lit (.int .u8 25), .lit (.int .u8 14), .lit (.int .u8 19), .lit (.int .u8 9), .lit (.int .u8 13), .lit (.int .u8 8), .lit (.int .u8 7), .lit (.int .u8 6)]
def laid_internal_strconv_uint64pow10 {H : Type} : DataW H := .agg [.lit (.int .u64 1), .lit (.int .u64 10), .lit (.int .u64 100), .lit (.int .u64 1000), .lit (.int .u64 10000), .lit (.int .u64 100000), .lit (.int .u64 1000000), .lit (.int .u64 10000000), .lit (.int .u64 100000000), .lit (.int .u64 1000000000), .lit (.int .u64 10000000000), .lit (.int .u64 100000000000), .lit (.int .u64 1000000000000), .lit (.int .u64 10000000000000), .lit (.int .u64 100000000000000), .lit (.int .u64 1000000000000000), .lit (.int .u64 10000000000000000), .lit (.int .u64 100000000000000000), .lit (.int .u64 1000000000000000000), .lit (.int .u64 10000000000000000000)]
def laid_wigeon_ring_product {H : Type} : DataW H := .agg [.agg [.lit (.int .i64 0), .lit (.int .i64 1), .lit (.int .i64 2), .lit (.int .i64 3), .lit (.int .i64 4), .lit (.int .i64 5), .lit (.int .i64 6), .lit (.int .i64 7), .lit (.int .i64 8), .lit (.int .i64 9)], .agg [.lit (.int .i64 1), .lit (.int .i64 2), .lit (.int .i64 3), .lit (.int .i64 4), .lit (.int .i64 0), .lit (.int .i64 6), .lit (.int .i64 7), .lit (.int .i64 8), .lit (.int .i64 9), .lit (.int .i64 5)], .agg [.lit (.int .i64 2), .lit (.int .i64 3), .lit (.int .i64 4), .lit (.int .i64 0), .lit (.int .i64 1), .lit (.int .i64 7), .lit (.int .i64 8), .lit (.int .i64 9), .lit (.int .i64 5), .lit (.int .i64 6)], .agg [.lit (.int .i64 3), .lit (.int .i64 4), .lit (.int .i64 0), .lit (.int .i64 1), .lit (.int .i64 2), .lit (.int .i64 8), .lit (.int .i64 9), .lit (.int .i64 5), .lit (.int .i64 6), .lit (.int .i64 7)], .agg [.lit (.int .i64 4), .lit (.int .i64 0), .lit (.int .i64 1), .lit (.int .i64 2), .lit (.int .i64 3), .lit (.int .i64 9), .lit (.int .i64 5), .lit (.int .i64 6), .lit (.int .i64 7), .lit (.int .i64 8)], .agg [.lit (.int .i64 5), .lit (.int .i64 9), .lit (.int .i64 8), .lit (.int .i64 7), .lit (.int .i64 6), .lit (.int .i64 0), .lit (.int .i64 4), .lit (.int .i64 3), .lit (.int .i64 2), .lit (.int .i64 1)], .agg [.lit (.int .i64 6), .lit (.int .i64 5), .lit (.int .i64 9), .lit (.int .i64 8), .lit (.int .i64 7), .lit (.int .i64 1), .lit (.int .i64 0), .lit (.int .i64 4), .lit (.int .i64 3), .lit (.int .i64 2)], .agg [.lit (.int .i64 7), .lit (.int .i64 6), .lit (.int .i64 5), .lit (.int .i64 9), .lit (.int .i64 8), .lit (.int .i64 2), .lit (.int .i64 1), .lit (.int .i64 0), .lit (.int .i64 4), .lit (.int .i64 3)], .agg [.lit (.int .i64 8), .lit (.int .i64 7), .lit (.int .i64 6), .lit (.int .i64 5), .lit (.int .i64 9), .lit (.int .i64 3), .lit (.int .i64 2), .lit (.int .i64 1), .lit (.int .i64 0), .lit (.int .i64 4)], .agg [.lit (.int .i64 9), .lit (.int .i64 8), .lit (.int .i64 7), .lit (.int .i64 6), .lit (.int .i64 5), .lit (.int .i64 4), .lit (.int .i64 3), .lit (.int .i64 2), .lit (.int .i64 1), .lit (.int .i64 0)]]
def laid_wigeon_ring_turned {H : Type} : DataW H := .agg [.lit (.int .i64 1), .lit (.int .i64 5), .lit (.int .i64 7), .lit (.int .i64 6), .lit (.int .i64 2), .lit (.int .i64 8), .lit (.int .i64 3), .lit (.int .i64 0), .lit (.int .i64 9), .lit (.int .i64 4)]
def laid_unicode_utf8_acceptRanges {H : Type} : DataW H := .agg [.agg [.lit (.int .u8 128), .lit (.int .u8 191)], .agg [.lit (.int .u8 160), .lit (.int .u8 191)], .agg [.lit (.int .u8 128), .lit (.int .u8 159)], .agg [.lit (.int .u8 144), .lit (.int .u8 191)], .agg [.lit (.int .u8 128), .lit (.int .u8 143)], .agg [.lit (.int .u8 0), .lit (.int .u8 0)], .agg [.lit (.int .u8 0), .lit (.int .u8 0)], .agg [.lit (.int .u8 0), .lit (.int .u8 0)], .agg [.lit (.int .u8 0), .lit (.int .u8 0)], .agg [.lit (.int .u8 0), .lit (.int .u8 0)], .agg [.lit (.int .u8 0), .lit (.int .u8 0)], .agg [.lit (.int .u8 0), .lit (.int .u8 0)], .agg [.lit (.int .u8 0), .lit (.int .u8 0)], .agg [.lit (.int .u8 0), .lit (.int .u8 0)], .agg [.lit (.int .u8 0), .lit (.int .u8 0)], .agg [.lit (.int .u8 0), .lit (.int .u8 0)]]
/-- One of Go's own tables, pinned by name: the form's constant. -/
def laid_unicode_utf8_first : DataW Unit := Go.Pinned.utf8First
def laid_strconv_ErrRange {H : Type} : DataW H := .iface "*errors.errorString" (.ptr (.agg [.lit (.string [118, 97, 108, 117, 101, 32, 111, 117, 116, 32, 111, 102, 32, 114, 97, 110, 103, 101])]))
def laid_strconv_ErrSyntax {H : Type} : DataW H := .iface "*errors.errorString" (.ptr (.agg [.lit (.string [105, 110, 118, 97, 108, 105, 100, 32, 115, 121, 110, 116, 97, 120])]))

/-- 'wigeonlaw01.RingReads': WHATEVER THE INPUT: true; the input reads as it did. -/
def ringReadsSpec : ChangeSpec := { name := "ringReads", fn := fun _ => fun
  | [d] => { results := [.lit (.bool true)], args := [d] }
  | _ => none }
def ringReadsRow : OpenClaim := { program := "ytoenecgjiejljaadoor", sum := "082a043f2e73ac7da4c48654bba6ac0e7a69c1afcad11ec43c7b5aa7ab927e78", func := "wigeon/wigeonlaw01.RingReads", spec := "ringReads", inPlace := ["internal/abi.NoEscape", "internal/bytealg.MakeNoZero"], named := ["wigeon/ring.product", "wigeon/ring.turned", "internal/strconv.uint64pow10", "math/bits.deBruijn32tab", "math/bits.deBruijn64tab"], apart := false, laid := [("math/bits.deBruijn32tab", laid_math_bits_deBruijn32tab), ("math/bits.deBruijn64tab", laid_math_bits_deBruijn64tab), ("internal/strconv.uint64pow10", laid_internal_strconv_uint64pow10), ("wigeon/ring.product", laid_wigeon_ring_product), ("wigeon/ring.turned", laid_wigeon_ring_turned)] }
def RingReadsSaid : Prop := ringReadsRow.holds Tryd.pinned (OpenSpec.ofChange ringReadsSpec)

/-- ITS FALSE NEIGHBOUR: 'it returns false'. Refute it at one input. -/
def ringReadsWrong : ChangeSpec := { name := "ringReads", fn := fun _ => fun
  | [d] => { results := [.lit (.bool false)], args := [d] }
  | _ => none }
def RingReadsWrongFalsely : Prop := ringReadsRow.holds Tryd.pinned (OpenSpec.ofChange ringReadsWrong)

/-- 'wigeonlaw01.RingMakes': WHATEVER THE INPUT: true; the input reads as it did. -/
def ringMakesSpec : ChangeSpec := { name := "ringMakes", fn := fun _ => fun
  | [d1, d2] => { results := [.lit (.bool true)], args := [d1, d2] }
  | _ => none }
def ringMakesRow : OpenClaim := { program := "ytoenecgjiejljaadoor", sum := "082a043f2e73ac7da4c48654bba6ac0e7a69c1afcad11ec43c7b5aa7ab927e78", func := "wigeon/wigeonlaw01.RingMakes", spec := "ringMakes", inPlace := ["internal/abi.NoEscape", "internal/bytealg.MakeNoZero"], named := ["wigeon/ring.product", "wigeon/ring.turned", "internal/strconv.uint64pow10", "math/bits.deBruijn32tab", "math/bits.deBruijn64tab"], apart := false, laid := [("math/bits.deBruijn32tab", laid_math_bits_deBruijn32tab), ("math/bits.deBruijn64tab", laid_math_bits_deBruijn64tab), ("internal/strconv.uint64pow10", laid_internal_strconv_uint64pow10), ("wigeon/ring.product", laid_wigeon_ring_product), ("wigeon/ring.turned", laid_wigeon_ring_turned)] }
def RingMakesSaid : Prop := ringMakesRow.holds Tryd.pinned (OpenSpec.ofChange ringMakesSpec)

/-- ITS FALSE NEIGHBOUR: 'it returns false'. Refute it at one input. -/
def ringMakesWrong : ChangeSpec := { name := "ringMakes", fn := fun _ => fun
  | [d1, d2] => { results := [.lit (.bool false)], args := [d1, d2] }
  | _ => none }
def RingMakesWrongFalsely : Prop := ringMakesRow.holds Tryd.pinned (OpenSpec.ofChange ringMakesWrong)

/-- 'wigeonlaw01.RingNears': WHATEVER THE INPUT: true; the input reads as it did. -/
def ringNearsSpec : ChangeSpec := { name := "ringNears", fn := fun _ => fun
  | [d] => { results := [.lit (.bool true)], args := [d] }
  | _ => none }
def ringNearsRow : OpenClaim := { program := "ytoenecgjiejljaadoor", sum := "082a043f2e73ac7da4c48654bba6ac0e7a69c1afcad11ec43c7b5aa7ab927e78", func := "wigeon/wigeonlaw01.RingNears", spec := "ringNears", recurses := true, named := ["wigeon/ring.product", "wigeon/ring.turned"], apart := false, laid := [("wigeon/ring.product", laid_wigeon_ring_product), ("wigeon/ring.turned", laid_wigeon_ring_turned)] }
def RingNearsSaid : Prop := ringNearsRow.holds Tryd.pinned (OpenSpec.ofChange ringNearsSpec)

/-- ITS FALSE NEIGHBOUR: 'it returns false'. Refute it at one input. -/
def ringNearsWrong : ChangeSpec := { name := "ringNears", fn := fun _ => fun
  | [d] => { results := [.lit (.bool false)], args := [d] }
  | _ => none }
def RingNearsWrongFalsely : Prop := ringNearsRow.holds Tryd.pinned (OpenSpec.ofChange ringNearsWrong)

/-- 'wigeonlaw01.RingCounts': WHATEVER THE INPUT: true; the input reads as it did. -/
def ringCountsSpec : ChangeSpec := { name := "ringCounts", fn := fun _ => fun
  | [d] => { results := [.lit (.bool true)], args := [d] }
  | _ => none }
def ringCountsRow : OpenClaim := { program := "ytoenecgjiejljaadoor", sum := "082a043f2e73ac7da4c48654bba6ac0e7a69c1afcad11ec43c7b5aa7ab927e78", func := "wigeon/wigeonlaw01.RingCounts", spec := "ringCounts", inPlace := ["internal/bytealg.CountString", "internal/bytealg.IndexByteString", "internal/bytealg.IndexString", "internal/abi.NoEscape", "internal/bytealg.MakeNoZero"], named := ["wigeon/ring.product", "wigeon/ring.turned", "internal/bytealg.MaxLen", "unicode/utf8.first", "unicode/utf8.acceptRanges"], apart := false, laid := [("unicode/utf8.acceptRanges", laid_unicode_utf8_acceptRanges), ("wigeon/ring.product", laid_wigeon_ring_product), ("wigeon/ring.turned", laid_wigeon_ring_turned), ("unicode/utf8.first", laid_unicode_utf8_first)] }
def RingCountsSaid : Prop := ringCountsRow.holds Tryd.pinned (OpenSpec.ofChange ringCountsSpec)

/-- ITS FALSE NEIGHBOUR: 'it returns false'. Refute it at one input. -/
def ringCountsWrong : ChangeSpec := { name := "ringCounts", fn := fun _ => fun
  | [d] => { results := [.lit (.bool false)], args := [d] }
  | _ => none }
def RingCountsWrongFalsely : Prop := ringCountsRow.holds Tryd.pinned (OpenSpec.ofChange ringCountsWrong)

/-- 'wigeonlaw01.RingRestores': WHATEVER THE INPUT: true; the input reads as it did. -/
def ringRestoresSpec : ChangeSpec := { name := "ringRestores", fn := fun _ => fun
  | [d1, d2, d3] => { results := [.lit (.bool true)], args := [d1, d2, d3] }
  | _ => none }
def ringRestoresRow : OpenClaim := { program := "ytoenecgjiejljaadoor", sum := "082a043f2e73ac7da4c48654bba6ac0e7a69c1afcad11ec43c7b5aa7ab927e78", func := "wigeon/wigeonlaw01.RingRestores", spec := "ringRestores", inPlace := ["internal/abi.NoEscape", "internal/bytealg.MakeNoZero", "internal/bytealg.CountString", "internal/bytealg.IndexByteString", "internal/bytealg.IndexString"], named := ["wigeon/ring.product", "wigeon/ring.turned", "internal/strconv.uint64pow10", "math/bits.deBruijn32tab", "math/bits.deBruijn64tab", "internal/bytealg.MaxLen", "unicode/utf8.first", "unicode/utf8.acceptRanges"], apart := false, laid := [("math/bits.deBruijn32tab", laid_math_bits_deBruijn32tab), ("math/bits.deBruijn64tab", laid_math_bits_deBruijn64tab), ("internal/strconv.uint64pow10", laid_internal_strconv_uint64pow10), ("unicode/utf8.acceptRanges", laid_unicode_utf8_acceptRanges), ("wigeon/ring.product", laid_wigeon_ring_product), ("wigeon/ring.turned", laid_wigeon_ring_turned), ("unicode/utf8.first", laid_unicode_utf8_first)] }
def RingRestoresSaid : Prop := ringRestoresRow.holds Tryd.pinned (OpenSpec.ofChange ringRestoresSpec)

/-- ITS FALSE NEIGHBOUR: 'it returns false'. Refute it at one input. -/
def ringRestoresWrong : ChangeSpec := { name := "ringRestores", fn := fun _ => fun
  | [d1, d2, d3] => { results := [.lit (.bool false)], args := [d1, d2, d3] }
  | _ => none }
def RingRestoresWrongFalsely : Prop := ringRestoresRow.holds Tryd.pinned (OpenSpec.ofChange ringRestoresWrong)

/-- 'wigeonlaw01.RingJoins': WHATEVER THE INPUT: true; the input reads as it did. -/
def ringJoinsSpec : ChangeSpec := { name := "ringJoins", fn := fun _ => fun
  | [d1, d2] => { results := [.lit (.bool true)], args := [d1, d2] }
  | _ => none }
def ringJoinsRow : OpenClaim := { program := "ytoenecgjiejljaadoor", sum := "082a043f2e73ac7da4c48654bba6ac0e7a69c1afcad11ec43c7b5aa7ab927e78", func := "wigeon/wigeonlaw01.RingJoins", spec := "ringJoins", unfollowed := true, recurses := true, named := ["wigeon/ring.product", "wigeon/ring.turned"], apart := false, laid := [("wigeon/ring.product", laid_wigeon_ring_product), ("wigeon/ring.turned", laid_wigeon_ring_turned)] }
def RingJoinsSaid : Prop := ringJoinsRow.holds Tryd.pinned (OpenSpec.ofChange ringJoinsSpec)

/-- ITS FALSE NEIGHBOUR: 'it returns false'. Refute it at one input. -/
def ringJoinsWrong : ChangeSpec := { name := "ringJoins", fn := fun _ => fun
  | [d1, d2] => { results := [.lit (.bool false)], args := [d1, d2] }
  | _ => none }
def RingJoinsWrongFalsely : Prop := ringJoinsRow.holds Tryd.pinned (OpenSpec.ofChange ringJoinsWrong)

/-- 'wigeontop.TopRings': WHATEVER THE INPUT: true; the input reads as it did. -/
def topRingsSpec : ChangeSpec := { name := "topRings", fn := fun _ => fun
  | [d1, d2, d3] => { results := [.lit (.bool true)], args := [d1, d2, d3] }
  | _ => none }
def topRingsRow : OpenClaim := { program := "ytoenecgjiejljaadoor", sum := "082a043f2e73ac7da4c48654bba6ac0e7a69c1afcad11ec43c7b5aa7ab927e78", func := "wigeon/wigeontop.TopRings", spec := "topRings", inPlace := ["internal/abi.NoEscape", "internal/bytealg.MakeNoZero", "internal/bytealg.CountString", "internal/bytealg.IndexByteString", "internal/bytealg.IndexString"], recurses := true, named := ["wigeon/ring.product", "wigeon/ring.turned", "internal/strconv.uint64pow10", "math/bits.deBruijn32tab", "math/bits.deBruijn64tab", "internal/bytealg.MaxLen", "unicode/utf8.first", "unicode/utf8.acceptRanges"], apart := false, laid := [("math/bits.deBruijn32tab", laid_math_bits_deBruijn32tab), ("math/bits.deBruijn64tab", laid_math_bits_deBruijn64tab), ("internal/strconv.uint64pow10", laid_internal_strconv_uint64pow10), ("unicode/utf8.acceptRanges", laid_unicode_utf8_acceptRanges), ("wigeon/ring.product", laid_wigeon_ring_product), ("wigeon/ring.turned", laid_wigeon_ring_turned), ("unicode/utf8.first", laid_unicode_utf8_first)] }
def TopRingsSaid : Prop := topRingsRow.holds Tryd.pinned (OpenSpec.ofChange topRingsSpec)

/-- ITS FALSE NEIGHBOUR: 'it returns false'. Refute it at one input. -/
def topRingsWrong : ChangeSpec := { name := "topRings", fn := fun _ => fun
  | [d1, d2, d3] => { results := [.lit (.bool false)], args := [d1, d2, d3] }
  | _ => none }
def TopRingsWrongFalsely : Prop := topRingsRow.holds Tryd.pinned (OpenSpec.ofChange topRingsWrong)

/-- 'wigeonlaw09.BookWrites': WHATEVER THE INPUT: true; the input reads as it did. -/
def bookWritesSpec : ChangeSpec := { name := "bookWrites", fn := fun _ => fun
  | [d1, d2] => { results := [.lit (.bool true)], args := [d1, d2] }
  | _ => none }
def bookWritesRow : OpenClaim := { program := "ytoenecgjiejljaadoor", sum := "082a043f2e73ac7da4c48654bba6ac0e7a69c1afcad11ec43c7b5aa7ab927e78", func := "wigeon/wigeonlaw09.BookWrites", spec := "bookWrites", inPlace := ["internal/abi.NoEscape", "internal/bytealg.IndexByteString", "internal/bytealg.IndexString"], recurses := true, named := ["internal/strconv.uint64pow10", "math/bits.deBruijn32tab", "math/bits.deBruijn64tab", "internal/bytealg.MaxLen", "strconv.ErrSyntax", "strconv.ErrRange"], apart := false, laid := [("math/bits.deBruijn32tab", laid_math_bits_deBruijn32tab), ("math/bits.deBruijn64tab", laid_math_bits_deBruijn64tab), ("internal/strconv.uint64pow10", laid_internal_strconv_uint64pow10), ("strconv.ErrRange", laid_strconv_ErrRange), ("strconv.ErrSyntax", laid_strconv_ErrSyntax)] }
def BookWritesSaid : Prop := bookWritesRow.holds Tryd.pinned (OpenSpec.ofChange bookWritesSpec)

/-- ITS FALSE NEIGHBOUR: 'it returns false'. Refute it at one input. -/
def bookWritesWrong : ChangeSpec := { name := "bookWrites", fn := fun _ => fun
  | [d1, d2] => { results := [.lit (.bool false)], args := [d1, d2] }
  | _ => none }
def BookWritesWrongFalsely : Prop := bookWritesRow.holds Tryd.pinned (OpenSpec.ofChange bookWritesWrong)

/-- 'wigeontop.TopBook': WHATEVER THE INPUT: true; the input reads as it did. -/
def topBookSpec : ChangeSpec := { name := "topBook", fn := fun _ => fun
  | [d1, d2, d3] => { results := [.lit (.bool true)], args := [d1, d2, d3] }
  | _ => none }
def topBookRow : OpenClaim := { program := "ytoenecgjiejljaadoor", sum := "082a043f2e73ac7da4c48654bba6ac0e7a69c1afcad11ec43c7b5aa7ab927e78", func := "wigeon/wigeontop.TopBook", spec := "topBook", inPlace := ["internal/abi.NoEscape", "internal/bytealg.IndexByteString", "internal/bytealg.IndexString"], unfollowed := true, recurses := true, named := ["internal/strconv.uint64pow10", "math/bits.deBruijn32tab", "math/bits.deBruijn64tab", "internal/bytealg.MaxLen", "strconv.ErrSyntax", "strconv.ErrRange"], apart := false, laid := [("math/bits.deBruijn32tab", laid_math_bits_deBruijn32tab), ("math/bits.deBruijn64tab", laid_math_bits_deBruijn64tab), ("internal/strconv.uint64pow10", laid_internal_strconv_uint64pow10), ("strconv.ErrRange", laid_strconv_ErrRange), ("strconv.ErrSyntax", laid_strconv_ErrSyntax)] }
def TopBookSaid : Prop := topBookRow.holds Tryd.pinned (OpenSpec.ofChange topBookSpec)

/-- ITS FALSE NEIGHBOUR: 'it returns false'. Refute it at one input. -/
def topBookWrong : ChangeSpec := { name := "topBook", fn := fun _ => fun
  | [d1, d2, d3] => { results := [.lit (.bool false)], args := [d1, d2, d3] }
  | _ => none }
def TopBookWrongFalsely : Prop := topBookRow.holds Tryd.pinned (OpenSpec.ofChange topBookWrong)

/- THE SECOND FORM. 'bulk': how many values and letters a reading holds, each counted each time it is reached (what is shared counts as often as it is met; a slice's spare places count too). A statement '..UptoSaid' is the law's where the arguments, and the package variables that the reading takes, are together of bulk at most 1048576: NARROWER than '..Said'. Prove '..Said' where nothing that the law and all that it calls make is longer than what came in: it says more and counts as full. Else prove '..UptoSaid'. A law counts once. -/
mutual
def uptoBulk {H : Type} : DataW H → Nat
  | .lit (.string bytes) => bytes.length + 1
  | .lit _ => 1
  | .nil => 1
  | .ptr d => uptoBulk d + 1
  | .slice elems spare => uptoBulkAll elems + uptoBulkAll spare + 1
  | .agg parts => uptoBulkAll parts + 1
  | .iface _ d => uptoBulk d + 1
  | .map entries => uptoBulkEntries entries + 1
  | .held _ => 1
def uptoBulkAll {H : Type} : List (DataW H) → Nat
  | [] => 0
  | d :: r => uptoBulk d + uptoBulkAll r
def uptoBulkEntries {H : Type} : List (Lit × DataW H) → Nat
  | [] => 0
  | x :: r => uptoBulkEntry x + uptoBulkEntries r
def uptoBulkEntry {H : Type} : Lit × DataW H → Nat
  | (.string bytes, d) => bytes.length + uptoBulk d + 1
  | (_, d) => uptoBulk d + 1
 end
def uptoSmall : (H : Type) → List (DataW H) → Bool := fun _ ds => decide (uptoBulkAll ds ≤ 1048576)
def OpenSpec.upto (s : _root_.Go.ChangeSpec) : _root_.Go.OpenSpec := { _root_.Go.OpenSpec.ofChange s with cond := some uptoSmall }

/-- 'wigeonlaw01.RingReads', WHERE WHAT IT READS IS OF BULK AT MOST 1048576: true; the input reads as it did. -/
def ringReadsUptoRow : OpenClaim := { program := "ytoenecgjiejljaadoor", sum := "082a043f2e73ac7da4c48654bba6ac0e7a69c1afcad11ec43c7b5aa7ab927e78", func := "wigeon/wigeonlaw01.RingReads", spec := "ringReads", inPlace := ["internal/abi.NoEscape", "internal/bytealg.MakeNoZero"], named := ["wigeon/ring.product", "wigeon/ring.turned", "internal/strconv.uint64pow10", "math/bits.deBruijn32tab", "math/bits.deBruijn64tab"], apart := false, laid := [("math/bits.deBruijn32tab", laid_math_bits_deBruijn32tab), ("math/bits.deBruijn64tab", laid_math_bits_deBruijn64tab), ("internal/strconv.uint64pow10", laid_internal_strconv_uint64pow10), ("wigeon/ring.product", laid_wigeon_ring_product), ("wigeon/ring.turned", laid_wigeon_ring_turned)], narrowed := true }
def RingReadsUptoSaid : Prop := ringReadsUptoRow.holds Tryd.pinned (OpenSpec.upto ringReadsSpec)

/-- 'wigeonlaw01.RingMakes', WHERE WHAT IT READS IS OF BULK AT MOST 1048576: true; the input reads as it did. -/
def ringMakesUptoRow : OpenClaim := { program := "ytoenecgjiejljaadoor", sum := "082a043f2e73ac7da4c48654bba6ac0e7a69c1afcad11ec43c7b5aa7ab927e78", func := "wigeon/wigeonlaw01.RingMakes", spec := "ringMakes", inPlace := ["internal/abi.NoEscape", "internal/bytealg.MakeNoZero"], named := ["wigeon/ring.product", "wigeon/ring.turned", "internal/strconv.uint64pow10", "math/bits.deBruijn32tab", "math/bits.deBruijn64tab"], apart := false, laid := [("math/bits.deBruijn32tab", laid_math_bits_deBruijn32tab), ("math/bits.deBruijn64tab", laid_math_bits_deBruijn64tab), ("internal/strconv.uint64pow10", laid_internal_strconv_uint64pow10), ("wigeon/ring.product", laid_wigeon_ring_product), ("wigeon/ring.turned", laid_wigeon_ring_turned)], narrowed := true }
def RingMakesUptoSaid : Prop := ringMakesUptoRow.holds Tryd.pinned (OpenSpec.upto ringMakesSpec)

/-- 'wigeonlaw01.RingNears', WHERE WHAT IT READS IS OF BULK AT MOST 1048576: true; the input reads as it did. -/
def ringNearsUptoRow : OpenClaim := { program := "ytoenecgjiejljaadoor", sum := "082a043f2e73ac7da4c48654bba6ac0e7a69c1afcad11ec43c7b5aa7ab927e78", func := "wigeon/wigeonlaw01.RingNears", spec := "ringNears", recurses := true, named := ["wigeon/ring.product", "wigeon/ring.turned"], apart := false, laid := [("wigeon/ring.product", laid_wigeon_ring_product), ("wigeon/ring.turned", laid_wigeon_ring_turned)], narrowed := true }
def RingNearsUptoSaid : Prop := ringNearsUptoRow.holds Tryd.pinned (OpenSpec.upto ringNearsSpec)

/-- 'wigeonlaw01.RingCounts', WHERE WHAT IT READS IS OF BULK AT MOST 1048576: true; the input reads as it did. -/
def ringCountsUptoRow : OpenClaim := { program := "ytoenecgjiejljaadoor", sum := "082a043f2e73ac7da4c48654bba6ac0e7a69c1afcad11ec43c7b5aa7ab927e78", func := "wigeon/wigeonlaw01.RingCounts", spec := "ringCounts", inPlace := ["internal/bytealg.CountString", "internal/bytealg.IndexByteString", "internal/bytealg.IndexString", "internal/abi.NoEscape", "internal/bytealg.MakeNoZero"], named := ["wigeon/ring.product", "wigeon/ring.turned", "internal/bytealg.MaxLen", "unicode/utf8.first", "unicode/utf8.acceptRanges"], apart := false, laid := [("unicode/utf8.acceptRanges", laid_unicode_utf8_acceptRanges), ("wigeon/ring.product", laid_wigeon_ring_product), ("wigeon/ring.turned", laid_wigeon_ring_turned), ("unicode/utf8.first", laid_unicode_utf8_first)], narrowed := true }
def RingCountsUptoSaid : Prop := ringCountsUptoRow.holds Tryd.pinned (OpenSpec.upto ringCountsSpec)

/-- 'wigeonlaw01.RingRestores', WHERE WHAT IT READS IS OF BULK AT MOST 1048576: true; the input reads as it did. -/
def ringRestoresUptoRow : OpenClaim := { program := "ytoenecgjiejljaadoor", sum := "082a043f2e73ac7da4c48654bba6ac0e7a69c1afcad11ec43c7b5aa7ab927e78", func := "wigeon/wigeonlaw01.RingRestores", spec := "ringRestores", inPlace := ["internal/abi.NoEscape", "internal/bytealg.MakeNoZero", "internal/bytealg.CountString", "internal/bytealg.IndexByteString", "internal/bytealg.IndexString"], named := ["wigeon/ring.product", "wigeon/ring.turned", "internal/strconv.uint64pow10", "math/bits.deBruijn32tab", "math/bits.deBruijn64tab", "internal/bytealg.MaxLen", "unicode/utf8.first", "unicode/utf8.acceptRanges"], apart := false, laid := [("math/bits.deBruijn32tab", laid_math_bits_deBruijn32tab), ("math/bits.deBruijn64tab", laid_math_bits_deBruijn64tab), ("internal/strconv.uint64pow10", laid_internal_strconv_uint64pow10), ("unicode/utf8.acceptRanges", laid_unicode_utf8_acceptRanges), ("wigeon/ring.product", laid_wigeon_ring_product), ("wigeon/ring.turned", laid_wigeon_ring_turned), ("unicode/utf8.first", laid_unicode_utf8_first)], narrowed := true }
def RingRestoresUptoSaid : Prop := ringRestoresUptoRow.holds Tryd.pinned (OpenSpec.upto ringRestoresSpec)

/-- 'wigeonlaw01.RingJoins', WHERE WHAT IT READS IS OF BULK AT MOST 1048576: true; the input reads as it did. -/
def ringJoinsUptoRow : OpenClaim := { program := "ytoenecgjiejljaadoor", sum := "082a043f2e73ac7da4c48654bba6ac0e7a69c1afcad11ec43c7b5aa7ab927e78", func := "wigeon/wigeonlaw01.RingJoins", spec := "ringJoins", unfollowed := true, recurses := true, named := ["wigeon/ring.product", "wigeon/ring.turned"], apart := false, laid := [("wigeon/ring.product", laid_wigeon_ring_product), ("wigeon/ring.turned", laid_wigeon_ring_turned)], narrowed := true }
def RingJoinsUptoSaid : Prop := ringJoinsUptoRow.holds Tryd.pinned (OpenSpec.upto ringJoinsSpec)

/-- 'wigeontop.TopRings', WHERE WHAT IT READS IS OF BULK AT MOST 1048576: true; the input reads as it did. -/
def topRingsUptoRow : OpenClaim := { program := "ytoenecgjiejljaadoor", sum := "082a043f2e73ac7da4c48654bba6ac0e7a69c1afcad11ec43c7b5aa7ab927e78", func := "wigeon/wigeontop.TopRings", spec := "topRings", inPlace := ["internal/abi.NoEscape", "internal/bytealg.MakeNoZero", "internal/bytealg.CountString", "internal/bytealg.IndexByteString", "internal/bytealg.IndexString"], recurses := true, named := ["wigeon/ring.product", "wigeon/ring.turned", "internal/strconv.uint64pow10", "math/bits.deBruijn32tab", "math/bits.deBruijn64tab", "internal/bytealg.MaxLen", "unicode/utf8.first", "unicode/utf8.acceptRanges"], apart := false, laid := [("math/bits.deBruijn32tab", laid_math_bits_deBruijn32tab), ("math/bits.deBruijn64tab", laid_math_bits_deBruijn64tab), ("internal/strconv.uint64pow10", laid_internal_strconv_uint64pow10), ("unicode/utf8.acceptRanges", laid_unicode_utf8_acceptRanges), ("wigeon/ring.product", laid_wigeon_ring_product), ("wigeon/ring.turned", laid_wigeon_ring_turned), ("unicode/utf8.first", laid_unicode_utf8_first)], narrowed := true }
def TopRingsUptoSaid : Prop := topRingsUptoRow.holds Tryd.pinned (OpenSpec.upto topRingsSpec)

/-- 'wigeonlaw09.BookWrites', WHERE WHAT IT READS IS OF BULK AT MOST 1048576: true; the input reads as it did. -/
def bookWritesUptoRow : OpenClaim := { program := "ytoenecgjiejljaadoor", sum := "082a043f2e73ac7da4c48654bba6ac0e7a69c1afcad11ec43c7b5aa7ab927e78", func := "wigeon/wigeonlaw09.BookWrites", spec := "bookWrites", inPlace := ["internal/abi.NoEscape", "internal/bytealg.IndexByteString", "internal/bytealg.IndexString"], recurses := true, named := ["internal/strconv.uint64pow10", "math/bits.deBruijn32tab", "math/bits.deBruijn64tab", "internal/bytealg.MaxLen", "strconv.ErrSyntax", "strconv.ErrRange"], apart := false, laid := [("math/bits.deBruijn32tab", laid_math_bits_deBruijn32tab), ("math/bits.deBruijn64tab", laid_math_bits_deBruijn64tab), ("internal/strconv.uint64pow10", laid_internal_strconv_uint64pow10), ("strconv.ErrRange", laid_strconv_ErrRange), ("strconv.ErrSyntax", laid_strconv_ErrSyntax)], narrowed := true }
def BookWritesUptoSaid : Prop := bookWritesUptoRow.holds Tryd.pinned (OpenSpec.upto bookWritesSpec)

/-- 'wigeontop.TopBook', WHERE WHAT IT READS IS OF BULK AT MOST 1048576: true; the input reads as it did. -/
def topBookUptoRow : OpenClaim := { program := "ytoenecgjiejljaadoor", sum := "082a043f2e73ac7da4c48654bba6ac0e7a69c1afcad11ec43c7b5aa7ab927e78", func := "wigeon/wigeontop.TopBook", spec := "topBook", inPlace := ["internal/abi.NoEscape", "internal/bytealg.IndexByteString", "internal/bytealg.IndexString"], unfollowed := true, recurses := true, named := ["internal/strconv.uint64pow10", "math/bits.deBruijn32tab", "math/bits.deBruijn64tab", "internal/bytealg.MaxLen", "strconv.ErrSyntax", "strconv.ErrRange"], apart := false, laid := [("math/bits.deBruijn32tab", laid_math_bits_deBruijn32tab), ("math/bits.deBruijn64tab", laid_math_bits_deBruijn64tab), ("internal/strconv.uint64pow10", laid_internal_strconv_uint64pow10), ("strconv.ErrRange", laid_strconv_ErrRange), ("strconv.ErrSyntax", laid_strconv_ErrSyntax)], narrowed := true }
def TopBookUptoSaid : Prop := topBookUptoRow.holds Tryd.pinned (OpenSpec.upto topBookSpec)

end Rows
end Go.Proofs.YtoenecgjiejljaaDoor
