/-
  TopRings: for every input the law returns true and its arguments read as they did: the row's statement, and the card where the seat has one. Conditions: the row's own ('laid': the listed tables hold what the program's text lays).
-/
import Derived.Test.YtoenecgjiejljaaDoorCards
import Derived.Test.YtoenecgjiejljaaDoorTie
import Derived.SevenTiedAt
import Derived.Test.YtoenecgjiejljaaDoorRows
import Derived.Test.YtoenecgjiejljaaDoorTopRingsCon
namespace Go.Proofs.YtoenecgjiejljaaDoor.topRings
open Go.ChangeShapes Go.WideShapes Go.ChangeAt Go.RowKit
set_option linter.unusedVariables false

theorem laid_met (os : Os) : laidMet Tryd.prog Rows.topRingsRow.laid ((laidWorld Tryd.prog os [(6, Rows.laid_math_bits_deBruijn32tab), (7, Rows.laid_math_bits_deBruijn64tab), (3, Rows.laid_internal_strconv_uint64pow10), (5, Rows.laid_unicode_utf8_acceptRanges), (0, Rows.laid_wigeon_ring_product), (1, Rows.laid_wigeon_ring_turned), (4, Rows.laid_unicode_utf8_first)]).forCall (fun _ _ => 0) ⟨#[], #[(.string ⟨#[]⟩ : Value), (.int .i64 0 : Value), (.string ⟨#[]⟩ : Value)], []⟩).memory :=
  laidMet_of_run' 12 (by kernel_rfl) (by kernel_rfl)
theorem reads (os : Os) {H : Type} (enc : TypeId × Value → H) : ∃ places, DataW.whole enc Tryd.prog ((laidWorld Tryd.prog os [(6, Rows.laid_math_bits_deBruijn32tab), (7, Rows.laid_math_bits_deBruijn64tab), (3, Rows.laid_internal_strconv_uint64pow10), (5, Rows.laid_unicode_utf8_acceptRanges), (0, Rows.laid_wigeon_ring_product), (1, Rows.laid_wigeon_ring_turned), (4, Rows.laid_unicode_utf8_first)]).forCall (fun _ _ => 0) ⟨#[], #[(.string ⟨#[]⟩ : Value), (.int .i64 0 : Value), (.string ⟨#[]⟩ : Value)], []⟩).memory Tryd.f9.params.toList Rows.topRingsSpec.vars false #[(.string ⟨#[]⟩ : Value), (.int .i64 0 : Value), (.string ⟨#[]⟩ : Value)].toList 12 = some ([.lit (.string []), .lit (.int .i64 0), .lit (.string [])], [], places) :=
  ⟨[], by kernel_rfl⟩
set_option maxRecDepth 100000 in
theorem lifted (os : Os) (started : os.Started) (H : Type) (enc : TypeId × Value → H) (F : Stop.Interp) :
    ReturnsInHanded {} Tryd.checked os 9 .any ((OpenSpec.ofChange Rows.topRingsSpec).preRow enc Tryd.prog Tryd.f9 Rows.topRingsRow.domain false Rows.topRingsRow.laid) (((OpenSpec.ofChange Rows.topRingsSpec).at F).post enc Tryd.prog Tryd.f9 false true false false) := by
  obtain ⟨places, hx⟩ := reads os enc
  refine returnsInHanded_of_row (C := Tryd.checked) (s := OpenSpec.ofChange Rows.topRingsSpec) own started (by kernel_rfl) Tryd.func9
    (witness_row_at (enc := enc) (C := Tryd.checked) false (laidWorld Tryd.prog os [(6, Rows.laid_math_bits_deBruijn32tab), (7, Rows.laid_math_bits_deBruijn64tab), (3, Rows.laid_internal_strconv_uint64pow10), (5, Rows.laid_unicode_utf8_acceptRanges), (0, Rows.laid_wigeon_ring_product), (1, Rows.laid_wigeon_ring_turned), (4, Rows.laid_unicode_utf8_first)]) #[(.string ⟨#[]⟩ : Value), (.int .i64 0 : Value), (.string ⟨#[]⟩ : Value)] rfl (by kernel_rfl) (by kernel_rfl) (by kernel_rfl)
      (OpenSpec.preRow_of_cond 12 hx (by kernel_rfl) (fun k hk => by cases hk) (by kernel_rfl) (laid_met os))) ?_
  intro W base args ds gs before hval hW _ _ _ hL hSh _
  exact contract H enc W base args ds gs before hval hW hL hSh
theorem said : Rows.TopRingsSaid :=
  OpenClaim.holds_of_cond 9 Tryd.f9 rfl rfl rfl rfl rfl rfl rfl ⟨rfl, rfl, rfl, rfl, rfl⟩ rfl rfl rfl rfl rfl (by kernel_rfl) Tryd.func9 (by kernel_rfl)
    (of_decide_eq_true (by kernel_rfl)) (by unfold Func.isWrapper; first | (rw [if_pos (by decide +kernel)]; kernel_rfl) | (rw [if_neg (by decide +kernel)]; exact ⟨rfl, rfl⟩))
    (fun os started H enc _ F => by rw [OpenClaim.pre_eq_preRow]; exact lifted os started H enc F)
theorem plain (f : FuncId) (fn : Func) (hf : Tryd.pinned.checked.prog.funcNamed "wigeon/wigeontop.TopRings" = some f) (hfn : Tryd.pinned.checked.prog.funcs[f]? = some fn) :
    true = Tryd.pinned.checked.prog.looks [] ∧ ∀ (j : Nat) t, fn.params[j]? = some t → Tryd.pinned.checked.prog.wantsStandIn t = false := by
  obtain rfl : f = 9 := Option.some.inj ((show Tryd.prog.funcNamed "wigeon/wigeontop.TopRings" = some 9 by kernel_rfl).symm.trans hf) |>.symm
  obtain rfl : fn = Tryd.f9 := (Option.some.inj (Tryd.func9.symm.trans hfn)).symm
  refine ⟨by kernel_rfl, fun j t ht => ?_⟩
  rw [Tryd.params9] at ht
  have hm : t ∈ [9, 3, 9] := by have := Array.mem_of_getElem? ht; simpa using this
  have hall : ([9, 3, 9].all fun u => !Tryd.prog.wantsStandIn u) = true := by kernel_rfl
  exact (show Tryd.prog.wantsStandIn t = false by simpa using List.all_eq_true.1 hall t hm)
theorem card : Rows.TopRingsCardSaid :=
  Claim7.holds_tied_plain_at .later [] _ _ _ _ said (fun _ h => by cases h) (by kernel_rfl) (fun _ h => by cases h) topRings_row_tie rfl ⟨rfl, rfl⟩ (by kernel_rfl) rfl plain (by kernel_rfl)
end Go.Proofs.YtoenecgjiejljaaDoor.topRings
