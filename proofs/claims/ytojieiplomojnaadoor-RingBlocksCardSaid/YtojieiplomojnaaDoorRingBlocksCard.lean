/-
  RingBlocks: for every input the law returns true and its arguments read as they did: the row's statement, and the card where the seat has one. Conditions: the row's own ('laid': the listed tables hold what the program's text lays).
-/
import Derived.Test.YtojieiplomojnaaDoorCards
import Derived.Test.YtojieiplomojnaaDoorTie
import Derived.SevenTiedAt
import Derived.Test.YtojieiplomojnaaDoorRows
import Derived.Test.YtojieiplomojnaaDoorRingBlocksCon
namespace Go.Proofs.YtojieiplomojnaaDoor.ringBlocks
open Go.ChangeShapes Go.WideShapes Go.ChangeAt Go.RowKit
set_option linter.unusedVariables false

theorem laid_met (os : Os) : laidMet Tryd.prog Rows.ringBlocksRow.laid ((laidWorld Tryd.prog os [(0, Rows.laid_wigeon_ring_product), (1, Rows.laid_wigeon_ring_turned)]).forCall (fun _ _ => 0) ⟨#[], #[(.slice none 0 0 : Value), (.string ⟨#[]⟩ : Value)], []⟩).memory :=
  laidMet_of_run' 12 (by kernel_rfl) (by kernel_rfl)
theorem reads (os : Os) {H : Type} (enc : TypeId × Value → H) : ∃ places, DataW.whole enc Tryd.prog ((laidWorld Tryd.prog os [(0, Rows.laid_wigeon_ring_product), (1, Rows.laid_wigeon_ring_turned)]).forCall (fun _ _ => 0) ⟨#[], #[(.slice none 0 0 : Value), (.string ⟨#[]⟩ : Value)], []⟩).memory Tryd.f13.params.toList Rows.ringBlocksSpec.vars false #[(.slice none 0 0 : Value), (.string ⟨#[]⟩ : Value)].toList 12 = some ([.nil, .lit (.string [])], [], places) :=
  ⟨[], by kernel_rfl⟩
set_option maxRecDepth 100000 in
theorem lifted (os : Os) (started : os.Started) (H : Type) (enc : TypeId × Value → H) (F : Stop.Interp) :
    ReturnsInHanded {} Tryd.checked os 13 .any ((OpenSpec.ofChange Rows.ringBlocksSpec).preRow enc Tryd.prog Tryd.f13 Rows.ringBlocksRow.domain false Rows.ringBlocksRow.laid) (((OpenSpec.ofChange Rows.ringBlocksSpec).at F).post enc Tryd.prog Tryd.f13 false true false false) := by
  obtain ⟨places, hx⟩ := reads os enc
  refine returnsInHanded_of_row (C := Tryd.checked) (s := OpenSpec.ofChange Rows.ringBlocksSpec) own started (by kernel_rfl) Tryd.func13
    (witness_row_at (enc := enc) (C := Tryd.checked) false (laidWorld Tryd.prog os [(0, Rows.laid_wigeon_ring_product), (1, Rows.laid_wigeon_ring_turned)]) #[(.slice none 0 0 : Value), (.string ⟨#[]⟩ : Value)] rfl (by kernel_rfl) (by kernel_rfl) (by kernel_rfl)
      (OpenSpec.preRow_of_cond 12 hx (by kernel_rfl) (fun k hk => by cases hk) (by kernel_rfl) (laid_met os))) ?_
  intro W base args ds gs before hval hW _ _ _ hL _ _
  exact contract H enc W base args ds gs before hval hW hL
theorem said : Rows.RingBlocksSaid :=
  OpenClaim.holds_of_cond 13 Tryd.f13 rfl rfl rfl rfl rfl rfl rfl ⟨rfl, rfl, rfl, rfl, rfl⟩ rfl rfl rfl rfl rfl (by kernel_rfl) Tryd.func13 (by kernel_rfl)
    (of_decide_eq_true (by kernel_rfl)) (by unfold Func.isWrapper; first | (rw [if_pos (by decide +kernel)]; kernel_rfl) | (rw [if_neg (by decide +kernel)]; exact ⟨rfl, rfl⟩))
    (fun os started H enc _ F => by rw [OpenClaim.pre_eq_preRow]; exact lifted os started H enc F)
theorem plain (f : FuncId) (fn : Func) (hf : Tryd.pinned.checked.prog.funcNamed "wigeon/wigeonlaw01.RingBlocks" = some f) (hfn : Tryd.pinned.checked.prog.funcs[f]? = some fn) :
    false = Tryd.pinned.checked.prog.looks [] ∧ ∀ (j : Nat) t, fn.params[j]? = some t → Tryd.pinned.checked.prog.wantsStandIn t = false := by
  obtain rfl : f = 13 := Option.some.inj ((show Tryd.prog.funcNamed "wigeon/wigeonlaw01.RingBlocks" = some 13 by kernel_rfl).symm.trans hf) |>.symm
  obtain rfl : fn = Tryd.f13 := (Option.some.inj (Tryd.func13.symm.trans hfn)).symm
  refine ⟨by kernel_rfl, fun j t ht => ?_⟩
  rw [Tryd.params13] at ht
  have hm : t ∈ [52, 9] := by have := Array.mem_of_getElem? ht; simp at this ⊢; omega
  have hall : ([52, 9].all fun u => !Tryd.prog.wantsStandIn u) = true := by kernel_rfl
  exact (show Tryd.prog.wantsStandIn t = false by simpa using List.all_eq_true.1 hall t hm)
theorem card : Rows.RingBlocksCardSaid :=
  Claim7.holds_tied_plain_at .later [] _ _ _ _ said (fun _ h => by cases h) (by kernel_rfl) (fun _ h => by cases h) ringBlocks_row_tie rfl ⟨rfl, rfl⟩ (by kernel_rfl) rfl plain (by kernel_rfl)
end Go.Proofs.YtojieiplomojnaaDoor.ringBlocks
