/-
  The cell of internal/bytealg.MaxLen holds a number in every world in which a call begins. No condition.
-/
import Derived.Test.YtoenecgjiejljaaDoorRc9
import Derived.Shelf.Vars
namespace Go.Proofs.YtoenecgjiejljaaDoor
open Go.RowKit
set_option linter.unusedVariables false

theorem tbm_of {W : World} (h : W.ShapedOpen Tryd.prog) : TbM W := by
  obtain ⟨m, hm⟩ := cell_of_shapedOpen_int (P := Tryd.prog) (g := 2) (t := 3) (zero := #[.int .i64 0]) (k := .i64) h (by decide +kernel) (by kernel_rfl) rfl (by kernel_rfl) (by kernel_rfl) Tryd.underlying3
  exact ⟨⟨m, hm⟩, World.block_lt_of_cell? W _ hm⟩
end Go.Proofs.YtoenecgjiejljaaDoor
