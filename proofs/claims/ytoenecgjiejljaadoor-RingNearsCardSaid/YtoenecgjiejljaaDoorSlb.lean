/-
  A text as a list of bytes and back. No program in sight.
-/
import Derived.Test.YtoenecgjiejljaaDoorSg1
namespace Go.Proofs.YtoenecgjiejljaaDoor
set_option linter.unusedVariables false

/-- A text of bytes. -/
def sL (l : List UInt8) : ByteArray := ⟨l.toArray⟩
theorem bl_sL (l : List UInt8) : bl (sL l) = l := by simp [bl, sL]
theorem sL_bl (s : ByteArray) : sL (bl s) = s := bl_inj (bl_sL _)
theorem bl_app (a b : ByteArray) : bl (a ++ b) = bl a ++ bl b := by
  unfold bl
  rw [ByteArray.data_append]
  simp
theorem sL_app (a b : List UInt8) : sL a ++ sL b = sL (a ++ b) := bl_inj (by rw [bl_app, bl_sL, bl_sL, bl_sL])
theorem sL_size (l : List UInt8) : (sL l).size = l.length := by rw [← bl_len, bl_sL]
theorem bl_extract (s : ByteArray) (a b : Nat) : bl (s.extract a b) = ((bl s).drop a).take (b - a) := by
  unfold bl
  rw [ByteArray.data_extract, Array.toList_extract]
end Go.Proofs.YtoenecgjiejljaaDoor
