/-
  A digit as a text, in the reference: the walk of Digit. No condition.
-/
import Derived.Test.YtoenecgjiejljaaDoorSlb
import Derived.Test.YtoenecgjiejljaaDoorProg
import Derived.WalkKit
import Derived.WalkSpells
import Derived.Handy
import Derived.Lib.Hide
namespace Go.Proofs.YtoenecgjiejljaaDoor
open Go.RowKit
set_option linter.unusedVariables false

theorem dig_str (n : Nat) (h : n < 10) : (⟨#[48, 49, 50, 51, 52, 53, 54, 55, 56, 57]⟩ : ByteArray).extract n (n + 1) = sL [UInt8.ofNat (48 + n)] := by
  have : ∀ k : Fin 10, bl ((⟨#[48, 49, 50, 51, 52, 53, 54, 55, 56, 57]⟩ : ByteArray).extract k.1 (k.1 + 1)) = [UInt8.ofNat (48 + k.1)] := by decide +kernel
  exact bl_inj (by rw [this ⟨n, h⟩, bl_sL])
def dg1 (n : Nat) : ByteArray := sL [UInt8.ofNat (48 + n)]
theorem Digit_any (n : Nat) (h : n < 10) (w : World) : Calls Tryd.prog 118 #[.int .i64 n] w fun e w' => e = .returned (.string (dg1 n)) ∧ w = w' := by
  have HD := Lib.hid (show _ = dg1 n from dig_str n h)
  have b0 : (0 : Int) ≤ (n : Int) := by omega
  have b1 : (n : Int) ≤ (n : Int) + 1 := by omega
  have b2 : (n : Int) + 1 ≤ 10 := by omega
  have b3 : (0 : Int) ≤ (n : Int) + 1 := by omega
  have q1 : ((n : Int) + 1).toNat = n + 1 := by omega
  go_enter Tryd.func118, Tryd.ntmps118
  go_wp2_with fail
  go_ret
  exact ⟨by rw [← HD.out]; rfl, rfl⟩
end Go.Proofs.YtoenecgjiejljaaDoor
