/-
  The walk of the law WindPipes: it returns true. Conditions: 'Tabs', and that the slice can be read.
-/
import Derived.Test.YtfokmgogbjifbaaWi11
import Derived.Test.YtfokmgogbjifbaaLwArcs
namespace Go.Proofs.Ytfokmgogbjifbaa
open Go.RowKit
set_option linter.unusedVariables false

theorem Many_any (A : Option Addr) (c n : Nat) (b : Bool) (w : World) (hn : n ≤ 9223372036854775807) (h : decide (60 < n) = b) :
    Calls Try.prog 5 #[.slice A n c] w fun e w' => e = .returned (.bool b) ∧ w = w' := by
  have h2 : decide ((60 : Int) < (n : Int)) = b := by
    rw [← h, decide_eq_decide]
    omega
  clear h
  go_enter Try.func5, Try.ntmps5
  go_wp2
  go_ret
  exact ⟨rfl, rfl⟩
theorem lee_shift (l : List Pt) {q : Nat} (hq : q < 32) : (bits .and .i64 (((leeN l : Nat) : Int) / 2 ^ q) 1 == 1) = leeB l q := by
  have hl : leeN l < 4294967296 := bit32 _
  have h := bit_div (n := leeN l) (j := q)
  have ht : (leeN l).testBit q = leeB l q := bitK_test _ _ _ hq
  have e : ((leeN l : Nat) : Int) / 2 ^ q = ((leeN l / 2 ^ q : Nat) : Int) := by simp
  have hd : leeN l / 2 ^ q ≤ leeN l := Nat.div_le_self _ _
  rw [e, show (1 : Int) = ((1 : Nat) : Int) from rfl, i64_and_nat _ _ (by omega) (by decide), Nat.and_one_is_mod, h, ht]
  cases leeB l q <;> rfl
end Go.Proofs.Ytfokmgogbjifbaa
