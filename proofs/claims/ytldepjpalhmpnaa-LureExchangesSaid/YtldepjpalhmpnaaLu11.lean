/-
  Games: the walk of Before of package lure. Conditions: the game and the set can be read.
-/
import Derived.Test.YtldepjpalhmpnaaLu10
import Derived.Deep.RegionHeld3
namespace Go.Proofs.Ytldepjpalhmpnaa
open Go.RowKit
set_option linter.unusedVariables false

theorem ask_one (g : Gv) (A : Option Addr) (c : Nat) (L : List Int) (W : World) (hr : RdG W W.heap.size g) (hf : Gfit g) (hq : Rd W W.heap.size A (ints L)) (hn : L.length ≤ 9223372036854775807) :
    ∃ W2, W.alloc (.cells #[.slice A L.length c] 22) = W2 ∧ Below W.heap.size W W2 ∧
      Calls Try.prog 19 #[g.v, .slice (some ⟨W.heap.size, 0, none⟩) 1 1] W2 fun e w' => e = .returned (.int .i64 (askE g.G L)) ∧ Below W2.heap.size W2 w' := by
  have hb : Below W.heap.size W (W.alloc (.cells #[.slice A L.length c] 22)) := (Below.refl _ _).alloc (Nat.le_refl _) _
  have h1 : Rd (W.alloc (.cells #[.slice A L.length c] 22)) (W.alloc (.cells #[.slice A L.length c] 22)).heap.size (some ⟨W.heap.size, 0, none⟩) [(⟨A, c, L⟩ : Rw).v] := Rd.lit W [.slice A L.length c] 22
  have hR : RdR (W.alloc (.cells #[.slice A L.length c] 22)) (W.alloc (.cells #[.slice A L.length c] 22)).heap.size (some ⟨W.heap.size, 0, none⟩) [⟨A, c, L⟩] :=
    ⟨h1, fun r hr => by
      rw [List.mem_singleton] at hr
      subst hr
      exact hq.up hb⟩
  have h := check_any g (some ⟨W.heap.size, 0, none⟩) 1 [⟨A, c, L⟩] _ (hr.up hb) hf hR (fun r hr => by
    rw [List.mem_singleton] at hr
    subst hr
    exact hn) (by simp)
  rw [show [(⟨A, c, L⟩ : Rw)].map (·.l) = [L] from rfl, chkE_one] at h
  exact ⟨_, rfl, hb, h⟩
/-- The cells of the box of a game. -/
def InBox (w w' : World) (A0 : Option Addr) (c0 n0 : Nat) (A1 : Option Addr) (c1 n1 : Nat) : Prop := w'.cell? ⟨w.heap.size, 0, none⟩ = some (.slice A0 n0 c0) ∧ w'.cell? ⟨w.heap.size, 1, none⟩ = some (.slice A1 n1 c1)
def befL (G : Gm) (L : List Int) : List Int := if askE G L = 0 then lst (fcN G 0 (gatN L)) else []
end Go.Proofs.Ytldepjpalhmpnaa
