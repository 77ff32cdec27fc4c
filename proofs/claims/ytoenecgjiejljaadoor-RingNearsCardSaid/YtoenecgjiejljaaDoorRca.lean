/-
  The least ring that fits a worn one: the walk of First of the reference. Condition: sizes.
-/
import Derived.Test.YtoenecgjiejljaaDoorRc8
import Derived.Test.YtoenecgjiejljaaDoorRc7
import Derived.Deep.RegionWith
namespace Go.Proofs.YtoenecgjiejljaaDoor
open Go.RowKit
set_option linter.unusedVariables false

/-- A store into a row of the call's own. -/
theorem own_put {w : World} {base n c g k : Nat} {e : TypeId} {xs : List Value} (h : w.ownsRow base e 1 (.slice (some ⟨g, 0, none⟩) n c) n xs) (u : Value) :
    (w.setCell ⟨g, k, none⟩ u).ownsRow base e 1 (.slice (some ⟨g, 0, none⟩) n c) n (xs.set k u) ∧ w.frozen? ⟨g, k, none⟩ = false ∧ base ≤ g := by
  rcases h.2 with ⟨hv, _⟩ | ⟨g', cap, cur, hv, hbg, hg, hnc, hcm, hcs, htake⟩
  · cases hv
  · injection hv with h1 h2 h3
    injection h1 with h1
    injection h1 with h1
    subst h1; subst h3
    refine ⟨⟨by rw [List.length_set]; exact h.1, .inr ⟨g, c, cur.setIfInBounds k u, rfl, hbg, blk_set hg k u, hnc, hcm, by simpa using hcs, ?_⟩⟩, blk_free hg k, hbg⟩
    rw [Array.toList_setIfInBounds, List.take_set, htake]
theorem own_some {w : World} {base n c : Nat} {A : Option Addr} {e : TypeId} {xs : List Value} (h : w.ownsRow base e 1 (.slice A n c) n xs) (hn : 0 < n) : ∃ g, A = some ⟨g, 0, none⟩ := by
  rcases h.2 with ⟨hv, h0⟩ | ⟨g', cap, cur, hv, _⟩
  · omega
  · injection hv with h1
    exact ⟨g', h1⟩
/-- What stands at a worn place. -/
def tg (a r : List Int) : Nat := if nW r = 0 then dst a r else 0
theorem tg_lt {a r : List Int} (ha : ∀ x ∈ a, Dig x) (hr : WDig r) (hl : r.length < 6) : tg a r < 10 := by
  unfold tg
  split
  · rename_i h; exact (dst_lt ha (nW_dig hr h) hl).1
  · omega
theorem nW_digs {a : List Int} (ha : ∀ x ∈ a, Dig x) : nW a = 0 := by
  unfold nW
  rw [List.countP_eq_zero]
  intro x hx
  have := (ha x hx).1
  simp only [decide_eq_true_eq]
  omega
theorem wdig_of {a : List Int} (ha : ∀ x ∈ a, Dig x) : WDig a := fun x hx => .inr (ha x hx)
theorem tg_iff {a r : List Int} (ha : ∀ x ∈ a, Dig x) (hr : WDig r) (hl : a.length + 1 + r.length = 6) {d : Nat} (hd : d ≤ tg a r) : wyL (a ++ (d : Int) :: r) 0 ≠ 0 ↔ d = tg a r := by
  have h10 := tg_lt ha hr (by omega)
  have hw : WDig (a ++ (d : Int) :: r) := fun x hx => by
    rcases List.mem_append.1 hx with hx | hx
    · exact .inr (ha x hx)
    · rcases List.mem_cons.1 hx with rfl | hx
      · exact .inr (nat_dig (by omega))
      · exact hr x hx
  have hn : nW (a ++ (d : Int) :: r) = nW r := by rw [nW_append, nW_cons, nW_digs ha, if_neg (by omega)]; omega
  have hy := wyl_zero hw (by simp; omega)
  rw [hn] at hy
  unfold tg at hd ⊢
  by_cases h0 : nW r = 0
  · rw [if_pos h0] at hd ⊢
    have hdd := dst_is ha (nW_dig hr h0) (by omega) (d := d) (by have := (dst_lt ha (nW_dig hr h0) (by omega)).1; omega)
    rw [← hdd]
    rcases hy with ⟨_, h1, h2⟩ | ⟨_, h1, h2⟩ | ⟨h1, _⟩
    · rw [h2]; exact ⟨fun _ => h1, fun _ => by omega⟩
    · rw [h2]; exact ⟨fun h => absurd rfl h, fun h => absurd h h1⟩
    · exact absurd h0 h1
  · rw [if_neg h0] at hd ⊢
    rcases hy with ⟨h1, _⟩ | ⟨h1, _⟩ | ⟨_, h2⟩
    · exact absurd h1 h0
    · exact absurd h1 h0
    · rw [h2]
      exact ⟨fun _ => by omega, fun _ => Nat.pos_iff_ne_zero.1 (Nat.pow_pos (by omega))⟩
theorem gr_worn (a r : List Int) : gr a ((-1) :: r) = gr (a ++ [(tg a r : Int)]) r := by
  rw [gr, if_pos (by decide)]
  unfold tg
  split <;> rfl
theorem gr_digit {x : Int} (hx : ¬ x < 0) (a r : List Int) : gr a (x :: r) = gr (a ++ [x]) r := by rw [gr, if_neg hx]
theorem set_mid (a r : List Int) (x d : Int) : (a ++ x :: r).set a.length d = a ++ d :: r := by
  rw [List.set_append_right _ _ (Nat.le_refl _), Nat.sub_self, List.set_cons_zero]
theorem hdF_next {l : List UInt8} {k : Nat} {c : UInt8} (h : l[k]? = some c) : sL (hdF (l.take (k + 1))) = sL (hdF (l.take k)) ++ sL [if c = 63 then 65 else c] := by
  rw [sL_app, List.take_add_one, h]
  unfold hdF
  simp only [Option.toList_some, List.map_append, List.map_cons, List.map_nil]
theorem ints_set (l : List Int) (k : Nat) (d : Int) : (ints l).set k (.int .i64 d) = ints (l.set k d) := by unfold ints; rw [List.map_set]
theorem gr6_len : ∀ (r a : List Int), (gr a r).length = a.length + r.length
  | [], a => by simp [gr]
  | x :: r, a => by
    unfold gr
    split <;> rw [gr6_len r] <;> simp <;> omega
end Go.Proofs.YtoenecgjiejljaaDoor
