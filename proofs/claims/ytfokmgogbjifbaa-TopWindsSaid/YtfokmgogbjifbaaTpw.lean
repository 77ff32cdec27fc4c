/-
  What the walk of TopWinds calls on the turned list; a box beside an append. No condition.
-/
import Derived.Test.YtfokmgogbjifbaaWb10
import Derived.Test.YtfokmgogbjifbaaLwFewest
namespace Go.Proofs.Ytfokmgogbjifbaa
open Go.RowKit
set_option linter.unusedVariables false

theorem by_same {b : Nat} (h : b < 32) : byN (b : Int) = b := by unfold byN; omega
theorem set_of {x : Nat} (h : x < 4294967296) : setB (x : Int) = true := by simp [setB]; omega
theorem tur_nat {x b : Nat} (hx : x < 4294967296) (hb : b < 32) : turV x b = (rotN x b : Nat) := by
  unfold turV
  rw [if_pos (set_of hx), by_same hb, Int.toNat_natCast]
theorem tTurn {x b : Nat} (hx : x < 4294967296) (hb : b < 32) (w : World) :
    Calls Try.prog 12 #[.int .i64 (x : Int), .int .i64 (b : Int)] w fun e w' => e = .returned (.tuple #[.int .i64 (rotN x b : Nat), .int .i64 0]) ∧ w = w' := by
  have h := Turn_any (x : Int) (b : Int) w
  rw [tur_nat hx hb, setE_zero.2 (set_of hx)] at h
  exact h
/-- A pipe's points, the points of the turned pipe, and the points turned. -/
theorem turn_round {b : Nat} {x y : Int} (hb : b < 32) (h : okA ⟨x, y⟩ = true) : ∃ P R : Nat,
    (∀ w, Calls Try.prog 11 #[.agg #[.int .i64 x, .int .i64 y]] w fun e w' => e = .returned (.tuple #[.int .i64 (P : Int), .int .i64 0]) ∧ Below w.heap.size w w') ∧
    (∀ w, Calls Try.prog 11 #[.agg #[.int .i64 ((x + (b : Int)) % 32), .int .i64 y]] w fun e w' => e = .returned (.tuple #[.int .i64 (R : Int), .int .i64 0]) ∧ Below w.heap.size w w') ∧
    (∀ w, Calls Try.prog 12 #[.int .i64 (P : Int), .int .i64 (b : Int)] w fun e w' => e = .returned (.tuple #[.int .i64 (R : Int), .int .i64 0]) ∧ w = w') := by
  refine ⟨arcN ⟨x, y⟩, rotN (arcN ⟨x, y⟩) b, fun w => ?_, fun w => ?_, fun w => tTurn (arcN_lt _) hb w⟩
  · have hp := Points_any ⟨x, y⟩ w
    have e := arcE_yes h
    rw [show arcV ⟨x, y⟩ = (arcN ⟨x, y⟩ : Int) from if_pos e, e] at hp
    exact hp
  · have ht := turn_ok (b := b) h
    have hp := Points_any (turnA b ⟨x, y⟩) w
    have e := arcE_yes ht
    rw [show arcV (turnA b ⟨x, y⟩) = (arcN (turnA b ⟨x, y⟩) : Int) from if_pos e, e, turn_arcN hb h] at hp
    exact hp
theorem tLee {l : List Pt} {b : Nat} (hE : pipesE l = 0) (hb : b < 32) (A : Option Addr) (c : Nat) (w : World) (h : Rd w w.heap.size A ((turnL b l).flatMap Pt.cells)) :
    Calls Try.prog 6 #[.slice A l.length c] w fun e w' => e = .returned (.tuple #[.int .i64 (rotN (leeN l) b : Nat), .int .i64 0]) ∧ Below w.heap.size w w' := by
  have h10 := (pipesE_zero hE).1
  have hp := Lee_any A c (turnL b l) w h (by rw [turn_len]; omega)
  rw [turn_len, turn_pipes hE, show leeV (turnL b l) = (leeN (turnL b l) : Nat) from if_pos (turn_pipes hE), turn_lee hE hb] at hp
  exact hp
theorem tApart {l : List Pt} {b : Nat} (hE : pipesE l = 0) (hb : b < 32) (A : Option Addr) (c : Nat) (w : World) (h : Rd w w.heap.size A ((turnL b l).flatMap Pt.cells)) :
    Calls Try.prog 8 #[.slice A l.length c] w fun e w' => ∃ A' c', e = .returned (.tuple #[.slice A' (apV l).length c', .int .i64 0]) ∧ Below w.heap.size w w' := by
  have h10 := (pipesE_zero hE).1
  have hp := Apart_any A c (turnL b l) w h (by rw [turn_len]; omega)
  rw [turn_len, turn_pipes hE] at hp
  refine hp.mono ?_
  rintro e w' ⟨A', c', rfl, _, _, hbel⟩
  exact ⟨A', c', by rw [turn_most hE hb], hbel⟩
theorem own_lt {w : World} {base n : Nat} {v : Value} {e : TypeId} {size : Nat} {xs : List Value} (h : w.ownsRow base e size v n xs) : some w.heap.size ≠ v.ownBlock := by
  rcases h.2 with ⟨rfl, _⟩ | ⟨g, cap, cur, rfl, _, hg, _⟩
  · simp [Value.ownBlock]
  · intro he
    have : w.heap.size = g := by simpa [Value.ownBlock] using he
    have := lt_of_block hg
    omega
/-- A block that was made behind the row: it stays through an append to the row. -/
theorem far_block {W W1 W2 : World} {g : Nat} {o : Obj} {vb : Option Nat} (h : W.heap[g]? = some o) (h1 : Below W.heap.size W W1) (hg : W1.grownBy W2 vb) (hne : some g ≠ vb) : W2.heap[g]? = some o := by
  have hlt := (Array.getElem?_eq_some_iff.1 h).1
  rw [hg.block g (Nat.lt_of_lt_of_le hlt h1.size) hne]
  exact (h1.block g hlt).trans h
theorem veer_lim {l : List Int} (h : l.length ≤ 59) : -1000 ≤ veerV l ∧ veerV l ≤ 1000 := by
  unfold veerV
  split
  · have := vK_le l l.length
    omega
  · omega
theorem acr_lim (f t : Int) : -16 ≤ acr f t ∧ acr f t ≤ 16 := by unfold acr; split <;> omega
theorem veer_pts {l : List Int} (h : veerE l = 0) {i : Nat} {d : Int} (hd : l[i]? = some d) : pt d = true := by
  unfold veerE at h
  split at h
  · omega
  · split at h
    · rename_i h2
      exact List.all_eq_true.1 h2 d (List.mem_of_getElem? hd)
    · omega
/-- From the last wind home. -/
theorem tHome {l : List Int} {a z : Int} (h : veerE l = 0) (hl : 0 < l.length) (h0 : l[0]? = some a) (h1 : l[l.length - 1]? = some z) (w : World) :
    Calls Try.prog 4 #[.int .i64 z, .int .i64 a] w fun e w' => e = .returned (.tuple #[.int .i64 (acr z a), .int .i64 0]) ∧ w = w' := by
  have hc := Across_any z a w
  have e1 := veer_pts h h0
  have e2 := veer_pts h h1
  rw [show acrV z a = acr z a from if_pos (by rw [e1, e2]; rfl), show acrE z a = 0 from if_pos (by rw [e1, e2]; rfl)] at hc
  exact hc
theorem tmod_zero {n : Int} (h : n % 32 = 0) : Int.tmod n 32 = 0 := by
  have := Int.tmod_eq_emod (a := n) (b := 32)
  split at this <;> omega
end Go.Proofs.Ytfokmgogbjifbaa
