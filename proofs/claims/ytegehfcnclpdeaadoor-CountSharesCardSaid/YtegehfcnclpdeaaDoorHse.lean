/-
  Too many histories: the walk of Many; the two laws' sums. Condition: the list can be read.
-/
import Derived.Test.YtegehfcnclpdeaaDoorHsd
import Derived.Test.YtegehfcnclpdeaaDoorCc6
import Derived.Test.YtegehfcnclpdeaaDoorCc9
namespace Go.Proofs.YtegehfcnclpdeaaDoor
open Go.RowKit
set_option linter.unusedVariables false

theorem Rd.upH {w w' : World} {A : Option Addr} {xs : List Value} (h : Rd w w.heap.size A xs) (hb : Below w.heap.size w w') : Rd w' w'.heap.size A xs := (h.below hb (Nat.le_refl _)).more hb.size
def BoolRet (e : Ending) : Prop := ∃ q, e = .returned (.bool q)
set_option maxRecDepth 4000 in
set_option maxHeartbeats 1000000 in
theorem Many_any (A : Option Addr) (cp : Nat) (C : List ByteArray) (hs : Sz C) (hl : C.length ≤ 9223372036854775807) (w : World) (hr : Rd w w.heap.size A (txts C)) :
    Calls Tryd.prog 4 #[.slice A C.length cp] w fun e w' => BoolRet e ∧ w = w' := by
  have HT := Lib.hid (fun k hk => hr.txt k hk)
  have HS := Lib.hid hs
  clear hr hs
  obtain ⟨m, hm⟩ : ∃ m, C.length = m := ⟨_, rfl⟩
  rw [hm] at HT hl ⊢
  clear hm
  have h2 : decide ((200 : Int) < (m : Int)) = decide (200 < m) := decide_eq_decide.2 (by omega)
  go_enter Tryd.func4, Tryd.ntmps4
  go_wp2_with fail
  go_loop [3] (fun i => ∃ k : Nat, k ≤ m ∧ i = .int .i64 k) (fun i => m - (intOf i).toNat)
  case atStart => exact ⟨0, by omega, rfl⟩
  case round =>
    obtain ⟨k, hk, rfl⟩ := hrel
    by_cases hlt : k < m
    · obtain ⟨b, off, z, hA, _, hz, c1⟩ := HT.out k hlt
      have hzs := HS.out z (List.mem_of_getElem? hz.out)
      have b0 : (0 : Int) ≤ (k : Int) := by omega
      have b1 : (k : Int) < (m : Int) := by omega
      have e1 : decide ((k : Int) < (m : Int)) = true := by simp; omega
      have e1' : decide (k < m) = true := by simp; omega
      subst hA
      generalize hsz : z.size = n at *
      clear hz
      by_cases h1 : 100 < n
      · have e2 : decide ((100 : Int) < (n : Int)) = true := by simp; omega
        have e2' : decide (100 < n) = true := by simp; omega
        clear h1
        go_wp2_with fail
        go_ret
        exact ⟨⟨_, rfl⟩, rfl⟩
      · have e2 : decide ((100 : Int) < (n : Int)) = false := by simp; omega
        have e2' : decide (100 < n) = false := by simp; omega
        clear h1
        go_wp2_with fail
        go_round
        case rel => exact ⟨k + 1, by omega, by go_num⟩
        case measure => simp [intOf]; omega
    · have e1 : decide ((k : Int) < (m : Int)) = false := by simp; omega
      have e1' : decide (k < m) = false := by simp; omega
      clear hlt
      go_wp2_with fail
      go_ret
      exact ⟨⟨_, rfl⟩, rfl⟩
theorem sm_le {F : Nat → Nat} {c n : Nat} (h : ∀ i, i < n → F i ≤ c) : ∀ k, k ≤ n → sm F k ≤ c * k
  | 0, _ => Nat.zero_le _
  | k + 1, hk => by
    have h1 := sm_le h k (by omega)
    have h2 := h k (by omega)
    show sm F k + F k ≤ c * (k + 1)
    rw [Nat.mul_succ]
    omega
theorem lives_rows {C : List ByteArray} : ∃ F n G m, dayL avB C = rowZ F n ∧ livL C = rowZ G m ∧ sm F n = sm G m ∧ n ≤ 8 ∧ m ≤ 60 ∧ (∀ i, i < n → F i ≤ 60) ∧ (∀ i, i < m → G i ≤ 8) := by
  by_cases hv : vhE C = 0
  · have hb := vh_bird hv
    refine ⟨_, _, _, _, if_pos hv, if_pos hv, alive_sum hv _ (Nat.le_refl _), D0_le hv, hb.1, fun i _ => Nat.le_trans (cnt_le _ _ _) hb.1, fun i hi => ?_⟩
    have hq : C[i]? = some C[i] := List.getElem?_eq_getElem hi
    have hm := hb.2 C[i] (List.getElem_mem hi)
    obtain ⟨f, l, ef, el, hfl, hls, _, _, _, _, en⟩ := lv_one hm.2.2.2
    have e1 : lvAt C i = l - f + 1 := by
      unfold lvAt
      rw [List.getD_eq_getElem?_getD, hq]
      exact en
    rw [e1]
    have := hm.1
    omega
  · exact ⟨fun _ => 0, 0, fun _ => 0, 0, if_neg hv, if_neg hv, rfl, by omega, by omega, fun _ h => by omega, fun _ h => by omega⟩
theorem row_at {F : Nat → Nat} {n k : Nat} (h : k < n) : (rowZ F n)[k]? = some (F k : Int) := by simp [rowZ, h]
end Go.Proofs.YtegehfcnclpdeaaDoor
