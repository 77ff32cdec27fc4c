/-
  The game with exchanged owners: what is free in a game is what can be kept to in that one. No program in sight.
-/
import Derived.Test.YtldepjpalhmpnaaLb5
namespace Go.Proofs.Ytldepjpalhmpnaa
open Go.RowKit
set_option linter.unusedVariables false

def xG (G : Gm) : Gm := ⟨G.own.map fun d => 1 - d, G.mv⟩
theorem xG_len (G : Gm) : (xG G).own.length = G.own.length := List.length_map ..
theorem xG_who {G : Gm} {p : Nat} (hp : p < G.own.length) : (xG G).who p = 1 - G.who p := by
  unfold Gm.who xG
  rw [List.getD_eq_getElem?_getD, List.getD_eq_getElem?_getD, List.getElem?_map, List.getElem?_eq_getElem hp]
  rfl
theorem xG_row (G : Gm) (p : Nat) : (xG G).row p = G.row p := rfl
theorem xG_ok {G : Gm} (h : gE G = 0) : gE (xG G) = 0 := by
  have H := gE_zero h
  refine gE_ok ?_ ?_ ?_
  · rw [xG_len]; have := H.pos; have := H.le; omega
  · rw [xG_len]; exact H.len
  · intro p hp
    rw [xG_len] at hp
    have h1 := H.rows p hp
    unfold okRow at h1 ⊢
    rw [xG_who hp, xG_row, xG_len]
    simp only [Bool.and_eq_true, Bool.or_eq_true, decide_eq_true_eq] at h1 ⊢
    refine ⟨?_, h1.2⟩
    rcases h1.1 with h2 | h2
    · exact .inr (by omega)
    · exact .inl (by omega)
theorem xG_fc {G : Gm} (H : Ok G) {S p : Nat} (hp : p < G.own.length) : fcB (xG G) 0 S p = fcB G 1 S p := by
  unfold fcB
  rw [xG_who hp, xG_row]
  rcases H.who hp with hw | hw
  · rw [hw, if_neg (by decide), if_neg (by decide)]
  · rw [hw, if_pos (by decide), if_pos (by decide)]
/-- What is free in a game is the greatest part of the places outside the goal that the ducks can keep to. -/
theorem xG_kept {G : Gm} (H : Ok G) {goal S : Nat} (hg : goal < 2 ^ G.own.length) (hS : S < 2 ^ G.own.length) (hc : ∀ p, p < G.own.length → S.testBit p = !goal.testBit p) : kpN (xG G) S = freeN G goal := by
  have hS2 : S < 2 ^ (xG G).own.length := by rw [xG_len]; exact hS
  have hkl : kpN (xG G) S < 2 ^ G.own.length := by have := kp_lt (G := xG G) hS2; rwa [xG_len] at this
  apply sub_anti
  · intro p hp
    have hn := bit_in hkl hp
    have hT : trB G goal (kpN (xG G) S) = true := by
      rw [trB_iff hkl]
      intro q hq
      have hqn := bit_in hkl hq
      have h1 := kp_in (xG G) S q hq
      rw [hc q hqn, Bool.not_eq_true'] at h1
      have h2 := kp_fix hS2
      rw [← h2] at hq
      have h3 := and_sub_right _ _ q hq
      rw [fcN_iff] at h3
      rw [xG_fc H hqn] at h3
      exact ⟨h1, h3.2⟩
    rw [free_at hn, Bool.not_eq_true']
    exact trap_lv H hkl hT _ p hp
  · have ht := free_trap H hg
    rw [trB_iff (free_lt G goal)] at ht
    refine itr_great (kp_mono (xG G)) ?_ ?_ _
    · intro p hp
      have hn := bit_in (free_lt G goal) hp
      unfold kpF
      rw [Nat.testBit_and, hp, Bool.true_and, fcN_iff, xG_len]
      exact ⟨hn, by rw [xG_fc H hn]; exact (ht p hp).2⟩
    · intro p hp
      have hn := bit_in (free_lt G goal) hp
      rw [hc p hn, (ht p hp).1]
      rfl
/-- The places outside the goal, as the law lists them. -/
def othL (L : List Int) (n : Nat) : List Int := listK (fun j => !decide ((j : Int) ∈ L)) n
theorem oth_zero (L : List Int) : othL L 0 = [] := rfl
theorem oth_yes {L : List Int} {k : Nat} (h : decide ((k : Int) ∈ L) = false) : othL L (k + 1) = othL L k ++ [(k : Int)] := listK_yes (by rw [h]; rfl)
theorem oth_no {L : List Int} {k : Nat} (h : decide ((k : Int) ∈ L) = true) : othL L (k + 1) = othL L k := listK_no (by rw [h]; rfl)
theorem oth_le (L : List Int) (n : Nat) : (othL L n).length ≤ n := listK_le _ _
theorem oth_ask {G : Gm} {L : List Int} (h : askE G L = 0) : askE (xG G) (othL L G.own.length) = 0 := by
  obtain ⟨h1, h2⟩ := askE_zero h
  refine askE_yes (xG_ok h1) ?_
  rw [xG_len]
  exact setL_listK _ _
theorem oth_kept {G : Gm} {L : List Int} (h : askE G L = 0) : kpN (xG G) (gatN (othL L G.own.length)) = freeN G (gatN L) := by
  obtain ⟨h1, h2⟩ := askE_zero h
  have H := gE_zero h1
  have h16 := H.le
  have hs : setL G.own.length (othL L G.own.length) = true := setL_listK _ _
  refine xG_kept H (gat_lt h2 (by omega)) (gat_lt hs (by omega)) fun p hp => ?_
  rw [gat_at hs (by omega), gat_at h2 (by omega)]
  show memB (listK _ _) p = _
  rw [memB_listK _ _ _ hp]
  congr 1
  rw [Bool.eq_iff_iff, decide_eq_true_eq, memB_iff]
end Go.Proofs.Ytldepjpalhmpnaa
