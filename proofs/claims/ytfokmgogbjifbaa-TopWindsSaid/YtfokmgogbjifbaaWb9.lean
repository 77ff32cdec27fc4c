/-
  Everything turns with the compass: pipes, their winds, the lee, the most winds that are apart. No walk.
-/
import Derived.Test.YtfokmgogbjifbaaWb7
namespace Go.Proofs.Ytfokmgogbjifbaa
open Go.RowKit
set_option linter.unusedVariables false

/-- The place that comes to j when the compass turns by b. -/
def bk (b j : Nat) : Nat := (j + 32 - b) % 32
theorem bk_lt (b j : Nat) : bk b j < 32 := Nat.mod_lt _ (by decide)
theorem bk_inj {b p q : Nat} (hb : b < 32) (hp : p < 32) (hq : q < 32) (h : bk b p = bk b q) : p = q := by unfold bk at h; omega
theorem bk_fw {b j : Nat} (hb : b < 32) (hj : j < 32) : bk b ((j + b) % 32) = j := by unfold bk; omega
def turnA (b : Nat) (a : Pt) : Pt := ⟨(a.x + (b : Int)) % 32, a.y⟩
theorem turn_ok {b : Nat} {a : Pt} (h : okA a = true) : okA (turnA b a) = true := by
  unfold okA at h ⊢
  rw [Bool.and_eq_true] at h ⊢
  refine ⟨?_, h.2⟩
  rw [pt_iff]
  unfold turnA
  simp only
  omega
theorem turn_has {b j : Nat} {a : Pt} (hb : b < 32) (hj : j < 32) (h : okA a = true) : hasN (turnA b a) j = hasN a (bk b j) := by
  unfold okA at h
  rw [Bool.and_eq_true, pt_iff] at h
  obtain ⟨⟨h0, h1⟩, _⟩ := h
  obtain ⟨x, y⟩ := a
  simp only at h0 h1
  obtain ⟨f, rfl⟩ := Int.eq_ofNat_of_zero_le h0
  unfold hasN turnA inArc bk
  simp only [Int.toNat_natCast]
  have e : (((f : Int) + (b : Int)) % 32).toNat = (f + b) % 32 := by omega
  rw [e]
  congr 2
  omega
def turnL (b : Nat) (l : List Pt) : List Pt := l.map (turnA b)
theorem turn_len (b : Nat) (l : List Pt) : (turnL b l).length = l.length := by simp [turnL]
theorem turn_pipes {b : Nat} {l : List Pt} (h : pipesE l = 0) : pipesE (turnL b l) = 0 := by
  obtain ⟨h10, hok⟩ := pipesE_zero h
  refine pipesE_ok (by rw [turn_len]; omega) fun j a _ hx => ?_
  unfold turnL at hx
  rw [List.getElem?_map] at hx
  cases hq : l[j]? with
  | none => rw [hq] at hx; cases hx
  | some d =>
    rw [hq] at hx
    injection hx with hx
    rw [← hx]
    exact turn_ok (hok d (List.mem_of_getElem? hq))
theorem turn_work {b p : Nat} {l : List Pt} (h : pipesE l = 0) (hb : b < 32) (hp : p < 32) (i : Nat) : workB (turnL b l) p i = workB l (bk b p) i := by
  obtain ⟨_, hok⟩ := pipesE_zero h
  cases hq : l[i]? with
  | none =>
    unfold workB turnL
    rw [List.getElem?_map, hq]
    rfl
  | some d =>
    have h2 : (turnL b l)[i]? = some (turnA b d) := by unfold turnL; rw [List.getElem?_map, hq]; rfl
    rw [workB_at h2, workB_at hq, turn_has hb hp (hok d (List.mem_of_getElem? hq))]
theorem turn_workN {b p : Nat} {l : List Pt} (h : pipesE l = 0) (hb : b < 32) (hp : p < 32) : workN (turnL b l) p = workN l (bk b p) := by
  unfold workN
  rw [turn_len]
  exact bitK_congr fun i _ => turn_work h hb hp i
theorem turn_arcN {b : Nat} {a : Pt} (hb : b < 32) (h : okA a = true) : arcN (turnA b a) = rotN (arcN a) b := by
  refine ext32 (arcN_lt _) (rot_lt (arcN_lt a)) fun j hj => ?_
  have e := bk_lt b j
  rw [rot_test (arcN_lt a) hb hj, arcN_is, arcN_is, bitK_test _ _ _ hj, turn_has hb hj h]
  exact (bitK_test (hasN a) 32 _ e).symm
theorem turn_lee {b : Nat} {l : List Pt} (h : pipesE l = 0) (hb : b < 32) : leeN (turnL b l) = rotN (leeN l) b := by
  refine ext32 (bit32 _) (rot_lt (bit32 _)) fun j hj => ?_
  have e := bk_lt b j
  rw [rot_test (show leeN l < 4294967296 from bit32 _) hb hj]
  refine (bitK_test (leeB (turnL b l)) 32 _ hj).trans (Eq.trans ?_ (bitK_test (leeB l) 32 _ e).symm)
  unfold leeB covB covK
  rw [turn_len]
  congr 2
  exact funext fun i => by rw [turn_work h hb hj]
theorem cnt_turn {b : Nat} (hb : b < 32) (g : Nat → Bool) : cntK (fun j => g (bk b j)) 32 = cntK g 32 := by
  have h1 := cntK_add (fun j => g (bk b j)) b (32 - b)
  have h2 := cntK_add g (32 - b) b
  rw [show b + (32 - b) = 32 by omega] at h1
  rw [show 32 - b + b = 32 by omega] at h2
  have h3 : cntK (fun j => g (bk b j)) b = cntK (fun j => g (32 - b + j)) b := cntK_congr fun j hj => by
    have : bk b j = 32 - b + j := by unfold bk; omega
    rw [this]
  have h4 : cntK (fun j => g (bk b (b + j))) (32 - b) = cntK g (32 - b) := cntK_congr fun j hj => by
    have : bk b (b + j) = j := by unfold bk; omega
    rw [this]
  omega
theorem good_turn {f g : Nat → Nat} {P x b : Nat} (hb : b < 32) (hg : ∀ p, p < 32 → g p = f (bk b p)) (hx : Good f P x) : Good g P (bitK (fun j => x.testBit (bk b j)) 32) ∧ cnt (bitK (fun j => x.testBit (bk b j)) 32) = cnt x := by
  obtain ⟨x1, x2, x3⟩ := hx
  have ht : ∀ j, j < 32 → (bitK (fun j => x.testBit (bk b j)) 32).testBit j = x.testBit (bk b j) := fun j hj => bitK_test _ _ _ hj
  refine ⟨⟨bit32 _, ?_, ?_⟩, ?_⟩
  · intro p hp hpt
    rw [ht p hp] at hpt
    rw [hg p hp]
    exact x2 _ (bk_lt _ _) hpt
  · intro p q hp hq hne hpt hqt
    rw [ht p hp] at hpt
    rw [ht q hq] at hqt
    rw [hg p hp, hg q hq]
    exact x3 _ _ (bk_lt _ _) (bk_lt _ _) (fun e => hne (bk_inj hb hp hq e)) hpt hqt
  · unfold cnt
    rw [cntK_congr (g := fun j => x.testBit (bk b j)) ht]
    exact cnt_turn hb x.testBit
/-- As many winds are apart when the pipes turn. -/
theorem turn_most {b : Nat} {l : List Pt} (h : pipesE l = 0) (hb : b < 32) : (apV (turnL b l)).length = (apV l).length := by
  have h2 := turn_pipes (b := b) h
  obtain ⟨h10, _⟩ := pipesE_zero h
  have h10' : (turnL b l).length ≤ 10 := by rw [turn_len]; exact h10
  have e1 : (apV l).length = cnt (apM l) := by rw [show apV l = listB (apM l).testBit from if_pos h]; exact (apV_good h10).2.2
  have e2 : (apV (turnL b l)).length = cnt (apM (turnL b l)) := by rw [show apV (turnL b l) = listB (apM (turnL b l)).testBit from if_pos h2]; exact (apV_good h10').2.2
  obtain ⟨g1, m1⟩ := apM_most h10
  obtain ⟨g2, m2⟩ := apM_most h10'
  rw [turn_len] at g2 m2
  rw [e1, e2]
  refine Nat.le_antisymm ?_ ?_
  · by_cases hb0 : b = 0
    · obtain ⟨k1, k2⟩ := good_turn (g := workN l) (b := 0) (by omega) (fun p hp => by
        rw [turn_workN h hb (bk_lt _ _), hb0]
        congr 1
        unfold bk
        omega) g2
      have := m1 _ k1
      omega
    · obtain ⟨k1, k2⟩ := good_turn (g := workN l) (b := 32 - b) (by omega) (fun p hp => by
        rw [turn_workN h hb (bk_lt _ _)]
        congr 1
        unfold bk
        omega) g2
      have := m1 _ k1
      omega
  · obtain ⟨k1, k2⟩ := good_turn (g := workN (turnL b l)) hb (fun p hp => turn_workN h hb hp) g1
    have := m2 _ k1
    omega
end Go.Proofs.Ytfokmgogbjifbaa
