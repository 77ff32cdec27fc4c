/-
  Both sides' numbers of days and birds agree; what is ringed before a day is what was new before; days alive add up the same. Nothing of the program.
-/
import Derived.Test.YtegehfcnclpdeabDoorHsc
namespace Go.Proofs.YtegehfcnclpdeabDoor
open Go.RowKit
set_option linter.unusedVariables false

theorem inB_here (s : ByteArray) (d : Nat) : inB s d (d + 1) = hitB s d := by
  cases hc : hitB s d
  · cases hi : inB s d (d + 1)
    · rfl
    · obtain ⟨k, h1, h2, hh⟩ := inB_iff.1 hi
      have : k = d := by omega
      subst this
      rw [hc] at hh; cases hh
  · exact inB_iff.2 ⟨d, Nat.le_refl _, by omega, hc⟩
theorem inB_before {s : ByteArray} {f d : Nat} (hf : hitB s f = true) (h0 : ∀ d, d < f → hitB s d = false) : inB s 0 d = decide (f < d) := by
  cases d with
  | zero => rw [inB_empty (Nat.le_refl 0)]; simp
  | succ k =>
    rw [inB_up hf h0]
    exact decide_eq_decide.2 (by omega)
theorem mk_same {s : ByteArray} (h : oneB s = true) (d : Nat) : mkB s d = mkR s d := by
  obtain ⟨f, l, ef, el, _, _, hf, _, h0, _⟩ := lv_one h
  unfold mkB mkR
  rw [inB_before hf h0, ef]
  exact decide_eq_decide.2 (by omega)
theorem cg_same (s : ByteArray) (d : Nat) : hitB s d = cgR s d := (inB_here s d).symm
theorem ag_same {s : ByteArray} (h : oneB s = true) (d : Nat) : agB s d = agR s d := by
  unfold agB agR
  rw [mk_same h, inB_here, Bool.and_comm]
  rfl
theorem nw_same {s : ByteArray} (h : oneB s = true) (d : Nat) : nwB s d = nwR s d := by
  obtain ⟨f, l, ef, el, _, _, hf, _, h0, _⟩ := lv_one h
  unfold nwB nwR
  rw [inB_before hf h0, inB_here, ef]
  rcases Nat.lt_trichotomy d f with h1 | h1 | h1
  · rw [h0 d h1]
    have : ((f : Int) == (d : Int)) = false := by simp; omega
    rw [this]; rfl
  · subst h1
    rw [hf]
    simp
  · have e : ((f : Int) == (d : Int)) = false := by simp; omega
    rw [e, decide_eq_true h1]
    simp
theorem av_same {s : ByteArray} (h : oneB s = true) (d : Nat) : avB s d = avR s.size s d := by
  obtain ⟨f, l, ef, el, _, hls, hf, hl, h0, h1, _⟩ := lv_one h
  unfold avB avR
  rw [inB_up hf h0, inB_down hl hls h1, ef, el]
  congr 1
  · exact decide_eq_decide.2 (by omega)
  · exact decide_eq_decide.2 (by omega)
theorem cnt_congr {P Q : ByteArray → Bool} {C : List ByteArray} (h : ∀ s ∈ C, P s = Q s) (k : Nat) : cnt P C k = cnt Q C k := by
  unfold cnt
  refine List.countP_congr fun s hs => ?_
  rw [h s (List.mem_of_mem_take hs)]
theorem cnt_add {P Q R : ByteArray → Bool} {C : List ByteArray} (h : ∀ s ∈ C, one01 (P s) = one01 (Q s) + one01 (R s)) : ∀ k, k ≤ C.length → cnt P C k = cnt Q C k + cnt R C k
  | 0, _ => rfl
  | k + 1, hk => by
    have hq : C[k]? = some C[k] := List.getElem?_eq_getElem (by omega)
    rw [cnt_next hq, cnt_next hq, cnt_next hq, cnt_add h k (by omega), h _ (List.getElem_mem (by omega))]
    omega
theorem first_same (C : List ByteArray) : dayL nwB C = dayL nwR C := by
  unfold dayL
  by_cases hv : vhE C = 0
  · rw [if_pos hv, if_pos hv]
    exact rowZ_congr fun d _ => cnt_congr (fun s hs => nw_same ((vh_bird hv).2 s hs).2.2.2 d) _
  · rw [if_neg hv, if_neg hv]
theorem alive_same (C : List ByteArray) : dayL avB C = dayL (avR (D0 C)) C := by
  unfold dayL
  by_cases hv : vhE C = 0
  · rw [if_pos hv, if_pos hv]
    refine rowZ_congr fun d _ => cnt_congr (fun s hs => ?_) _
    rw [av_same ((vh_bird hv).2 s hs).2.2.2 d, ((vh_bird hv).2 s hs).2.1]
  · rw [if_neg hv, if_neg hv]
theorem cat_same {C : List ByteArray} (hv : vhE C = 0) (p : Nat) : catG C p = catR C p := by
  have ho := fun s hs => ((vh_bird hv).2 s hs).2.2.2
  unfold catG catR
  rw [cnt_congr (fun s hs => mk_same (ho s hs) (p / 3)), cnt_congr (P := (hitB · (p / 3))) (fun s hs => cg_same s (p / 3)), cnt_congr (fun s hs => ag_same (ho s hs) (p / 3))]
theorem cats_same (C : List ByteArray) : catC C = catD C := by
  unfold catC catD
  by_cases hv : vhE C = 0
  · rw [if_pos hv, if_pos hv, rowZ_congr (f := catG C) (g := catR C) fun p _ => cat_same hv p]
  · rw [if_neg hv, if_neg hv]
def sm (F : Nat → Nat) : Nat → Nat
  | 0 => 0
  | n + 1 => sm F n + F n
theorem sm_add (F G : Nat → Nat) : ∀ n, sm (fun i => F i + G i) n = sm F n + sm G n
  | 0 => rfl
  | n + 1 => by
    show sm _ n + (F n + G n) = (sm F n + F n) + (sm G n + G n)
    rw [sm_add F G n]
    omega
theorem sm_congr {F G : Nat → Nat} : ∀ {n}, (∀ i, i < n → F i = G i) → sm F n = sm G n
  | 0, _ => rfl
  | n + 1, h => by
    show sm F n + F n = sm G n + G n
    rw [sm_congr fun i hi => h i (by omega), h n (by omega)]
/-- What is ringed before a day is what was new on the days before. -/
theorem marked_sum {C : List ByteArray} (hv : vhE C = 0) : ∀ d, cnt (mkB · d) C C.length = sm (fun i => cnt (nwB · i) C C.length) d
  | 0 => by
    show _ = 0
    have h : ∀ s ∈ C, mkB s 0 = (fun _ => false) s := fun s hs => by
      rw [mk_same ((vh_bird hv).2 s hs).2.2.2]
      exact inB_empty (Nat.le_refl 0)
    rw [cnt_congr h]
    simp [cnt]
  | d + 1 => by
    show _ = sm _ d + cnt (nwB · d) C C.length
    rw [← marked_sum hv d]
    refine cnt_add (fun s hs => ?_) _ (Nat.le_refl _)
    unfold mkB nwB one01
    obtain ⟨f, l, ef, _⟩ := lv_one ((vh_bird hv).2 s hs).2.2.2
    rw [ef]
    rcases Nat.lt_trichotomy f d with h1 | h1 | h1
    · rw [if_pos (by simp; omega), if_pos (by simp; omega), if_neg (by simp; omega)]
    · rw [if_pos (by simp; omega), if_neg (by simp; omega), if_pos (by simp; omega)]
    · rw [if_neg (by simp; omega), if_neg (by simp; omega), if_neg (by simp; omega)]
theorem sm_between (f l : Nat) (hfl : f ≤ l) : ∀ n, sm (fun d => one01 (decide ((f : Int) ≤ (d : Int)) && decide ((d : Int) ≤ (l : Int)))) n = if n ≤ f then 0 else if n ≤ l then n - f else l - f + 1
  | 0 => rfl
  | n + 1 => by
    show sm _ n + one01 (decide ((f : Int) ≤ (n : Int)) && decide ((n : Int) ≤ (l : Int))) = _
    rw [sm_between f l hfl n]
    unfold one01
    by_cases h1 : f ≤ n
    · by_cases h2 : n ≤ l
      · have e : (decide ((f : Int) ≤ (n : Int)) && decide ((n : Int) ≤ (l : Int))) = true := by simp; omega
        rw [if_pos e]
        repeat' split
        all_goals omega
      · have e : (decide ((f : Int) ≤ (n : Int)) && decide ((n : Int) ≤ (l : Int))) = false := by simp; omega
        rw [e]
        repeat' split
        all_goals first | omega | (exfalso; simp at *; omega) | simp_all
    · have e : (decide ((f : Int) ≤ (n : Int)) && decide ((n : Int) ≤ (l : Int))) = false := by simp; omega
      rw [e]
      repeat' split
      all_goals first | omega | (exfalso; simp at *; omega) | simp_all
theorem alive_sum {C : List ByteArray} (hv : vhE C = 0) : ∀ k, k ≤ C.length → sm (fun d => cnt (avB · d) C k) (D0 C) = sm (lvAt C) k
  | 0, _ => by
    have : ∀ n, sm (fun d => cnt (avB · d) C 0) n = 0 := fun n => by
      induction n with
      | zero => rfl
      | succ n ih => show _ + cnt (avB · n) C 0 = 0; rw [ih]; rfl
    exact this _
  | k + 1, hk => by
    have hq : C[k]? = some C[k] := List.getElem?_eq_getElem (by omega)
    show _ = sm (lvAt C) k + lvAt C k
    rw [← alive_sum hv k (by omega), sm_congr (G := fun d => cnt (avB · d) C k + one01 (avB C[k] d)) fun d _ => cnt_next hq, sm_add]
    congr 1
    have hm := (vh_bird hv).2 C[k] (List.getElem_mem (by omega))
    obtain ⟨f, l, ef, el, hfl, hls, _, _, _, _, en⟩ := lv_one hm.2.2.2
    have e1 : lvAt C k = l - f + 1 := by
      unfold lvAt
      rw [List.getD_eq_getElem?_getD, hq]
      exact en
    rw [e1, sm_congr (G := fun d => one01 (decide ((f : Int) ≤ (d : Int)) && decide ((d : Int) ≤ (l : Int)))) fun d _ => by unfold avB; rw [ef, el], sm_between f l hfl, if_neg (by omega), if_neg (by omega)]
end Go.Proofs.YtegehfcnclpdeabDoor
