/-
  WhistleDecodes: a message is heard, in a safe code as itself alone; the walk. Condition: the code and the message can be read.
-/
import Derived.Test.YtjongjndoaojnaaDc5
import Derived.Test.YtjongjndoaojnaaLwSounds
import Derived.Test.YtjongjndoaojnaaKw1
import Derived.Test.YtjongjndoaojnaaLv4
namespace Go.Proofs.Ytjongjndoaojnaa
open Go.RowKit
set_option linter.unusedVariables false

theorem map_sg_inj {C : List ByteArray} (hV : Vd C) : ∀ {a b : List Int}, idxB C a = true → idxB C b = true → a.map (sgAt C) = b.map (sgAt C) → a = b
  | [], [], _, _, _ => rfl
  | [], y :: b, _, _, h => by cases h
  | x :: a, [], _, _, h => by cases h
  | x :: a, y :: b, ha, hb, h => by
    rw [List.map_cons, List.map_cons] at h
    injection h with h1 h2
    rw [show x :: a = [x] ++ a from rfl, idxB_append, Bool.and_eq_true] at ha
    rw [show y :: b = [y] ++ b from rfl, idxB_append, Bool.and_eq_true] at hb
    have hx : 0 ≤ x ∧ x < C.length := by simpa [idxB] using ha.1
    have hy : 0 ≤ y ∧ y < C.length := by simpa [idxB] using hb.1
    have kx : x.toNat < C.length := by omega
    have ky : y.toNat < C.length := by omega
    unfold sgAt at h1
    rw [List.getD_eq_getElem?_getD, List.getD_eq_getElem?_getD, List.getElem?_eq_getElem kx, List.getElem?_eq_getElem ky] at h1
    have h3 := (List.getElem_inj hV.nd).1 (bl_inj h1)
    have h4 : x = y := by omega
    rw [h4, map_sg_inj hV ha.2 hb.2 h2]
theorem msg_of {C : List ByteArray} {a : List Int} (ha : idxB C a = true) : Msg (Cl C) (a.map (sgAt C)) := by
  intro x hx
  obtain ⟨i, hi, rfl⟩ := List.mem_map.1 hx
  have hx := List.all_eq_true.1 (show a.all (okI C.length) = true from ha) i hi
  unfold okI at hx
  rw [Bool.and_eq_true, decide_eq_true_eq, decide_eq_true_eq] at hx
  have hk : i.toNat < C.length := by omega
  unfold sgAt
  rw [List.getD_eq_getElem?_getD, List.getElem?_eq_getElem hk]
  exact List.mem_map_of_mem (List.getElem_mem hk)
theorem snd_dc {C : List ByteArray} (hC : ∀ s ∈ C, 1 ≤ s.size) : ∀ (n : Nat) (u : List UInt8), u.length ≤ n → ways C u ≠ 0 → sndL C (dcI C u) = u ∧ idxB C (dcI C u) = true := by
  intro n
  induction n with
  | zero =>
    intro u h _
    have hu : u = [] := List.eq_nil_of_length_eq_zero (by omega)
    subst hu
    exact ⟨rfl, rfl⟩
  | succ n ih =>
    intro u h hw
    by_cases hu : u = []
    · subst hu
      exact ⟨rfl, rfl⟩
    · obtain ⟨i, hi⟩ := fdx_of_ways hC hu hw
      obtain ⟨s, hs, hf, _⟩ := fdx_fit hi
      obtain ⟨hp, hw2⟩ := fit_iff.1 hf
      have h1 := hC s (List.mem_of_getElem? hs)
      have h4 := List.length_pos_iff.2 hu
      obtain ⟨i1, i2⟩ := ih (u.drop s.size) (by rw [List.length_drop]; omega) hw2
      rw [dcI_cons hC hi hs]
      have e : ((i : Int) :: dcI C (u.drop s.size)) = [(i : Int)] ++ dcI C (u.drop s.size) := rfl
      rw [e, sndL_append, sndL_one, sgAt_of hs, i1, idxB_append, i2, idxB_one (List.getElem?_eq_some_iff.1 hs).1]
      refine ⟨?_, rfl⟩
      have := pre_drop hp
      rw [bl_len] at this
      exact this.symm
theorem idx_cons {C : List ByteArray} {i : Int} {l : List Int} (h : idxB C (i :: l) = true) : ∃ (k : Nat) (s : ByteArray), i = (k : Int) ∧ C[k]? = some s ∧ idxB C l = true := by
  rw [show i :: l = [i] ++ l from rfl, idxB_append, Bool.and_eq_true] at h
  have hx : 0 ≤ i ∧ i < C.length := by simpa [idxB] using h.1
  have hk : i.toNat < C.length := by omega
  exact ⟨i.toNat, C[i.toNat], by omega, List.getElem?_eq_getElem hk, h.2⟩
theorem snd_cons {C : List ByteArray} {k : Nat} {s : ByteArray} (hs : C[k]? = some s) (l : List Int) : sndL C ((k : Int) :: l) = bl s ++ sndL C l := by
  rw [show (k : Int) :: l = [(k : Int)] ++ l from rfl, sndL_append, sndL_one, sgAt_of hs]
theorem sndL_ne {C : List ByteArray} (hC : ∀ s ∈ C, 1 ≤ s.size) {k : Nat} {s : ByteArray} (hs : C[k]? = some s) (l : List Int) : sndL C ((k : Int) :: l) ≠ [] := by
  intro e
  have := congrArg List.length e
  rw [snd_cons hs, List.length_append, bl_len] at this
  have h1 := hC s (List.mem_of_getElem? hs)
  rw [List.length_nil] at this
  omega
theorem snd_fit {C : List ByteArray} {k : Nat} {s : ByteArray} (hs : C[k]? = some s) (l : List Int) : bl s <+: sndL C ((k : Int) :: l) ∧ (sndL C ((k : Int) :: l)).drop s.size = sndL C l := by
  rw [snd_cons hs]
  refine ⟨List.prefix_append _ _, ?_⟩
  rw [← bl_len, List.drop_left]
theorem ways_snd {C : List ByteArray} (hC : ∀ s ∈ C, 1 ≤ s.size) : ∀ l : List Int, idxB C l = true → ways C (sndL C l) ≠ 0
  | [], _ => by show ways C [] ≠ 0; rw [ways_nil]; exact Nat.one_ne_zero
  | i :: l, h => by
    obtain ⟨k, s, rfl, hs, hl⟩ := idx_cons h
    obtain ⟨h1, h2⟩ := snd_fit hs l
    refine (ways_some hC (sndL_ne hC hs l)).2 ⟨s, List.mem_of_getElem? hs, fit_iff.2 ⟨h1, ?_⟩⟩
    rw [h2]
    exact ways_snd hC l hl
theorem uni {C : List ByteArray} (hV : Vd C) (hs : safeC C = true) {a b : List Int} (ha : idxB C a = true) (hb : idxB C b = true) (h : sndL C a = sndL C b) : a = b := by
  unfold safeC at hs
  have hS := @of_decide_eq_true _ (Classical.propDecidable _) hs
  exact map_sg_inj hV ha hb (hS _ _ (msg_of ha) (msg_of hb) h)
theorem sum_one {x : Nat} {s : ByteArray} : ∀ D : List ByteArray, D.Nodup → (D.map fun y => if y = s then x else 0).sum = if inB s D = true then x else 0
  | [], _ => rfl
  | y :: D, hn => by
    obtain ⟨h1, h2⟩ := List.nodup_cons.1 hn
    rw [List.map_cons, List.sum_cons, sum_one D h2]
    by_cases hy : y = s
    · subst hy
      rw [if_pos rfl, if_neg fun h => h1 (inB_iff.1 h), if_pos (inB_iff.2 (List.mem_cons_self ..))]
      rfl
    · rw [if_neg hy, Nat.zero_add]
      by_cases hd : s ∈ D
      · rw [if_pos (inB_iff.2 hd), if_pos (inB_iff.2 (List.mem_cons_of_mem _ hd))]
      · rw [if_neg fun h => hd (inB_iff.1 h), if_neg fun h => by
          rcases List.mem_cons.1 (inB_iff.1 h) with h | h
          · exact hy h.symm
          · exact hd h]
theorem ways_one {C : List ByteArray} (hV : Vd C) (hs : safeC C = true) (hC : ∀ s ∈ C, 1 ≤ s.size) : ∀ l : List Int, idxB C l = true → ways C (sndL C l) = 1
  | [], _ => rfl
  | i :: l, h => by
    have h' := h
    obtain ⟨k, s, rfl, hk, hl⟩ := idx_cons h
    obtain ⟨h1, h2⟩ := snd_fit hk l
    have ih := ways_one hV hs hC l hl
    rw [ways_eq hC (sndL_ne hC hk l)]
    have : (C.map (term C (sndL C ((k : Int) :: l)))).sum = (C.map fun y => if y = s then 1 else 0).sum := sum_congr' fun y hy => by
      by_cases hys : y = s
      · subst hys
        rw [if_pos rfl]
        unfold term
        rw [if_pos h1, h2, ih]
      · rw [if_neg hys]
        apply Classical.byContradiction
        intro hne
        obtain ⟨p1, p2⟩ := fit_iff.1 (fit_term.2 hne)
        obtain ⟨d1, d2⟩ := snd_dc hC _ _ (Nat.le_refl _) p2
        obtain ⟨j, hj⟩ := List.getElem?_of_mem hy
        have hd : idxB C ((j : Int) :: dcI C ((sndL C ((k : Int) :: l)).drop y.size)) = true := by
          rw [show ∀ r : List Int, (j : Int) :: r = [(j : Int)] ++ r from fun _ => rfl, idxB_append, d2, idxB_one (List.getElem?_eq_some_iff.1 hj).1]
          rfl
        have he : sndL C ((j : Int) :: dcI C ((sndL C ((k : Int) :: l)).drop y.size)) = sndL C ((k : Int) :: l) := by
          rw [snd_cons hj, d1, ← bl_len]
          exact (pre_drop p1).symm
        have := uni hV hs hd h' he
        injection this with e1 _
        have e2 : j = k := by omega
        subst e2
        rw [hj] at hk
        exact hys (Option.some.inj hk)
    rw [this, sum_one C hV.nd, if_pos (inB_iff.2 (List.mem_of_getElem? hk))]
theorem notes_snd {C : List ByteArray} (hV : Vd C) : ∀ l : List Int, idxB C l = true → (sndL C l).all isNote = true
  | [], _ => rfl
  | i :: l, h => by
    obtain ⟨k, s, rfl, hk, hl⟩ := idx_cons h
    rw [snd_cons hk, List.all_append, notes_snd hV l hl, Bool.and_true]
    exact (sgB_iff.1 (hV.sg s (List.mem_of_getElem? hk))).2.2
theorem decodes {C : List ByteArray} {l : List Int} (hz : snE C l = 0) (h60 : (snS C l).size ≤ 60) : txE C (snS C l) = 0 ∧ vE C = 0 ∧ dcB C (snS C l) = true ∧ 0 < hdN C (snS C l) ∧ (dcL C (snS C l)).length ≤ 60 ∧ (sfB C = true → hdN C (snS C l) = 1 ∧ dcL C (snS C l) = l) := by
  obtain ⟨hv, h4, hi⟩ := snE_zero hz
  have hV := vE_ok hv
  have hC : ∀ s ∈ C, 1 ≤ s.size := fun s hs => (sgB_iff.1 (hV.sg s hs)).1
  have hS : bl (snS C l) = sndL C l := by
    unfold snS
    rw [if_pos hz]
    exact bl_ofL _
  have hn : notesB (snS C l) = true := by
    unfold notesB
    rw [hS]
    exact notes_snd hV l hi
  have ht : txE C (snS C l) = 0 := by
    unfold txE
    rw [if_pos hv, if_neg (by omega), if_neg (by rw [hn]; simp)]
  have hw : ways C (bl (snS C l)) ≠ 0 := by rw [hS]; exact ways_snd hC l hi
  have hL : dcL C (snS C l) = dcI C (bl (snS C l)) := if_pos ht
  have hN : hdN C (snS C l) = ways C (bl (snS C l)) := if_pos ht
  obtain ⟨d1, d2⟩ := snd_dc hC _ _ (Nat.le_refl _) hw
  refine ⟨ht, hv, decide_eq_true ⟨ht, hw⟩, by omega, ?_, fun hs => ?_⟩
  · rw [hL]
    unfold dcI
    rw [List.length_map]
    have := dc_len hC _ _ (Nat.le_refl (bl (snS C l)).length)
    rw [bl_len] at this
    omega
  · unfold sfB at hs
    rw [if_pos hv] at hs
    refine ⟨by rw [hN, hS]; exact ways_one hV hs hC l hi, ?_⟩
    rw [hL]
    exact uni hV hs d2 hi (by rw [d1, hS])
end Go.Proofs.Ytjongjndoaojnaa
