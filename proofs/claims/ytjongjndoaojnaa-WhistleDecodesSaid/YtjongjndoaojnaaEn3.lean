/-
  Whether a code is safe, as the reference finds it: the walk of IsSafe. Condition: the code can be read.
-/
import Derived.Test.YtjongjndoaojnaaEn2
namespace Go.Proofs.Ytjongjndoaojnaa
open Go.RowKit
set_option linter.unusedVariables false

theorem Ends.safe {C L : List ByteArray} (hV : Vd C) (h : Ends C L) : (safeC C = true ↔ ∀ s ∈ C, inB s L = false) := by
  have key : ∀ s ∈ C, (inB s L = true ↔ End (Cl C) (bl s)) := by
    intro s hs
    have hne : bl s ≠ [] := ne_nil_of hV _ (List.mem_map_of_mem hs)
    constructor
    · intro hi
      exact h.bd.snd _ (List.mem_map_of_mem (inB_iff.1 hi))
    · intro he
      obtain ⟨t, ht, hts⟩ := List.mem_map.1 (h.all _ he hne)
      rw [← bl_inj hts]
      exact inB_iff.2 ht
  have h2 : safeC C = true ↔ Safe (Cl C) := by unfold safeC; exact @decide_eq_true_iff _ (Classical.propDecidable _)
  rw [h2, safe_iff hV, end_nil hV]
  constructor
  · intro hn s hs
    cases hi : inB s L
    · rfl
    · exact absurd ⟨_, List.mem_map_of_mem hs, (key s hs).1 hi⟩ hn
  · rintro ha ⟨x, hx, he⟩
    obtain ⟨s, hs, rfl⟩ := List.mem_map.1 hx
    have := (key s hs).2 he
    rw [ha s hs] at this
    cases this
theorem Ends.bad {C L : List ByteArray} (hV : Vd C) (h : Ends C L) {s : ByteArray} (hs : s ∈ C) (hi : inB s L = true) : safeC C = false := by
  cases hc : safeC C
  · rfl
  · have := (h.safe hV).1 hc s hs
    rw [hi] at this
    cases this
set_option maxRecDepth 8000 in
set_option maxHeartbeats 1000000 in
theorem rIsSafe_any (A : Option Addr) (c : Nat) (C : List ByteArray) (w : World) (hr : Rd w w.heap.size A (txts C)) (hs : Sz C) (hl : C.length ≤ 9223372036854775807) :
    Calls Try.prog 35 #[.slice A C.length c] w fun e w' => e = .returned (.tuple #[.bool (sfB C), .int .i64 (vE C)]) ∧ Below w.heap.size w w' := by
  have HVA := Lib.hid (rValidate_any A c C w hr hs hl)
  have HR := Lib.hid hr
  clear hr hs
  by_cases hv : vE C = 0
  · have HV := Lib.hid (vE_ok hv)
    have HSF := Lib.hid (show sfB C = safeC C from if_pos hv)
    have HE0 := Lib.hid hv
    have hC12 := HV.out.le
    rw [hv] at HVA
    clear hv
    go_enter Try.func35, Try.ntmps35
    go_wp2_with fail
    refine HVA.out.mono ?_
    rintro e w' ⟨rfl, m, hm⟩
    have B1 := Lib.hid (show Below w.heap.size w w' by rw [hm]; exact bdN (Below.refl _ _) m)
    have R1 := Lib.hid ((HR.out.below B1.out (Nat.le_refl _)).more B1.out.size)
    clear hm
    go_wp2_with fail
    refine (ends_any A c C w' R1.out HV.out).mono ?_
    rintro e w2 ⟨L, A', c', rfl, he, ho, hb⟩
    have EN := Lib.hid he
    have OW := Lib.hid (Rd.of_own ho)
    have R2 := Lib.hid ((R1.out.below hb (Nat.le_refl _)).more hb.size)
    have B2 := Lib.hid (B1.out.trans (hb.mono B1.out.size))
    have hL := he.bd.bound HV.out
    rw [cl_len] at hL
    clear he ho hb
    go_wp2_with fail
    go_loop [6] (fun i => ∃ k : Nat, k ≤ C.length ∧ i = .int .i64 k ∧ ∀ s ∈ C.take k, inB s L = false) (fun i => C.length - (intOf i).toNat)
    case atStart => exact ⟨0, by omega, rfl, fun s hs => by simp at hs⟩
    case round =>
      obtain ⟨k, hk, rfl, hall⟩ := hrel
      have HA := Lib.hid hall
      clear hall
      by_cases hlt : k < C.length
      · obtain ⟨b, o, s, hA, hd, hc⟩ := R2.out.txt k hlt
        subst hA
        have HH := Lib.hid (fun w' (h : Rd w' w'.heap.size A' (txts L)) => has_any A' c' L s w' h (by omega))
        have b0 : (0 : Int) ≤ (k : Int) := by omega
        have b1 : (k : Int) < (C.length : Int) := by omega
        cases hin : inB s L
        · simp only [hin] at HH
          have HX := Lib.hid (show ∀ x ∈ C.take (k + 1), inB x L = false from fun x hx => by
            rw [List.take_add_one, hd.out] at hx
            rcases List.mem_append.1 hx with h1 | h1
            · exact HA.out x h1
            · have : x = s := by simpa using h1
              rw [this]; exact hin)
          clear hin
          go_wp2_with fail
          refine (HH.out _ OW.out).mono ?_
          rintro e w' ⟨rfl, rfl⟩
          go_wp2_with fail
          go_round
          case rel => exact ⟨k + 1, by omega, by go_num, HX.out⟩
          case measure => simp [intOf]; omega
        · simp only [hin] at HH
          have HX := Lib.hid (HSF.out.trans (EN.out.bad HV.out (List.mem_of_getElem? hd.out) hin))
          clear hin
          go_wp2_with fail
          refine (HH.out _ OW.out).mono ?_
          rintro e w' ⟨rfl, rfl⟩
          go_wp2_with fail
          go_ret2
          exact ⟨by rw [HX.out, HE0.out]; rfl, B2.out⟩
      · have hks : k = C.length := by omega
        have HX := Lib.hid (HSF.out.trans ((EN.out.safe HV.out).2 fun s hs => HA.out s (by rw [hks, List.take_length]; exact hs)))
        subst hks
        go_wp2_with fail
        go_ret2
        exact ⟨by rw [HX.out, HE0.out]; rfl, B2.out⟩
  · have e1 : (vE C != 0) = true := by simpa using hv
    have HE := Lib.hid (show sfB C = false from if_neg hv)
    clear hv
    go_enter Try.func35, Try.ntmps35
    go_wp2_with fail
    refine HVA.out.mono ?_
    rintro e w' ⟨rfl, m, rfl⟩
    go_wp2_with fail
    go_ret2
    exact ⟨by rw [HE.out]; rfl, bdN (Below.refl _ _) m⟩
end Go.Proofs.Ytjongjndoaojnaa
