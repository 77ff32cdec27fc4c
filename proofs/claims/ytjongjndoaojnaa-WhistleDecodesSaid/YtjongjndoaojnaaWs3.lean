/-
  Which codes are valid: the walks of Index, Contains, Validate of package whistle, Validate of the reference. Condition: the code can be read.
-/
import Derived.Test.YtjongjndoaojnaaWs2
import Derived.BigQuiet
import Derived.Lib.Hide
namespace Go.Proofs.Ytjongjndoaojnaa
open Go.RowKit
set_option linter.unusedVariables false

def ixB (x : ByteArray) (L : List ByteArray) : Int := match L.findIdx? (fun y => decide (y = x)) with | some k => (k : Int) | none => -1
theorem ixB_hit {x : ByteArray} {L : List ByteArray} {k : Nat} (hk : L[k]? = some x) (h : ∀ (j : Nat) e, j < k → L[j]? = some e → ¬ e = x) : ixB x L = k := by
  unfold ixB
  obtain ⟨hl, he⟩ := List.getElem?_eq_some_iff.1 hk
  rw [show L.findIdx? (fun y => decide (y = x)) = some k from List.findIdx?_eq_some_iff_getElem.2 ⟨hl, by simp [he], fun j hj => by
    have := h j L[j] hj (List.getElem?_eq_getElem (by omega))
    simpa using this⟩]
theorem ixB_none {x : ByteArray} {L : List ByteArray} (h : ∀ (j : Nat) e, j < L.length → L[j]? = some e → ¬ e = x) : ixB x L = -1 := by
  unfold ixB
  rw [show L.findIdx? (fun y => decide (y = x)) = none from List.findIdx?_eq_none_iff.2 fun y hy => by
    obtain ⟨j, hj, he⟩ := List.getElem_of_mem hy
    have := h j y hj (by rw [List.getElem?_eq_getElem hj, he])
    simpa using this]
theorem ixB_mem (x : ByteArray) (L : List ByteArray) : decide (0 ≤ ixB x L) = inB x L := by
  unfold ixB
  cases h : L.findIdx? (fun y => decide (y = x)) with
  | none =>
    have h1 := List.findIdx?_eq_none_iff.1 h
    have : inB x L = false := by
      unfold inB
      rw [List.any_eq_false]
      intro y hy
      rw [h1 y hy]; simp
    rw [this]; rfl
  | some k =>
    obtain ⟨hl, h1, _⟩ := List.findIdx?_eq_some_iff_getElem.1 h
    have : inB x L = true := by
      unfold inB
      rw [List.any_eq_true]
      exact ⟨_, List.getElem_mem hl, h1⟩
    rw [this]
    simp
theorem neb_next {L : List ByteArray} {x d : ByteArray} {k : Nat} (hd : L[k]? = some d) (hn : ¬ d = x) (ha : ∀ (j : Nat) e, j < k → L[j]? = some e → ¬ e = x) : ∀ (j : Nat) e, j < k + 1 → L[j]? = some e → ¬ e = x := by
  intro j e hj he
  rcases Nat.lt_or_ge j k with h | h
  · exact ha j e h he
  · obtain rfl : j = k := by omega
    rw [hd] at he
    injection he with he
    exact he ▸ hn
set_option maxRecDepth 4000 in
set_option maxHeartbeats 1000000 in
theorem IndexS_any (A : Option Addr) (c : Nat) (L : List ByteArray) (x : ByteArray) (w : World) (hr : Rd w w.heap.size A (txts L)) (hl : L.length ≤ 9223372036854775807) :
    Calls Try.prog 91 #[.slice A L.length c, .string x] w fun e w' => e = .returned (.int .i64 (ixB x L)) ∧ w = w' := by
  have HR := Lib.hid hr
  have HH := Lib.hid (fun k hd ha => ixB_hit (x := x) (L := L) (k := k) hd ha)
  have HN := Lib.hid (fun ha => ixB_none (x := x) (L := L) ha)
  clear hr
  go_enter Try.func91, Try.ntmps91
  go_wp2
  go_loop [8] (fun i => ∃ k : Nat, k ≤ L.length ∧ i = .int .i64 k ∧ ∀ (j : Nat) e, j < k → L[j]? = some e → ¬ e = x) (fun i => L.length - (intOf i).toNat)
  case atStart => exact ⟨0, by omega, rfl, fun j e hj => by omega⟩
  case round =>
    obtain ⟨k, hk, rfl, hall⟩ := hrel
    have HA := Lib.hid hall
    clear hall
    by_cases hlt : k < L.length
    · obtain ⟨b, o, d, rfl, hd, hc⟩ := HR.out.txt k hlt
      by_cases hp : d = x
      · have HX := Lib.hid (HH.out k (by rw [← hp]; exact hd.out) HA.out)
        have e1 : (x.toList == d.toList) = true := by rw [bl_eqb, hp]; simp
        clear hp
        go_wp2_with fail
        go_ret
        exact ⟨by rw [HX.out]; rfl, rfl⟩
      · have HX := Lib.hid (neb_next hd.out hp HA.out)
        have e1 : (x.toList == d.toList) = false := by rw [bl_eqb]; exact decide_eq_false fun h => hp h.symm
        clear hp
        go_wp2_with fail
        go_round
        case rel => exact ⟨k + 1, by omega, by go_num, HX.out⟩
        case measure => simp [intOf]; omega
    · have hks : k = L.length := by omega
      subst hks
      have HX := Lib.hid (HN.out HA.out)
      go_wp2_with fail
      go_ret
      exact ⟨by rw [HX.out]; rfl, rfl⟩
theorem ContainsS_any (A : Option Addr) (c : Nat) (L : List ByteArray) (x : ByteArray) (w : World) (hr : Rd w w.heap.size A (txts L)) (hl : L.length ≤ 9223372036854775807) :
    Calls Try.prog 57 #[.slice A L.length c, .string x] w fun e w' => e = .returned (.bool (inB x L)) ∧ w = w' := by
  have H := Lib.hid (IndexS_any A c L x w hr hl)
  have hm := ixB_mem x L
  generalize ixB x L = I at *
  generalize inB x L = B at *
  go_enter Try.func57, Try.ntmps57
  go_wp2_with fail
  refine (H.out).mono ?_
  rintro e w' ⟨rfl, rfl⟩
  go_wp2_with fail
  go_ret
  exact ⟨by first | rfl | rw [hm], rfl⟩
theorem isLen_sz (n : Nat) : isLen (n : Int) = (decide (1 ≤ n) && decide (n ≤ 12)) := by
  unfold isLen
  congr 1 <;> rw [decide_eq_decide] <;> omega
set_option maxRecDepth 4000 in
set_option maxHeartbeats 2000000 in
theorem Validate_any (A : Option Addr) (c : Nat) (C : List ByteArray) (w : World) (hr : Rd w w.heap.size A (txts C)) (hs : Sz C) (hl : C.length ≤ c) (hc : c ≤ 9223372036854775807) :
    Calls Try.prog 20 #[.slice A C.length c] w fun e w' => e = .returned (.int .i64 (vE C)) ∧ Below w.heap.size w w' := by
  have HR := Lib.hid hr
  have HS := Lib.hid hs
  clear hr hs
  by_cases h0 : C.length = 0
  · have e1 : (((C.length : Nat) : Int) == 0) = true := by rw [h0]; rfl
    have HE := Lib.hid (show vE C = 3 by unfold vE; rw [if_pos (by simp [h0])])
    clear h0
    go_enter Try.func20, Try.ntmps20
    go_wp2_with fail
    go_ret
    exact ⟨by rw [HE.out]; rfl, Below.refl _ _⟩
  have e1 : (((C.length : Nat) : Int) == 0) = false := by rw [beq_eq_false_iff_ne]; omega
  by_cases h12 : 12 < C.length
  · have e2 : decide ((12 : Int) < (C.length : Int)) = true := by simp; omega
    have e3 : decide (12 < C.length) = true := by simpa using h12
    have HE := Lib.hid (show vE C = 3 by unfold vE; rw [if_pos (by simp; omega)])
    clear h0
    go_enter Try.func20, Try.ntmps20
    go_wp2_with fail
    go_ret
    exact ⟨by rw [HE.out]; rfl, Below.refl _ _⟩
  have e2 : decide ((12 : Int) < (C.length : Int)) = false := by simp; omega
  have e3 : decide (12 < C.length) = false := by simpa using h12
  have HE := Lib.hid (show vE C = vGo [] C by unfold vE; rw [if_neg (by simp only [Bool.or_eq_true, decide_eq_true_eq]; omega)])
  have HL := Lib.hid hl
  clear h0
  go_enter Try.func20, Try.ntmps20
  go_wp2_with fail
  clear e1 e2 e3
  go_loopw [15] (fun i wr => ∃ k : Nat, k ≤ C.length ∧ i = .int .i64 k ∧ vGo (C.take k) (C.drop k) = vGo [] C ∧ Below w.heap.size w wr) (fun i _ => C.length - (intOf i).toNat)
  case atStart => exact ⟨0, by omega, rfl, rfl, Below.refl _ _⟩
  case round =>
    obtain ⟨k, hk, rfl, hv, hb⟩ := hrel
    have B1 := Lib.hid hb
    have V1 := Lib.hid (HE.out.trans hv.symm)
    have R1 := Lib.hid (HR.out.below hb (Nat.le_refl _))
    clear hb hv
    by_cases hlt : k < C.length
    · obtain ⟨b, o, s, rfl, hd, hc0⟩ := R1.out.txt k hlt
      have HV := Lib.hid (vGo_at hd.out)
      have hsz := HS.out.at_ hd.out
      have b0 : (0 : Int) ≤ (k : Int) := by omega
      have b1 : (k : Int) ≤ (c : Int) := by have := HL.out; omega
      have b2 : (k : Int) < (C.length : Int) := by omega
      have b3 : k ≤ c := by have := HL.out; omega
      have HIL := Lib.hid (fun w => isLength_any (s.size : Int) w)
      have HI2 := isLen_sz s.size
      cases hi : isLen (s.size : Int)
      · rw [hi] at HIL HI2
        have HZ := Lib.hid (show vE C = 1 by rw [V1.out, HV.out, if_pos (by unfold sgB; rw [← HI2]; rfl)])
        clear hi HI2
        go_wp2_with (go_at_call 55; refine (HIL.out _).mono ?_; rintro e w' ⟨rfl, rfl⟩)
        go_ret
        exact ⟨by rw [HZ.out]; rfl, B1.out⟩
      · rw [hi] at HIL HI2
        have HN := Lib.hid (fun w => areNotes_any s w hsz)
        cases hn : notesB s
        · rw [hn] at HN
          have HZ := Lib.hid (show vE C = 1 by rw [V1.out, HV.out, if_pos (by unfold sgB; rw [← HI2, hn]; rfl)])
          clear hi HI2 hn
          go_wp2_with (go_at_call 55; refine (HIL.out _).mono ?_; rintro e w' ⟨rfl, rfl⟩)
          refine (HN.out _).mono ?_
          rintro e w1 ⟨rfl, hb⟩
          have B2 := Lib.hid (B1.out.trans (hb.mono B1.out.size))
          clear hb
          go_wp2_with fail
          go_ret
          exact ⟨by rw [HZ.out]; rfl, B2.out⟩
        · rw [hn] at HN
          have HG := Lib.hid (show sgB s = true by unfold sgB; rw [← HI2, hn]; rfl)
          clear hi HI2 hn
          have RT := Lib.hid (R1.out.take k)
          rw [txts_take] at RT
          have HTL : (C.take k).length = k := by rw [List.length_take]; omega
          go_wp2_with (go_at_call 55; refine (HIL.out _).mono ?_; rintro e w' ⟨rfl, rfl⟩)
          refine (HN.out _).mono ?_
          rintro e w1 ⟨rfl, hb⟩
          have B2 := Lib.hid (B1.out.trans (hb.mono B1.out.size))
          have HC := Lib.hid (ContainsS_any (some ⟨b, o, none⟩) c (C.take k) s w1 ((RT.out.below hb B1.out.size).more B2.out.size) (by omega))
          rw [HTL] at HC
          clear hb HTL
          cases hin : inB s (C.take k)
          · rw [hin] at HC
            have HZ := Lib.hid (show vGo (C.take (k + 1)) (C.drop (k + 1)) = vGo [] C by
              rw [HV.out, if_neg (by rw [HG.out]; simp), hin] at V1
              have := V1.out
              rw [if_neg (by simp)] at this
              rw [← this, HE.out])
            clear hin
            go_wp2_with (go_at_call 57; refine (HC.out).mono ?_; rintro e w' ⟨rfl, rfl⟩)
            go_roundw
            case rel => exact ⟨k + 1, by omega, by go_num, HZ.out, B2.out⟩
            case measure => simp [intOf]; omega
          · rw [hin] at HC
            have HZ := Lib.hid (show vE C = 5 by rw [V1.out, HV.out, if_neg (by rw [HG.out]; simp), if_pos hin])
            clear hin
            go_wp2_with (go_at_call 57; refine (HC.out).mono ?_; rintro e w' ⟨rfl, rfl⟩)
            go_ret
            exact ⟨by rw [HZ.out]; rfl, B2.out⟩
    · have hks : k = C.length := by omega
      subst hks
      have HZ := Lib.hid (show vE C = 0 by rw [V1.out, vGo_end])
      go_wp2_with fail
      go_ret
      exact ⟨by rw [HZ.out]; rfl, B1.out⟩
end Go.Proofs.Ytjongjndoaojnaa
