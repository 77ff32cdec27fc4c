/-
  Which histories are valid: the walks of ValidateHistories of both sides, of caught, days, daysOf. Condition: the list can be read.
-/
import Derived.Test.YtegehfcnclpdeabDoorHs1
import Derived.Deep.QuietTactic
namespace Go.Proofs.YtegehfcnclpdeabDoor
open Go.RowKit
set_option linter.unusedVariables false

theorem one_fD (s : ByteArray) : decide (0 ≤ fD s) = oneB s := by
  rcases fD_spec s with ⟨h, hn⟩ | ⟨f, h, hh, _⟩
  · rw [h]
    cases ho : oneB s
    · rfl
    · obtain ⟨d, _, _, h3⟩ := inB_iff.1 ho
      rw [hn d] at h3; cases h3
  · rw [h]
    rw [show oneB s = true from inB_iff.2 ⟨f, Nat.zero_le _, hit_lt hh, hh⟩]
    exact decide_eq_true (by omega)
def birdE (D : Nat) (s : ByteArray) : Int := if 8 < s.size then 3 else if s.size ≠ D ∨ bitsB s = false then 1 else if oneB s = false then 8 else 0
def vhF (D : Nat) : List ByteArray → Int
  | [] => 0
  | s :: r => if birdE D s = 0 then vhF D r else birdE D s
def D0 (C : List ByteArray) : Nat := match C with | [] => 0 | s :: _ => s.size
def vhE (C : List ByteArray) : Int := if 60 < C.length then 3 else vhF (D0 C) C
def okH (D : Nat) (L : List ByteArray) : Prop := ∀ s ∈ L, birdE D s = 0
theorem vhF_hit {D : Nat} : ∀ {L : List ByteArray} {k : Nat} {s : ByteArray}, okH D (L.take k) → L[k]? = some s → birdE D s ≠ 0 → vhF D L = birdE D s
  | [], _, _, _, h, _ => by simp at h
  | x :: r, 0, s, _, h, hq => by
    simp at h
    subst h
    exact if_neg hq
  | x :: r, k + 1, s, ho, h, hq => by
    rw [List.take_succ_cons] at ho
    unfold vhF
    rw [if_pos (ho x (by simp))]
    exact vhF_hit (k := k) (fun y hy => ho y (List.mem_cons_of_mem _ hy)) (by simpa using h) hq
theorem vhF_ok {D : Nat} : ∀ {L : List ByteArray}, okH D L → vhF D L = 0
  | [], _ => rfl
  | x :: r, h => by
    unfold vhF
    rw [if_pos (h x (by simp))]
    exact vhF_ok fun y hy => h y (by simp [hy])
theorem okH_of {D : Nat} : ∀ {L : List ByteArray}, vhF D L = 0 → okH D L
  | [], _ => fun s hs => by simp at hs
  | x :: r, h => by
    unfold vhF at h
    split at h
    · rename_i h1
      intro q hq
      rcases List.mem_cons.1 hq with rfl | hq
      · exact h1
      · exact okH_of h q hq
    · rename_i h1
      exact absurd h h1
theorem okH_next {D : Nat} {L : List ByteArray} {k : Nat} {s : ByteArray} (h : okH D (L.take k)) (hk : L[k]? = some s) (hq : birdE D s = 0) : okH D (L.take (k + 1)) := by
  intro x hx
  rw [List.take_add_one, hk] at hx
  rcases List.mem_append.1 hx with h1 | h1
  · exact h x h1
  · simp at h1
    rw [h1]; exact hq
theorem len60 (n : Nat) : decide ((60 : Int) < (n : Int)) = decide (60 < n) := by rw [decide_eq_decide]; omega
theorem D0_at {C : List ByteArray} {s : ByteArray} (h : C[0]? = some s) : D0 C = s.size := by
  cases C with
  | nil => simp at h
  | cons a r => simp at h; subst h; rfl
set_option maxRecDepth 8000 in
set_option maxHeartbeats 2000000 in
theorem ValidateHistories_any (A : Option Addr) (cp : Nat) (C : List ByteArray) (hs : Sz C) (hl : C.length ≤ 9223372036854775807) (w : World) (hr : Rd w w.heap.size A (txts C)) :
    Calls Tryd.prog 22 #[.slice A C.length cp] w fun e w' => e = .returned (.int .i64 (vhE C)) ∧ Below w.heap.size w w' := by
  have HR := Lib.hid hr
  have HSz := Lib.hid hs
  clear hr hs
  have h8 := len60 C.length
  by_cases hl8 : 60 < C.length
  · have HE := Lib.hid (show vhE C = 3 from if_pos hl8)
    rw [decide_eq_true hl8] at h8
    have h8' : decide (60 < C.length) = true := decide_eq_true hl8
    clear hl8
    go_enter Tryd.func22, Tryd.ntmps22
    go_wp2_with fail
    go_ret
    exact ⟨by rw [HE.out]; rfl, Below.refl _ _⟩
  · have HE := Lib.hid (show vhE C = vhF (D0 C) C from if_neg hl8)
    rw [decide_eq_false hl8] at h8
    have h8' : decide (60 < C.length) = false := decide_eq_false hl8
    have h8l : C.length ≤ 60 := by omega
    clear hl8
    go_enter Tryd.func22, Tryd.ntmps22
    go_wp2_with fail
    go_loopw [10] (fun i wr => ∃ k : Nat, k ≤ C.length ∧ i = .int .i64 k ∧ okH (D0 C) (C.take k) ∧ Below w.heap.size w wr) (fun i _ => C.length - (intOf i).toNat)
    case atStart => exact ⟨0, by omega, rfl, fun q hq => by simp at hq, Below.refl _ _⟩
    case round =>
      obtain ⟨k, hk, rfl, ho, hb⟩ := hrel
      have HO := Lib.hid ho
      have B1 := Lib.hid hb
      by_cases hlt : k < C.length
      · obtain ⟨b, o, s, hA, hbb, hq, c0⟩ := (HR.out.below hb (Nat.le_refl _)).txt k hlt
        obtain ⟨b2, o2, z, hA2, _, hz, c1⟩ := (HR.out.below hb (Nat.le_refl _)).txt 0 (by omega)
        rw [hA] at hA2
        injection hA2 with hA2
        injection hA2 with q1 q2
        subst q1 q2
        have HA := Lib.hid hA
        subst hA
        have hD := D0_at hz.out
        have c1' : wr.cell? ⟨b, o, none⟩ = some (.string z) := c1
        have HHit := Lib.hid (fun h => vhF_hit HO.out hq.out h)
        have HNx := Lib.hid (fun h => okH_next HO.out hq.out h)
        have hbd : birdE (D0 C) s = if 8 < s.size then 3 else if s.size ≠ z.size ∨ bitsB s = false then 1 else if oneB s = false then 8 else 0 := by rw [hD]; rfl
        have hsz := HSz.out s (List.mem_of_getElem? hq.out)
        have hszz := HSz.out z (List.mem_of_getElem? hz.out)
        have HT := Lib.hid (fun w => Trim01_any s hsz w)
        have HC := Lib.hid (fun w => Contains1_any s w)
        rw [one_fD] at HC
        have hte := trB_empty s
        have b0 : (0 : Int) ≤ (k : Int) := by omega
        have b1 : (k : Int) < (C.length : Int) := by omega
        have b2 : (0 : Int) < (C.length : Int) := by omega
        generalize trB s = T at *
        clear ho hb c1 hq hz hbb hD
        by_cases h8s : 8 < s.size
        · have e1 : decide ((8 : Int) < (s.size : Int)) = true := by simp; omega
          have e1' : decide (8 < s.size) = true := decide_eq_true h8s
          have hbv := hbd.trans (if_pos h8s)
          have HV := Lib.hid (show vhF (D0 C) C = 3 from (HHit.out (by rw [hbv]; decide)).trans hbv)
          clear h8s hbd hbv hte hlt
          go_wp2_with fail
          go_ret
          exact ⟨by rw [HE.out, HV.out]; rfl, B1.out⟩
        · have e1 : decide ((8 : Int) < (s.size : Int)) = false := by simp; omega
          have e1' : decide (8 < s.size) = false := decide_eq_false h8s
          have hbd := hbd.trans (if_neg h8s)
          by_cases hsd : s.size = z.size
          · have e2 : (((s.size : Nat) : Int) != ((z.size : Nat) : Int)) = false := by rw [hsd]; simp
            have e2' : (s.size != z.size) = false := by rw [hsd]; simp
            cases hbt : bitsB s
            · rw [hbt] at hte
              have hbv := hbd.trans (if_pos (.inr hbt))
              have HV := Lib.hid (show vhF (D0 C) C = 1 from (HHit.out (by rw [hbv]; decide)).trans hbv)
              have HTE := Lib.hid hte
              clear h8s hbd hbv hlt hsd hbt
              go_wp2_with fail
              refine (HT.out wr).mono ?_
              rintro e w3 ⟨rfl, hb⟩
              have B3 := Lib.hid (B1.out.trans (hb.mono B1.out.size))
              clear hb
              go_wp2_with fail
              go_ret
              exact ⟨by rw [HE.out, HV.out]; rfl, B3.out⟩
            · rw [hbt] at hte
              cases hoe : oneB s
              · rw [hoe] at HC
                have hbv := (hbd.trans (if_neg (by rw [hbt]; simp [hsd]))).trans (if_pos hoe)
                have HV := Lib.hid (show vhF (D0 C) C = 8 from (HHit.out (by rw [hbv]; decide)).trans hbv)
                clear h8s hbd hbv hlt hsd hbt hoe
                go_wp2_with fail
                refine (HT.out wr).mono ?_
                rintro e w3 ⟨rfl, hb⟩
                have B3 := Lib.hid (B1.out.trans (hb.mono B1.out.size))
                clear hb
                go_wp2_with fail
                refine (HC.out _).mono ?_
                rintro e w' ⟨rfl, rfl⟩
                go_wp2_with fail
                go_ret
                exact ⟨by rw [HE.out, HV.out]; rfl, B3.out⟩
              · rw [hoe] at HC
                have HV := Lib.hid (HNx.out ((hbd.trans (if_neg (by rw [hbt]; simp [hsd]))).trans (if_neg (by rw [hoe]; simp))))
                clear h8s hbd hsd hbt hoe
                go_wp2_with fail
                refine (HT.out wr).mono ?_
                rintro e w3 ⟨rfl, hb⟩
                have B3 := Lib.hid (B1.out.trans (hb.mono B1.out.size))
                clear hb
                go_wp2_with fail
                refine (HC.out _).mono ?_
                rintro e w' ⟨rfl, rfl⟩
                go_wp2_with fail
                go_roundw
                case rel => exact ⟨k + 1, by omega, by go_num, HV.out, B3.out⟩
                case measure => simp [intOf]; omega
          · have e2 : (((s.size : Nat) : Int) != ((z.size : Nat) : Int)) = true := by simp; omega
            have e2' : (s.size != z.size) = true := by simpa using hsd
            have hbv := hbd.trans (if_pos (.inl hsd))
            have HV := Lib.hid (show vhF (D0 C) C = 1 from (HHit.out (by rw [hbv]; decide)).trans hbv)
            clear h8s hbd hbv hlt hsd hte
            go_wp2_with fail
            go_ret
            exact ⟨by rw [HE.out, HV.out]; rfl, B1.out⟩
      · have hkL : k = C.length := by omega
        have HV := Lib.hid (show vhF (D0 C) C = 0 from vhF_ok (by have := HO.out; rwa [hkL, List.take_length] at this))
        subst hkL
        clear ho hb hlt
        go_wp2_with fail
        go_ret
        exact ⟨by rw [HE.out, HV.out]; rfl, B1.out⟩
end Go.Proofs.YtegehfcnclpdeabDoor
