/-
  Whether no signal begins with another one: the walks of IsPrefix of both sides. Condition: the code can be read.
-/
import Derived.Test.YtjongjndoaojnaaEn3
namespace Go.Proofs.Ytjongjndoaojnaa
open Go.RowKit
set_option linter.unusedVariables false

/-- No signal begins with another one, as far as the first k ones and j of the next one. -/
def Pf (C : List ByteArray) (k j : Nat) : Prop := ∀ (a b : Nat) x y, C[a]? = some x → C[b]? = some y → a ≠ b → (a < k ∨ (a = k ∧ b < j)) → pfx y x = false
theorem Pf.next {C : List ByteArray} {k j : Nat} {x y : ByteArray} (h : Pf C k j) (hx : C[k]? = some x) (hy : C[j]? = some y) (hn : k ≠ j → pfx y x = false) : Pf C k (j + 1) := by
  intro a b x' y' hx' hy' hne ho
  by_cases hc : a = k ∧ b = j
  · obtain ⟨rfl, rfl⟩ := hc
    rw [hx] at hx'
    rw [hy] at hy'
    cases hx'
    cases hy'
    exact hn hne
  · exact h a b x' y' hx' hy' hne (by omega)
theorem Pf.row {C : List ByteArray} {k : Nat} (h : Pf C k C.length) : Pf C (k + 1) 0 := fun a b x y hx hy hne ho => h a b x y hx hy hne (by have := (List.getElem?_eq_some_iff.1 hy).1; omega)
/-- Whether no signal of a code begins with another one. -/
noncomputable def prB (C : List ByteArray) : Bool := if vE C = 0 then @decide (Pf C C.length 0) (Classical.propDecidable _) else false
theorem prB_yes {C : List ByteArray} (hv : vE C = 0) (h : Pf C C.length 0) : prB C = true := by
  unfold prB
  rw [if_pos hv]
  exact @decide_eq_true _ (Classical.propDecidable _) h
theorem prB_no {C : List ByteArray} (hv : vE C = 0) {a b : Nat} {x y : ByteArray} (hx : C[a]? = some x) (hy : C[b]? = some y) (hne : a ≠ b) (hp : pfx y x = true) : prB C = false := by
  unfold prB
  rw [if_pos hv]
  refine @decide_eq_false _ (Classical.propDecidable _) fun h => ?_
  have := h a b x y hx hy hne (.inl (List.getElem?_eq_some_iff.1 hx).1)
  rw [hp] at this
  cases this
theorem prB_pf {C : List ByteArray} (h : prB C = true) : vE C = 0 ∧ Pf C C.length 0 := by
  unfold prB at h
  by_cases hv : vE C = 0
  · rw [if_pos hv] at h
    exact ⟨hv, @of_decide_eq_true _ (Classical.propDecidable _) h⟩
  · rw [if_neg hv] at h
    cases h
/-- Such a code is safe. -/
theorem prB_safe {C : List ByteArray} (h : prB C = true) : sfB C = true := by
  obtain ⟨hv, hp⟩ := prB_pf h
  have hV := vE_ok hv
  unfold sfB
  rw [if_pos hv]
  unfold safeC
  refine @decide_eq_true _ (Classical.propDecidable _) (prefix_safe (ne_nil_of hV) ?_)
  intro x hx y hy hne t he
  obtain ⟨s, hs, rfl⟩ := List.mem_map.1 hx
  obtain ⟨u, hu, rfl⟩ := List.mem_map.1 hy
  obtain ⟨i, hi⟩ := List.getElem?_of_mem hs
  obtain ⟨j, hj⟩ := List.getElem?_of_mem hu
  have h1 := hp j i u s hj hi (fun e => hne (by subst e; rw [hi] at hj; cases hj; rfl)) (.inl (List.getElem?_eq_some_iff.1 hj).1)
  rw [(pfx_of he).1] at h1
  cases h1
set_option maxRecDepth 8000 in
set_option maxHeartbeats 2000000 in
theorem IsPrefix_any (A : Option Addr) (c : Nat) (C : List ByteArray) (w : World) (hr : Rd w w.heap.size A (txts C)) (hs : Sz C) (hl : C.length ≤ c) (hc : c ≤ 9223372036854775807) :
    Calls Try.prog 31 #[.slice A C.length c] w fun e w' => e = .returned (.tuple #[.bool (prB C), .int .i64 (vE C)]) ∧ Below w.heap.size w w' := by
  have HVA := Lib.hid (Validate_any A c C w hr hs hl hc)
  have HR := Lib.hid hr
  clear hr hs
  by_cases hv : vE C = 0
  · have HE0 := Lib.hid hv
    have hC12 := (vE_ok hv).le
    rw [hv] at HVA
    clear hv
    go_enter Try.func31, Try.ntmps31
    go_wp2_with fail
    refine HVA.out.mono ?_
    rintro e w1 ⟨rfl, hb⟩
    have B1 := Lib.hid hb
    have R1 := Lib.hid ((HR.out.below hb (Nat.le_refl _)).more hb.size)
    clear hb
    go_wp2_with fail
    go_loop [16] (fun i => ∃ k : Nat, k ≤ C.length ∧ i = .int .i64 k ∧ Pf C k 0) (fun i => C.length - (intOf i).toNat)
    case atStart => exact ⟨0, by omega, rfl, fun a b x y _ _ _ h => by omega⟩
    case round =>
      obtain ⟨k, hk, rfl, hall⟩ := hrel
      have HA := Lib.hid hall
      clear hall
      by_cases hlt : k < C.length
      · obtain ⟨b, o, x, hA, hx, hc0⟩ := R1.out.txt k hlt
        have HX := Lib.hid hA
        subst hA
        go_wp2_with fail
        go_loop [23] (fun i => ∃ j : Nat, j ≤ C.length ∧ i = .int .i64 j ∧ Pf C k j) (fun i => C.length - (intOf i).toNat)
        case atStart => exact ⟨0, by omega, rfl, HA.out⟩
        case round =>
          obtain ⟨j, hj, rfl, hall⟩ := hrel
          have HB := Lib.hid hall
          clear hall
          by_cases hlt2 : j < C.length
          · obtain ⟨b2, o2, y, hA2, hy, hc2⟩ := R1.out.txt j hlt2
            cases hA2
            by_cases hkj : k = j
            · subst hkj
              have e1 : ((k : Int) != (k : Int)) = false := by simp
              have HN := Lib.hid (HB.out.next hx.out hy.out fun h => absurd rfl h)
              go_wp2_with fail
              go_round
              case rel => exact ⟨k + 1, by omega, by go_num, HN.out⟩
              case measure => simp [intOf]; omega
            · have e1 : ((k : Int) != (j : Int)) = true := by simp; omega
              have HP := Lib.hid (HasPrefix_any x y)
              cases hp : pfx y x
              · rw [hp] at HP
                have HN := Lib.hid (HB.out.next hx.out hy.out fun _ => hp)
                clear hp hkj
                go_wp2_with (go_at_call 60; refine (HP.out _).mono ?_; rintro e w' ⟨rfl, rfl⟩)
                go_round
                case rel => exact ⟨j + 1, by omega, by go_num, HN.out⟩
                case measure => simp [intOf]; omega
              · rw [hp] at HP
                have HN := Lib.hid (prB_no HE0.out hx.out hy.out hkj hp)
                clear hp hkj
                go_wp2_with (go_at_call 60; refine (HP.out _).mono ?_; rintro e w' ⟨rfl, rfl⟩)
                go_ret2
                exact ⟨by rw [HN.out, HE0.out]; rfl, B1.out⟩
          · have hks : j = C.length := by omega
            have HN := Lib.hid (show Pf C (k + 1) 0 from (hks ▸ HB.out).row)
            subst hks
            go_wp2_with fail
            go_round
            case rel => exact ⟨k + 1, by omega, by go_num, HN.out⟩
            case measure => simp [intOf]; omega
      · have hks : k = C.length := by omega
        have HN := Lib.hid (prB_yes HE0.out (hks ▸ HA.out))
        subst hks
        go_wp2_with fail
        go_ret2
        exact ⟨by rw [HN.out, HE0.out]; rfl, B1.out⟩
  · have e1 : (vE C != 0) = true := by simpa using hv
    have HE := Lib.hid (show prB C = false from if_neg hv)
    clear hv
    go_enter Try.func31, Try.ntmps31
    go_wp2_with fail
    refine HVA.out.mono ?_
    rintro e w1 ⟨rfl, hb⟩
    go_wp2_with fail
    go_ret2
    exact ⟨by rw [HE.out]; rfl, hb⟩
set_option maxRecDepth 8000 in
set_option maxHeartbeats 2000000 in
theorem rIsPrefix_any (A : Option Addr) (c : Nat) (C : List ByteArray) (w : World) (hr : Rd w w.heap.size A (txts C)) (hs : Sz C) (hl : C.length ≤ 9223372036854775807) :
    Calls Try.prog 32 #[.slice A C.length c] w fun e w' => e = .returned (.tuple #[.bool (prB C), .int .i64 (vE C)]) ∧ Below w.heap.size w w' := by
  have HVA := Lib.hid (rValidate_any A c C w hr hs hl)
  have HR := Lib.hid hr
  clear hr hs
  by_cases hv : vE C = 0
  · have HE0 := Lib.hid hv
    have hC12 := (vE_ok hv).le
    rw [hv] at HVA
    clear hv
    go_enter Try.func32, Try.ntmps32
    go_wp2_with fail
    refine HVA.out.mono ?_
    rintro e w' ⟨rfl, m, rfl⟩
    go_wp2_with fail
    go_loopw [5] (fun i wr => ∃ k : Nat, k ≤ C.length ∧ i = .int .i64 k ∧ Pf C k 0 ∧ ∃ m, wr = w.drewN m) (fun i _ => C.length - (intOf i).toNat)
    case atStart => exact ⟨0, by omega, rfl, fun a b x y _ _ _ h => by omega, _, rfl⟩
    case round =>
      obtain ⟨k, hk, rfl, hall, m2, rfl⟩ := hrel
      have HA := Lib.hid hall
      clear hall
      by_cases hlt : k < C.length
      · go_wp2_with fail
        go_loopw [6] (fun i wr => ∃ j : Nat, j ≤ C.length ∧ i = .int .i64 j ∧ Pf C k j ∧ ∃ m, wr = w.drewN m) (fun i _ => C.length - (intOf i).toNat)
        case atStart => exact ⟨0, by omega, rfl, HA.out, _, rfl⟩
        case round =>
          obtain ⟨j, hj, rfl, hall, m3, rfl⟩ := hrel
          have HB := Lib.hid hall
          clear hall
          by_cases hlt2 : j < C.length
          · obtain ⟨b, o, x, hA, hx, hc0⟩ := HR.out.txt k hlt
            obtain ⟨b2, o2, y, hA2, hy, hc2⟩ := HR.out.txt j hlt2
            have HX := Lib.hid hA
            rw [hA] at hA2
            cases hA2
            subst hA
            have b0 : (0 : Int) ≤ (k : Int) := by omega
            have b1 : (k : Int) < (C.length : Int) := by omega
            have b2' : (0 : Int) ≤ (j : Int) := by omega
            have b3 : (j : Int) < (C.length : Int) := by omega
            by_cases hkj : k = j
            · subst hkj
              have e1 : ((k : Int) != (k : Int)) = false := by simp
              have HN := Lib.hid (HB.out.next hx.out hy.out fun h => absurd rfl h)
              go_wp2_with fail
              go_quiet (fail)
              go_wp2_with fail
              go_roundw
              case rel => exact ⟨k + 1, by omega, by go_num, HN.out, _, rfl⟩
              case measure => simp [intOf]; omega
            · have e1 : ((k : Int) != (j : Int)) = true := by simp; omega
              have HP := Lib.hid (begins_any x y)
              cases hp : pfx y x
              · rw [hp] at HP
                have HN := Lib.hid (HB.out.next hx.out hy.out fun _ => hp)
                clear hp hkj
                go_wp2_with fail
                go_quiet ((go_at_call 65; exact qs (HP.out _)))
                go_wp2_with fail
                go_roundw
                case rel => exact ⟨j + 1, by omega, by go_num, HN.out, _, rfl⟩
                case measure => simp [intOf]; omega
              · rw [hp] at HP
                have HN := Lib.hid (prB_no HE0.out hx.out hy.out hkj hp)
                clear hp hkj
                go_wp2_with fail
                go_quiet ((go_at_call 65; exact qs (HP.out _)))
                go_wp2_with fail
                go_ret2
                exact ⟨by rw [HN.out, HE0.out]; rfl, bdN (bdN (Below.refl _ _) _) _⟩
          · have hks : j = C.length := by omega
            have HN := Lib.hid (show Pf C (k + 1) 0 from (hks ▸ HB.out).row)
            subst hks
            go_wp2_with fail
            go_roundw
            case rel => exact ⟨k + 1, by omega, by go_num, HN.out, _, rfl⟩
            case measure => simp [intOf]; omega
      · have hks : k = C.length := by omega
        have HN := Lib.hid (prB_yes HE0.out (hks ▸ HA.out))
        subst hks
        go_wp2_with fail
        go_ret2
        exact ⟨by rw [HN.out, HE0.out]; rfl, bdN (Below.refl _ _) _⟩
  · have e1 : (vE C != 0) = true := by simpa using hv
    have HE := Lib.hid (show prB C = false from if_neg hv)
    clear hv
    go_enter Try.func32, Try.ntmps32
    go_wp2_with fail
    refine HVA.out.mono ?_
    rintro e w' ⟨rfl, m, rfl⟩
    go_wp2_with fail
    go_ret2
    exact ⟨by rw [HE.out]; rfl, bdN (Below.refl _ _) m⟩
end Go.Proofs.Ytjongjndoaojnaa
