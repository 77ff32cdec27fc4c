/-
  The table of names; the walks of Name, known, Veer of package wind and of the reference's Veer. Conditions: 'Tabs' where the table is read.
-/
import Derived.Test.YtfokmgogbjifbaaWi2
namespace Go.Proofs.Ytfokmgogbjifbaa
open Go.RowKit
set_option linter.unusedVariables false

def nameL : List (List UInt8) := [[78], [78, 98, 69], [78, 78, 69], [78, 69, 98, 78], [78, 69], [78, 69, 98, 69], [69, 78, 69], [69, 98, 78], [69], [69, 98, 83], [69, 83, 69], [83, 69, 98, 69], [83, 69], [83, 69, 98, 83], [83, 83, 69], [83, 98, 69],
  [83], [83, 98, 87], [83, 83, 87], [83, 87, 98, 83], [83, 87], [83, 87, 98, 87], [87, 83, 87], [87, 98, 83], [87], [87, 98, 78], [87, 78, 87], [78, 87, 98, 87], [78, 87], [78, 87, 98, 78], [78, 78, 87], [78, 98, 87]]
def nm (p : Nat) : ByteArray := ⟨(nameL.getD p []).toArray⟩
def nmE (n : Int) : Int := if pt n then 0 else 1
def nmV (n : Int) : ByteArray := if pt n then nm n.toNat else ⟨#[]⟩
theorem Across_302 (w : World) : Calls Try.prog 4 #[.int .i64 30, .int .i64 2] w fun e w' => e = .returned (.tuple #[.int .i64 4, .int .i64 0]) ∧ w = w' := by
  have h := Across_any 30 2 w
  rw [show acrV 30 2 = 4 by decide, show acrE 30 2 = 0 by decide] at h
  exact h
theorem Points_304 (w : World) : Calls Try.prog 11 #[.agg #[.int .i64 30, .int .i64 4]] w fun e w' => e = .returned (.tuple #[.int .i64 3221225475, .int .i64 0]) ∧ Below w.heap.size w w' := by
  have h := Points_any ⟨30, 4⟩ w
  rw [show arcV ⟨30, 4⟩ = 3221225475 by decide +kernel, show arcE ⟨30, 4⟩ = 0 by decide +kernel] at h
  exact h
/-! ### A day's winds -/
def vT (l : List Int) (k : Nat) : Int := if k = 0 then 0 else acr (l.getD (k - 1) 0) (l.getD k 0)
def vK (l : List Int) : Nat → Int
  | 0 => 0
  | k + 1 => vK l k + vT l k
theorem vK_le (l : List Int) : ∀ k : Nat, -(16 * (k : Int)) ≤ vK l k ∧ vK l k ≤ 16 * (k : Int)
  | 0 => by simp [vK]
  | k + 1 => by
    have := vK_le l k
    have : -16 ≤ vT l k ∧ vT l k ≤ 16 := by
      unfold vT
      split
      · omega
      · exact acr_le _ _
    rw [vK]
    omega
theorem vK_mod (l : List Int) : ∀ k : Nat, 0 < k → vK l k % 32 = (l.getD (k - 1) 0 - l.getD 0 0) % 32
  | 1, _ => by simp [vK, vT]
  | k + 2, _ => by
    have ih := vK_mod l (k + 1) (by omega)
    have h := acr_mod (l.getD k 0) (l.getD (k + 1) 0)
    rw [vK, vT, if_neg (by omega)]
    rw [show k + 2 - 1 = k + 1 by omega]
    simp only [Nat.add_sub_cancel] at ih ⊢
    omega
def veerE (l : List Int) : Int := if 60 < l.length then 3 else if l.all pt then 0 else 1
def veerV (l : List Int) : Int := if veerE l = 0 then vK l l.length else 0
theorem veerE_bad {l : List Int} (hn : ¬ 60 < l.length) {k : Nat} {d : Int} (hx : l[k]? = some d) (h : pt d = false) : veerE l = 1 := by
  unfold veerE
  rw [if_neg hn, if_neg]
  rw [Bool.not_eq_true, List.all_eq_false]
  exact ⟨d, List.mem_of_getElem? hx, by simp [h]⟩
theorem veerE_ok {l : List Int} (hn : ¬ 60 < l.length) (h : ∀ (j : Nat) d, j < l.length → l[j]? = some d → pt d = true) : veerE l = 0 := by
  unfold veerE
  rw [if_neg hn, if_pos]
  refine List.all_eq_true.2 fun p hp => ?_
  obtain ⟨j, hj, he⟩ := List.getElem_of_mem hp
  exact h j p hj (by rw [← he]; exact List.getElem?_eq_getElem hj)
theorem vT_at {l : List Int} {k : Nat} {a b : Int} (h0 : l[k]? = some a) (h1 : l[k + 1]? = some b) : vT l (k + 1) = acr a b := by
  simp [vT, h0, h1]
set_option maxRecDepth 4000 in
theorem Veer_any (A : Option Addr) (c : Nat) (l : List Int) (w : World) (hr : Rd w w.heap.size A (ints l)) (hn : l.length ≤ 9223372036854775807) :
    Calls Try.prog 13 #[.slice A l.length c] w fun e w' => e = .returned (.tuple #[.int .i64 (veerV l), .int .i64 (veerE l)]) ∧ ∃ n, w' = w.drewN n := by
  have HR := Lib.hid hr
  clear hr
  by_cases h8 : 60 < l.length
  · have hE : veerE l = 3 := if_pos h8
    have hV : veerV l = 0 := by unfold veerV; rw [hE]; rfl
    rw [hE, hV]
    have h8' : (60 : Int) < (l.length : Int) := by omega
    clear hE hV h8
    go_enter Try.func13, Try.ntmps13
    go_wp2
    go_ret2
    exact ⟨rfl, 0, rfl⟩
  · have H8 := Lib.hid h8
    have h8' : ¬ (60 : Int) < (l.length : Int) := by omega
    go_enter Try.func13, Try.ntmps13
    go_wp2
    clear h8'
    go_loopw [13] (fun i wr => ∃ k : Nat, k ≤ l.length ∧ i = .int .i64 k ∧ (∀ (j : Nat) d, j < k → l[j]? = some d → pt d = true) ∧ w = wr) (fun i _ => l.length - (intOf i).toNat)
    case atStart => exact ⟨0, by omega, rfl, fun j x hj => by omega, rfl⟩
    case round =>
      obtain ⟨k, hk, rfl, hall, rfl⟩ := hrel
      have HA := Lib.hid hall
      clear hall
      by_cases hlt : k < l.length
      · obtain ⟨b, o, d, rfl, hd, hc⟩ := HR.out.int k hlt
        have HX := Lib.hid (fun w => isPoint_any d w)
        obtain ⟨q, hq⟩ : ∃ q, pt d = q := ⟨_, rfl⟩
        rw [hq] at HX
        have HQ := Lib.hid hq
        clear hq
        cases q
        · go_wp2_with fail
          refine (HX.out _).mono ?_
          rintro e w' ⟨rfl, rfl⟩
          go_wp2_with fail
          have hE := veerE_bad H8.out hd.out HQ.out
          have hV : veerV l = 0 := by unfold veerV; rw [hE]; rfl
          rw [hE, hV]
          clear hE hV
          go_ret2
          exact ⟨rfl, 0, rfl⟩
        · go_wp2_with fail
          refine (HX.out _).mono ?_
          rintro e w' ⟨rfl, rfl⟩
          go_wp2_with fail
          go_roundw
          case rel => exact ⟨k + 1, by omega, by go_num, fun j x hj hx => by
            by_cases hjk : j = k
            · subst hjk
              have := hd.out.symm.trans hx
              cases this
              exact HQ.out
            · exact HA.out j x (by omega) hx, trivial⟩
          case measure => simp [intOf]; omega
      · have hks : k = l.length := by omega
        subst hks
        have HE := Lib.hid (veerE_ok H8.out HA.out)
        have HP := Lib.hid (fun (a b : Int) (w : World) => across_any a b w)
        clear h8
        go_wp2_with fail
        go_loopw [6, 7] (fun t i wr => ∃ k : Nat, k + 1 ≤ max 1 l.length ∧ i = .int .i64 ((k + 1 : Nat) : Int) ∧ t = .int .i64 (vK l (k + 1)) ∧ ∃ m, wr = w.drewN m) (fun _ i _ => l.length - (intOf i).toNat)
        case atStart => exact ⟨0, by omega, rfl, by simp [vK, vT], 0, rfl⟩
        case round =>
          obtain ⟨k, hk, rfl, rfl, m, rfl⟩ := hrel
          by_cases hlt : k + 1 < l.length
          · obtain ⟨b, o, d0, rfl, hd0, hc0⟩ := HR.out.int k (by omega)
            obtain ⟨b', o', d1, hbo, hd1, hc1⟩ := HR.out.int (k + 1) (by omega)
            cases hbo
            have hv := vT_at hd0.out hd1.out
            have HX := Lib.hid (fun w => HP.out d0 d1 w (HA.out k _ (by omega) hd0.out) (HA.out (k + 1) _ (by omega) hd1.out))
            have hle := vK_le l (k + 1)
            have hle2 := acr_le d0 d1
            have h60 : l.length ≤ 60 := by have := H8.out; omega
            have e1 : IntKind.i64.wrap (((k + 1 : Nat) : Int) - 1) = (k : Int) := by rw [IntKind.wrap_i64]; omega
            have e2 : IntKind.i64.wrap (vK l (k + 1) + acr d0 d1) = vK l (k + 1) + acr d0 d1 := by rw [IntKind.wrap_i64]; omega
            have b1 : (k : Int) < (l.length : Int) := by omega
            have b2 : ((k + 1 : Nat) : Int) < (l.length : Int) := by omega
            have HV := Lib.hid (show vK l (k + 1 + 1) = vK l (k + 1) + acr d0 d1 by rw [← hv]; rfl)
            generalize vK l (k + 1) = V at *
            generalize acr d0 d1 = X at *
            clear hv hle hle2 h60
            go_wp2_with fail
            go_quiet ((go_at_call 15; exact qs (HX.out _)))
            go_wp2_with fail
            go_roundw
            case rel => exact ⟨k + 1, by omega, by go_num, by rw [HV.out], _, rfl⟩
            case measure => simp [intOf]; omega
          · have hV : vK l (k + 1) = vK l l.length := by
              rcases Nat.eq_zero_or_pos l.length with h0 | h0
              · have : k = 0 := by omega
                subst this
                rw [h0]
                simp [vK, vT]
              · rw [show k + 1 = l.length by omega]
            have hV2 : veerV l = vK l l.length := if_pos HE.out
            have HV := Lib.hid hV
            have HW := Lib.hid hV2
            clear hV hV2
            go_wp2_with fail
            go_ret2
            exact ⟨by rw [HE.out, HW.out, HV.out]; rfl, _, rfl⟩
end Go.Proofs.Ytfokmgogbjifbaa
