/-
  Proofs of pages: the walk of the reference's proof, of Proof of both sides. Condition: the lists can be read.
-/
import Derived.Test.YtoenecgjiejljaaDoorBt6
import Derived.Deep.RegionHeld3
namespace Go.Proofs.YtoenecgjiejljaaDoor
open Go.RowKit
set_option linter.unusedVariables false

def Trv (w : World) : Prop := w.heap.size = w.heap.size
theorem trv (w : World) : Trv w := rfl
/-- What Proof returns. -/
def prE (l : List ByteArray) (i : Int) : Int := if vpE l = 0 then (if 0 ≤ i ∧ i < (l.length : Int) then 0 else 4) else vpE l
def prN (l : List ByteArray) (i : Int) : Nat := if prE l i = 0 then dpN i.toNat l.length else 0
def prL (l : List ByteArray) (i : Int) : List Int := if prE l i = 0 then pfL (smsL l) i.toNat else []
theorem pr_bad {l : List ByteArray} {i : Int} (h : prE l i ≠ 0) : prN l i = 0 ∧ prL l i = [] := ⟨if_neg h, if_neg h⟩
theorem pr_ok {l : List ByteArray} {i : Int} (h : prE l i = 0) : vpE l = 0 ∧ 0 ≤ i ∧ i < (l.length : Int) := by
  unfold prE at h
  split at h
  · rename_i hv
    split at h
    · rename_i h1
      exact ⟨hv, h1⟩
    · cases h
  · rename_i hv
    exact absurd h hv
theorem pr_len (l : List ByteArray) (i : Int) : (prL l i).length = prN l i := by
  unfold prL prN
  split
  · exact pf_len _ _ _ (smsL_len l)
  · rfl
set_option maxHeartbeats 1000000 in
theorem Proof_any (A : Option Addr) (c : Nat) (l : List ByteArray) (i : Int) (w : World) (hr : Rd w w.heap.size A (txts l)) (hs : Sz l) (hl : l.length ≤ 9223372036854775807) :
    Calls Tryd.prog 43 #[.slice A l.length c, .int .i64 i] w fun e w' => ∃ A' c', e = .returned (.tuple #[.slice A' (prN l i) c', .int .i64 (prE l i)]) ∧ prN l i ≤ c' ∧ Rd w' w'.heap.size A' (ints (prL l i)) ∧ Below w.heap.size w w' := by
  have HV := Lib.hid (Validate_any A c l w hr hs hl)
  by_cases hv : vpE l = 0
  case neg =>
    have HX := Lib.hid (show prE l i = vpE l from if_neg hv)
    have HY := Lib.hid (pr_bad (l := l) (i := i) (by rw [HX.out]; exact hv))
    have e1 : (vpE l != 0) = true := by simpa using hv
    rw [HX.out, HY.out.1, HY.out.2]
    generalize vpE l = E at *
    clear hv hr
    go_enter Tryd.func43, Tryd.ntmps43
    go_wp2_with fail
    refine (HV.out).mono ?_
    rintro e w' ⟨rfl, rfl⟩
    go_wp2_with fail
    go_ret2
    exact ⟨none, 0, rfl, Nat.le_refl _, Rd.nil_, Below.refl _ _⟩
  rw [hv] at HV
  have hE : prE l i = if 0 ≤ i ∧ i < (l.length : Int) then 0 else 4 := if_pos hv
  by_cases h1 : 0 ≤ i
  case neg =>
    have e1 : decide (i < 0) = true := decide_eq_true (by omega)
    have hE' : prE l i = 4 := by rw [hE, if_neg (by omega)]
    have HX := Lib.hid hE'
    have HY := Lib.hid (pr_bad (l := l) (i := i) (by rw [hE']; decide))
    rw [HX.out, HY.out.1, HY.out.2]
    clear hv hr h1 hE hE'
    go_enter Tryd.func43, Tryd.ntmps43
    go_wp2_with fail
    refine (HV.out).mono ?_
    rintro e w' ⟨rfl, rfl⟩
    go_wp2_with fail
    go_ret2
    exact ⟨none, 0, rfl, Nat.le_refl _, Rd.nil_, Below.refl _ _⟩
  have e1 : decide (i < 0) = false := decide_eq_false (by omega)
  obtain ⟨k, rfl⟩ : ∃ k : Nat, i = (k : Int) := ⟨i.toNat, by omega⟩
  by_cases h2 : k < l.length
  case neg =>
    have e2 : decide ((l.length : Int) ≤ (k : Int)) = true := decide_eq_true (by omega)
    have e2' : decide (l.length ≤ k) = true := decide_eq_true (by omega)
    have hE' : prE l (k : Int) = 4 := by rw [hE, if_neg (by omega)]
    have HX := Lib.hid hE'
    have HY := Lib.hid (pr_bad (l := l) (i := (k : Int)) (by rw [hE']; decide))
    rw [HX.out, HY.out.1, HY.out.2]
    clear hv hr h1 h2 hE hE'
    go_enter Tryd.func43, Tryd.ntmps43
    go_wp2_with fail
    refine (HV.out).mono ?_
    rintro e w' ⟨rfl, rfl⟩
    go_wp2_with fail
    go_ret2
    exact ⟨none, 0, rfl, Nat.le_refl _, Rd.nil_, Below.refl _ _⟩
  have e2 : decide ((l.length : Int) ≤ (k : Int)) = false := decide_eq_false (by omega)
  have e2' : decide (l.length ≤ k) = false := decide_eq_false (by omega)
  have h64 := (vpE_ok hv).1
  have hE' : prE l (k : Int) = 0 := by rw [hE, if_pos (by omega)]
  have HX := Lib.hid hE'
  have HY := Lib.hid (show prN l (k : Int) = dpN k l.length ∧ prL l (k : Int) = pfL (smsL l) k by unfold prN prL; rw [hE', if_pos rfl, if_pos rfl]; exact ⟨rfl, rfl⟩)
  have HS := Lib.hid (sumsOf_any A c l w hr hs h64)
  have HP := Lib.hid (fun A' c' w' h1 h3 => proofOf_any l.length (smsL l) A' c' w' k (smsL_len l) (by omega) h64 (smsL_sm l) h1 h3 h2)
  rw [HX.out, HY.out.1, HY.out.2]
  generalize dpN k l.length = d at *
  generalize pfL (smsL l) k = P at *
  clear hv hr h1 hE hE'
  go_enter Tryd.func43, Tryd.ntmps43
  go_wp2_with fail
  refine (HV.out).mono ?_
  rintro e w' ⟨rfl, rfl⟩
  go_wp2_with fail
  refine HS.out.mono ?_
  rintro e w1 ⟨A1, c1, rfl, hc1, hr1, hb⟩
  have B1 := Lib.hid hb
  have R1 := Lib.hid hr1
  clear hb hr1
  go_wp2_with fail
  refine (HP.out A1 c1 w1 hc1 R1.out).mono ?_
  rintro e w2 ⟨A2, c2, rfl, ho, hb⟩
  have B2 := Lib.hid (B1.out.trans (hb.mono B1.out.size))
  have O2 := Lib.hid ho
  clear hb ho
  go_wp2_with fail
  go_ret2
  exact ⟨A2, c2, rfl, by obtain ⟨_, _, h, hh⟩ := own_form O2.out; cases h; exact hh, Rd.of_own O2.out, B2.out⟩
end Go.Proofs.YtoenecgjiejljaaDoor
