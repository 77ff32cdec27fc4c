/-
  Common pages and Merge, both sides. Conditions: sizes; the tables that a row lists.
-/
import Derived.Test.YtoenecgjiejljaaDoorLwBh1
namespace Go.Proofs.YtoenecgjiejljaaDoor
open Go.RowKit
set_option linter.unusedVariables false
set_option maxHeartbeats 4000000 in
theorem common_any (A A' : Option Addr) (c c' : Nat) (a b : List ByteArray) (w : World) (hr : Rd w w.heap.size A (txts a)) (hr' : Rd w w.heap.size A' (txts b)) (hl : a.length ≤ 64) (hl' : b.length ≤ 64) :
    Calls Tryd.prog 103 #[.slice A a.length c, .slice A' b.length c'] w fun e w' => e = .returned (.int .i64 (cmN a b)) ∧ ∃ m, w' = w.drewN m := by
  have HR := Lib.hid hr
  have HR' := Lib.hid hr'
  have HO := Lib.hid (fun k h1 h2 => cm_of a b k h1 h2)
  clear hr hr'
  go_enter Tryd.func103, Tryd.ntmps103
  go_wp2_with fail
  go_loopw [5] (fun i wr => ∃ k : Nat, k ≤ a.length ∧ k ≤ b.length ∧ i = .int .i64 k ∧ (∀ j, j < k → a[j]? = b[j]? ∧ j < a.length) ∧ ∃ m, wr = w.drewN m) (fun i _ => a.length - (intOf i).toNat)
  case atStart => exact ⟨0, by omega, by omega, rfl, fun j hj => by omega, 0, rfl⟩
  case round =>
    obtain ⟨k, hk, hk', rfl, hall, m, rfl⟩ := hrel
    have HA := Lib.hid hall
    clear hall
    by_cases h1 : k < a.length
    case neg =>
      have e1 : decide ((k : Int) < (a.length : Int)) = false := decide_eq_false (by omega)
      have e1' : decide (k < a.length) = false := decide_eq_false h1
      have HX := Lib.hid (HO.out k HA.out (.inl (by omega)))
      clear h1
      go_wp2_with fail
      go_quiet (fail)
      go_wp2_with fail
      go_ret
      exact ⟨by rw [HX.out]; rfl, _, World.drewN_drewN _ _ _⟩
    have e1 : decide ((k : Int) < (a.length : Int)) = true := decide_eq_true (by omega)
    have e1' : decide (k < a.length) = true := decide_eq_true h1
    by_cases h2 : k < b.length
    case neg =>
      have e2 : decide ((k : Int) < (b.length : Int)) = false := decide_eq_false (by omega)
      have e2' : decide (k < b.length) = false := decide_eq_false h2
      have HX := Lib.hid (HO.out k HA.out (.inr (.inl (by omega))))
      clear h1 h2
      go_wp2_with fail
      go_quiet (fail)
      go_wp2_with fail
      go_ret
      exact ⟨by rw [HX.out]; rfl, _, World.drewN_drewN _ _ _⟩
    have e2 : decide ((k : Int) < (b.length : Int)) = true := decide_eq_true (by omega)
    have e2' : decide (k < b.length) = true := decide_eq_true h2
    obtain ⟨g1, o1, s, hA1, hx, hc⟩ := HR.out.txt k h1
    obtain ⟨g2, o2, t, hA2, hy, hc'⟩ := HR'.out.txt k h2
    subst hA1 hA2
    have b0 : (0 : Int) ≤ (k : Int) := by omega
    have b1 : (k : Int) < (a.length : Int) := by omega
    have b2 : (k : Int) < (b.length : Int) := by omega
    by_cases he : s = t
    case neg =>
      have e4 : (s.toList == t.toList) = false := by rw [bl_eqb]; exact decide_eq_false he
      have HX := Lib.hid (HO.out k HA.out (.inr (.inr (by rw [hx.out, hy.out]; intro e; injection e with e; exact he e))))
      clear he hx hy
      go_wp2_with fail
      go_quiet (fail)
      go_wp2_with fail
      go_ret
      exact ⟨by rw [HX.out]; rfl, _, World.drewN_drewN _ _ _⟩
    have e4 : (s.toList == t.toList) = true := by rw [bl_eqb, he]; simp
    have HN := Lib.hid (show ∀ j, j < k + 1 → a[j]? = b[j]? ∧ j < a.length from fun j hj => by
      rcases Nat.lt_or_ge j k with h | h
      · exact HA.out j h
      · obtain rfl : j = k := by omega
        exact ⟨by rw [hx.out, hy.out, he], h1⟩)
    clear he hx hy
    go_wp2_with fail
    go_quiet (fail)
    go_wp2_with fail
    go_roundw
    case rel => exact ⟨k + 1, by omega, by omega, by go_num, HN.out, _, rfl⟩
    case measure => simp [intOf]; omega
theorem cm_comm : ∀ (a b : List ByteArray), cmN a b = cmN b a
  | [], [] => rfl
  | [], _ :: _ => by simp [cmN]
  | _ :: _, [] => by simp [cmN]
  | s :: a, t :: b => by
    unfold cmN
    by_cases h : s = t
    · rw [if_pos h, if_pos h.symm, cm_comm a b]
    · rw [if_neg h, if_neg (fun e => h e.symm)]
/-- Whether a book is whole. -/
noncomputable def wlB (t : List UInt8) : Bool := !decide (((rdP t).length : Int) < rdN t) && decide (rdR t = [])
/-- What Merge returns. -/
noncomputable def mgO (s t : List UInt8) : List UInt8 × Int × Int :=
  if rdE s ≠ 0 then ([], 0, rdE s) else if rdE t ≠ 0 then ([], 0, rdE t)
  else if (wlB s && wlB t) = false then ([], 0, 9)
  else if cmN ((rdP s).map sL) ((rdP t).map sL) < (rdP s).length ∧ cmN ((rdP s).map sL) ((rdP t).map sL) < (rdP t).length then ([], (cmN ((rdP s).map sL) ((rdP t).map sL) : Int), 7)
  else if (rdP s).length < (rdP t).length then (t, ((rdP t).length : Int), 0) else (s, ((rdP s).length : Int), 0)
theorem mg_e1 {s t : List UInt8} (h : rdE s ≠ 0) : mgO s t = ([], 0, rdE s) := if_pos h
theorem mg_e2 {s t : List UInt8} (h : rdE s = 0) (h2 : rdE t ≠ 0) : mgO s t = ([], 0, rdE t) := by
  unfold mgO; rw [if_neg (by rw [h]; simp), if_pos h2]
theorem mg_e3 {s t : List UInt8} (h : rdE s = 0) (h2 : rdE t = 0) (h3 : (wlB s && wlB t) = false) : mgO s t = ([], 0, 9) := by
  unfold mgO; rw [if_neg (by rw [h]; simp), if_neg (by rw [h2]; simp), if_pos h3]
theorem mg_rest {s t : List UInt8} (h : rdE s = 0) (h2 : rdE t = 0) (h3 : (wlB s && wlB t) = true) : mgO s t =
    (if cmN ((rdP s).map sL) ((rdP t).map sL) < (rdP s).length ∧ cmN ((rdP s).map sL) ((rdP t).map sL) < (rdP t).length then ([], (cmN ((rdP s).map sL) ((rdP t).map sL) : Int), 7)
    else if (rdP s).length < (rdP t).length then (t, ((rdP t).length : Int), 0) else (s, ((rdP s).length : Int), 0)) := by
  unfold mgO; rw [if_neg (by rw [h]; simp), if_neg (by rw [h2]; simp), if_neg (by rw [h3]; simp)]
/-- What Merge says does not hang on the order, where both can be read. -/
theorem mg_swap {s t : List UInt8} (h : rdE s = 0) (h2 : rdE t = 0) : ((mgO s t).2.2 = 0 ∨ (mgO s t).2.2 = 7 → (mgO s t).2.1 = (mgO t s).2.1 ∧ (mgO s t).2.2 = (mgO t s).2.2) := by
  intro h9
  by_cases h3 : (wlB s && wlB t) = true
  · have h3' : (wlB t && wlB s) = true := by rw [Bool.and_comm]; exact h3
    have hl := cm_le ((rdP s).map sL) ((rdP t).map sL)
    rw [List.length_map, List.length_map] at hl
    rw [mg_rest h h2 h3, mg_rest h2 h h3', cm_comm ((rdP t).map sL)]
    generalize cmN ((rdP s).map sL) ((rdP t).map sL) = k at *
    by_cases h4 : k < (rdP s).length ∧ k < (rdP t).length
    · rw [if_pos h4, if_pos (And.comm.1 h4)]
      exact ⟨rfl, rfl⟩
    · rw [if_neg h4, if_neg (fun e => h4 (And.comm.1 e))]
      by_cases h5 : (rdP s).length < (rdP t).length
      · rw [if_pos h5, if_neg (by omega)]
        exact ⟨rfl, rfl⟩
      · rw [if_neg h5]
        by_cases h6 : (rdP t).length < (rdP s).length
        · rw [if_pos h6]
          exact ⟨rfl, rfl⟩
        · rw [if_neg h6]
          exact ⟨by show ((rdP s).length : Int) = ((rdP t).length : Int); omega, rfl⟩
  · have h3f : (wlB s && wlB t) = false := by simpa using h3
    rw [mg_e3 h h2 h3f] at h9
    simp at h9
theorem rdN_nn {t : List UInt8} (h : rdE t = 0) : (0 : Int) ≤ rdN t ∧ rdN t ≤ 64 := by
  unfold rdN
  rw [if_pos h]
  cases h1 : rdH t with
  | none => rw [rd_none h1] at h; simp at h
  | some q =>
    obtain ⟨⟨n, x⟩, r⟩ := q
    have := rdH_64 h1
    simp only
    omega
theorem sL_nil {r : List UInt8} : ((sL r).toList == ([] : List UInt8)) = decide (r = []) := by
  cases r with
  | nil => simp [sL]
  | cons a r => simp [sL]
end Go.Proofs.YtoenecgjiejljaaDoor
