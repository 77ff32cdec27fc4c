/-
  Proofs of pages: the walk of the reference's proof, of Proof of both sides. Condition: the lists can be read.
-/
import Derived.Test.YtklhjiagkkhldaaBt6
import Derived.Deep.RegionHeld3
namespace Go.Proofs.Ytklhjiagkkhldaa
open Go.RowKit
set_option linter.unusedVariables false

def Trv (w : World) : Prop := w.heap.size = w.heap.size
theorem trv (w : World) : Trv w := rfl
set_option maxRecDepth 4000 in
set_option maxHeartbeats 4000000 in
theorem proof_any : ∀ (n : Nat) (l : List Int) (A : Option Addr) (c : Nat) (w : World) (i : Nat), l.length = n → 1 ≤ n → n ≤ 64 → AllSm l → n ≤ c → Rd w w.heap.size A (ints l) → i < n →
    Calls Try.prog 57 #[.slice A n c, .int .i64 i] w fun e w' => ∃ A' c', e = .returned (.slice A' (dpN i n) c') ∧ w'.ownsRow w.heap.size 3 1 (.slice A' (dpN i n) c') (dpN i n) (ints (pfL l i)) ∧ Below w.heap.size w w' := by
  intro n
  induction n using Nat.strongRecOn with
  | _ n ih =>
    intro l A c w i hl h1 h64 hs hc hr hin
    by_cases hn : n < 2
    · have HX := Lib.hid (show dpN i n = 0 ∧ pfL l i = [] from ⟨dp_one (by omega), pf_one (by omega)⟩)
      have e1 : decide ((n : Int) < 2) = true := decide_eq_true (by omega)
      have e1' : decide (n < 2) = true := decide_eq_true hn
      rw [HX.out.1, HX.out.2]
      clear ih hr hn
      go_enter Try.func57, Try.ntmps57
      go_wp2_with fail
      go_ret
      exact ⟨none, 0, rfl, World.ownsRow_nil _ _ _ _, Below.refl _ _⟩
    have e0 : decide ((n : Int) < 2) = false := decide_eq_false (by omega)
    have e0' : decide (n < 2) = false := decide_eq_false hn
    obtain ⟨b, o, rfl⟩ := hr.some_ (by omega)
    have hsp := sp_lt (n := n) (by omega)
    have HH := Lib.hid (rsplit_any n w (by omega) h64)
    have rt_ : Rd w w.heap.size (some ⟨b, o, none⟩) (ints (l.take (spN n))) := by have := hr.take (spN n); rw [ints_take] at this; exact this
    have rd_ : Rd w w.heap.size (some ⟨b, o + spN n, none⟩) (ints (l.drop (spN n))) := by have := hr.drop_ (spN n); rw [ints_drop] at this; exact this
    by_cases hi : i < spN n
    · have HX := Lib.hid (show pfL l i = pfL (l.take (spN n)) i ++ [rt (l.drop (spN n))] by have := pf_left (l := l) (i := i) (by omega) (by rw [hl]; omega); rw [hl] at this; exact this)
      have HD := Lib.hid (show dpN i n = dpN i (spN n) + 1 from dp_left (by omega) (by omega))
      have H1 := Lib.hid (fun w' (hr' : Rd w' w'.heap.size _ (ints (l.take (spN n)))) => ih (spN n) (by omega) (l.take (spN n)) (some ⟨b, o, none⟩) c w' i (by first | (rw [List.length_take]; omega) | (rw [List.length_drop]; omega)) (by omega) (by omega) (hs.take _) (by omega) hr' (by omega))
      have H2 := Lib.hid (fun w' (hr' : Rd w' w'.heap.size _ (ints (l.drop (spN n)))) => root_any (n - spN n) (l.drop (spN n)) (some ⟨b, o + spN n, none⟩) (c - spN n) w' (by first | (rw [List.length_take]; omega) | (rw [List.length_drop]; omega)) (by omega) (hs.drop _) (by omega) hr')
      have HR1 := Lib.hid rt_
      have HR2 := Lib.hid rd_
      have hle := dp_le (spN n) i
      generalize pfL (l.take (spN n)) i = P at *
      generalize rt (l.drop (spN n)) = y at *
      generalize (l.drop (spN n)) = O at *
      generalize (l.take (spN n)) = Fi at *
      generalize dpN i (spN n) = d at *
      generalize spN n = k at *
      have e1 : decide ((i : Int) < (k : Int)) = true := decide_eq_true (by omega)
      have e1' : decide (i < k) = true := decide_eq_true hi
      have b0 : (0 : Int) ≤ (k : Int) := by omega
      have b1 : (k : Int) ≤ (c : Int) := by omega
      have b2 : (k : Int) ≤ (n : Int) := by omega
      have b3 : k ≤ c := by omega
      have b4 : k ≤ n := by omega
      have b5 : (n : Int) ≤ (c : Int) := by omega
      have b6 : ¬ (c = k) := by omega
      have HP1 := Lib.hid (H1.out w.drew HR1.out)
      clear ih hr rt_ rd_ H1
      go_enter Try.func57, Try.ntmps57
      go_wp2_with fail
      refine HH.out.mono ?_
      rintro e w' ⟨rfl, rfl⟩
      go_wp2_with fail
      go_region_held3 (fun w' => Trv w') (exact trv _) ((first
        | (go_at_call 57; refine HP1.out.mono ?_; rintro e w1 ⟨A1, c1, rfl, ho, hb⟩; have O1 := Lib.hid (show w1.ownsRow w.heap.size 3 1 (.slice A1 d c1) d (ints P) from ho); have B1 := Lib.hid (show Below w.heap.size w w1 from ((Below.refl w.heap.size w).drew).trans hb); clear ho hb)
        | (go_at_call 54; refine (H2.out w1 (HR2.out.upb B1.out)).mono ?_; rintro e w' ⟨rfl, m2, rfl⟩; have B2 := Lib.hid (bdDN B1.out m2); have O2 := Lib.hid (own_drewN O1.out m2); generalize w1.drewN m2 = w2 at *)
        | ((refine step_app eIntB rfl (.tmp 19) (.tmp 24) rfl rfl (w0 := w) (O2.out.alloc _) (B2.out.alloc B2.out.size (.cells #[.int .i64 y] 3)) (size_alloc' B2.out.size _) rfl (Rd.one w2 (.int .i64 y) 3 (Nat.lt_succ_self _)) (by simp) (ints_one [y]) (d + 1) rfl (by omega) ?_); intro A8 c8 w8 o8 b8 g8 h8; have HB8 := Lib.hid b8; have HO8 := Lib.hid o8; clear o8 b8 g8 h8)
        | fail))
      all_goals (
        go_wp2_with fail
        go_ret
        exact ⟨A8, c8, by rw [HD.out]; rfl, by rw [HD.out, HX.out, ints_append]; exact HO8.out, HB8.out⟩)
    · have HX := Lib.hid (show pfL l i = pfL (l.drop (spN n)) (i - spN n) ++ [rt (l.take (spN n))] by have := pf_right (l := l) (i := i) (by omega) (by rw [hl]; omega); rw [hl] at this; exact this)
      have HD := Lib.hid (show dpN i n = dpN (i - spN n) (n - spN n) + 1 from dp_right (by omega) (by omega))
      have H1 := Lib.hid (fun w' (hr' : Rd w' w'.heap.size _ (ints (l.drop (spN n)))) => ih (n - spN n) (by omega) (l.drop (spN n)) (some ⟨b, o + spN n, none⟩) (c - spN n) w' (i - spN n) (by first | (rw [List.length_take]; omega) | (rw [List.length_drop]; omega)) (by omega) (by omega) (hs.drop _) (by omega) hr' (by omega))
      have H2 := Lib.hid (fun w' (hr' : Rd w' w'.heap.size _ (ints (l.take (spN n)))) => root_any (spN n) (l.take (spN n)) (some ⟨b, o, none⟩) c w' (by first | (rw [List.length_take]; omega) | (rw [List.length_drop]; omega)) (by omega) (hs.take _) (by omega) hr')
      have HR1 := Lib.hid rd_
      have HR2 := Lib.hid rt_
      have hle := dp_le (n - spN n) (i - spN n)
      generalize pfL (l.drop (spN n)) (i - spN n) = P at *
      generalize rt (l.take (spN n)) = y at *
      generalize (l.take (spN n)) = O at *
      generalize (l.drop (spN n)) = Fi at *
      generalize dpN (i - spN n) (n - spN n) = d at *
      generalize spN n = k at *
      have e1 : decide ((i : Int) < (k : Int)) = false := decide_eq_false (by omega)
      have e1' : decide (i < k) = false := decide_eq_false hi
      have b0 : (0 : Int) ≤ (k : Int) := by omega
      have b1 : (k : Int) ≤ (c : Int) := by omega
      have b2 : (k : Int) ≤ (n : Int) := by omega
      have b3 : k ≤ c := by omega
      have b4 : k ≤ n := by omega
      have b5 : (n : Int) ≤ (c : Int) := by omega
      have b6 : ¬ (c = k) := by omega
      have q1 : IntKind.i64.wrap ((i : Int) - (k : Int)) = ((i - k : Nat) : Int) := by rw [IntKind.wrap_i64]; omega
      have q2 : wrap64 ((i : Int) - (k : Int)) = ((i - k : Nat) : Int) := by unfold wrap64; omega
      have HP1 := Lib.hid (H1.out w.drew HR1.out)
      clear ih hr rt_ rd_ H1
      go_enter Try.func57, Try.ntmps57
      go_wp2_with fail
      refine HH.out.mono ?_
      rintro e w' ⟨rfl, rfl⟩
      go_wp2_with fail
      go_region_held3 (fun w' => Trv w') (exact trv _) ((first
        | (go_at_call 57; refine HP1.out.mono ?_; rintro e w1 ⟨A1, c1, rfl, ho, hb⟩; have O1 := Lib.hid (show w1.ownsRow w.heap.size 3 1 (.slice A1 d c1) d (ints P) from ho); have B1 := Lib.hid (show Below w.heap.size w w1 from ((Below.refl w.heap.size w).drew).trans hb); clear ho hb)
        | (go_at_call 54; refine (H2.out w1 (HR2.out.upb B1.out)).mono ?_; rintro e w' ⟨rfl, m2, rfl⟩; have B2 := Lib.hid (bdDN B1.out m2); have O2 := Lib.hid (own_drewN O1.out m2); generalize w1.drewN m2 = w2 at *)
        | ((refine step_app eIntB rfl (.tmp 32) (.tmp 37) rfl rfl (w0 := w) (O2.out.alloc _) (B2.out.alloc B2.out.size (.cells #[.int .i64 y] 3)) (size_alloc' B2.out.size _) rfl (Rd.one w2 (.int .i64 y) 3 (Nat.lt_succ_self _)) (by simp) (ints_one [y]) (d + 1) rfl (by omega) ?_); intro A8 c8 w8 o8 b8 g8 h8; have HB8 := Lib.hid b8; have HO8 := Lib.hid o8; clear o8 b8 g8 h8)
        | fail))
      all_goals (
        go_wp2_with fail
        go_ret
        exact ⟨A8, c8, by rw [HD.out]; rfl, by rw [HD.out, HX.out, ints_append]; exact HO8.out, HB8.out⟩)
/-- What Proof returns. -/
def prE (l : List ByteArray) (i : Int) : Int := if vpE l = 0 then (if 0 ≤ i ∧ i < (l.length : Int) then 0 else 4) else vpE l
def prN (l : List ByteArray) (i : Int) : Nat := if prE l i = 0 then dpN i.toNat l.length else 0
def prL (l : List ByteArray) (i : Int) : List Int := if prE l i = 0 then pfL (smsL l) i.toNat else []
theorem pr_bad {l : List ByteArray} {i : Int} (h : prE l i ≠ 0) : prN l i = 0 ∧ prL l i = [] := ⟨if_neg h, if_neg h⟩
theorem pr_ok {l : List ByteArray} {i : Int} (h : prE l i = 0) : vpE l = 0 ∧ 0 ≤ i ∧ i < (l.length : Int) := by
  unfold prE at h
  split at h
  · rename_i hv
    split at h
    · rename_i h1
      exact ⟨hv, h1⟩
    · cases h
  · rename_i hv
    exact absurd h hv
theorem pr_len (l : List ByteArray) (i : Int) : (prL l i).length = prN l i := by
  unfold prL prN
  split
  · exact pf_len _ _ _ (smsL_len l)
  · rfl
set_option maxHeartbeats 1000000 in
theorem Proof_any (A : Option Addr) (c : Nat) (l : List ByteArray) (i : Int) (w : World) (hr : Rd w w.heap.size A (txts l)) (hs : Sz l) (hl : l.length ≤ 9223372036854775807) :
    Calls Try.prog 26 #[.slice A l.length c, .int .i64 i] w fun e w' => ∃ A' c', e = .returned (.tuple #[.slice A' (prN l i) c', .int .i64 (prE l i)]) ∧ prN l i ≤ c' ∧ Rd w' w'.heap.size A' (ints (prL l i)) ∧ Below w.heap.size w w' := by
  have HV := Lib.hid (Validate_any A c l w hr hs hl)
  by_cases hv : vpE l = 0
  case neg =>
    have HX := Lib.hid (show prE l i = vpE l from if_neg hv)
    have HY := Lib.hid (pr_bad (l := l) (i := i) (by rw [HX.out]; exact hv))
    have e1 : (vpE l != 0) = true := by simpa using hv
    rw [HX.out, HY.out.1, HY.out.2]
    generalize vpE l = E at *
    clear hv hr
    go_enter Try.func26, Try.ntmps26
    go_wp2_with fail
    refine (HV.out).mono ?_
    rintro e w' ⟨rfl, rfl⟩
    go_wp2_with fail
    go_ret2
    exact ⟨none, 0, rfl, Nat.le_refl _, Rd.nil_, Below.refl _ _⟩
  rw [hv] at HV
  have hE : prE l i = if 0 ≤ i ∧ i < (l.length : Int) then 0 else 4 := if_pos hv
  by_cases h1 : 0 ≤ i
  case neg =>
    have e1 : decide (i < 0) = true := decide_eq_true (by omega)
    have hE' : prE l i = 4 := by rw [hE, if_neg (by omega)]
    have HX := Lib.hid hE'
    have HY := Lib.hid (pr_bad (l := l) (i := i) (by rw [hE']; decide))
    rw [HX.out, HY.out.1, HY.out.2]
    clear hv hr h1 hE hE'
    go_enter Try.func26, Try.ntmps26
    go_wp2_with fail
    refine (HV.out).mono ?_
    rintro e w' ⟨rfl, rfl⟩
    go_wp2_with fail
    go_ret2
    exact ⟨none, 0, rfl, Nat.le_refl _, Rd.nil_, Below.refl _ _⟩
  have e1 : decide (i < 0) = false := decide_eq_false (by omega)
  obtain ⟨k, rfl⟩ : ∃ k : Nat, i = (k : Int) := ⟨i.toNat, by omega⟩
  by_cases h2 : k < l.length
  case neg =>
    have e2 : decide ((l.length : Int) ≤ (k : Int)) = true := decide_eq_true (by omega)
    have e2' : decide (l.length ≤ k) = true := decide_eq_true (by omega)
    have hE' : prE l (k : Int) = 4 := by rw [hE, if_neg (by omega)]
    have HX := Lib.hid hE'
    have HY := Lib.hid (pr_bad (l := l) (i := (k : Int)) (by rw [hE']; decide))
    rw [HX.out, HY.out.1, HY.out.2]
    clear hv hr h1 h2 hE hE'
    go_enter Try.func26, Try.ntmps26
    go_wp2_with fail
    refine (HV.out).mono ?_
    rintro e w' ⟨rfl, rfl⟩
    go_wp2_with fail
    go_ret2
    exact ⟨none, 0, rfl, Nat.le_refl _, Rd.nil_, Below.refl _ _⟩
  have e2 : decide ((l.length : Int) ≤ (k : Int)) = false := decide_eq_false (by omega)
  have e2' : decide (l.length ≤ k) = false := decide_eq_false (by omega)
  have h64 := (vpE_ok hv).1
  have hE' : prE l (k : Int) = 0 := by rw [hE, if_pos (by omega)]
  have HX := Lib.hid hE'
  have HY := Lib.hid (show prN l (k : Int) = dpN k l.length ∧ prL l (k : Int) = pfL (smsL l) k by unfold prN prL; rw [hE', if_pos rfl, if_pos rfl]; exact ⟨rfl, rfl⟩)
  have HS := Lib.hid (sumsOf_any A c l w hr hs h64)
  have HP := Lib.hid (fun A' c' w' h1 h3 => proofOf_any l.length (smsL l) A' c' w' k (smsL_len l) (by omega) h64 (smsL_sm l) h1 h3 h2)
  rw [HX.out, HY.out.1, HY.out.2]
  generalize dpN k l.length = d at *
  generalize pfL (smsL l) k = P at *
  clear hv hr h1 hE hE'
  go_enter Try.func26, Try.ntmps26
  go_wp2_with fail
  refine (HV.out).mono ?_
  rintro e w' ⟨rfl, rfl⟩
  go_wp2_with fail
  refine HS.out.mono ?_
  rintro e w1 ⟨A1, c1, rfl, hc1, hr1, hb⟩
  have B1 := Lib.hid hb
  have R1 := Lib.hid hr1
  clear hb hr1
  go_wp2_with fail
  refine (HP.out A1 c1 w1 hc1 R1.out).mono ?_
  rintro e w2 ⟨A2, c2, rfl, ho, hb⟩
  have B2 := Lib.hid (B1.out.trans (hb.mono B1.out.size))
  have O2 := Lib.hid ho
  clear hb ho
  go_wp2_with fail
  go_ret2
  exact ⟨A2, c2, rfl, by obtain ⟨_, _, h, hh⟩ := own_form O2.out; cases h; exact hh, Rd.of_own O2.out, B2.out⟩
set_option maxHeartbeats 1000000 in
theorem rProof_any (A : Option Addr) (c : Nat) (l : List ByteArray) (i : Int) (w : World) (hr : Rd w w.heap.size A (txts l)) (hs : Sz l) (hl : l.length ≤ 9223372036854775807) :
    Calls Try.prog 27 #[.slice A l.length c, .int .i64 i] w fun e w' => ∃ A' c', e = .returned (.tuple #[.slice A' (prN l i) c', .int .i64 (prE l i)]) ∧ prN l i ≤ c' ∧ Rd w' w'.heap.size A' (ints (prL l i)) ∧ Below w.heap.size w w' := by
  have HV := Lib.hid (rValidate_any A c l w hr hs hl)
  by_cases hv : vpE l = 0
  case neg =>
    have HX := Lib.hid (show prE l i = vpE l from if_neg hv)
    have HY := Lib.hid (pr_bad (l := l) (i := i) (by rw [HX.out]; exact hv))
    have e1 : (vpE l != 0) = true := by simpa using hv
    rw [HX.out, HY.out.1, HY.out.2]
    generalize vpE l = E at *
    clear hv hr
    go_enter Try.func27, Try.ntmps27
    go_wp2_with fail
    refine (HV.out).mono ?_
    rintro e w' ⟨rfl, rfl⟩
    go_wp2_with fail
    go_ret2
    exact ⟨none, 0, rfl, Nat.le_refl _, Rd.nil_, Below.refl _ _⟩
  rw [hv] at HV
  have hE : prE l i = if 0 ≤ i ∧ i < (l.length : Int) then 0 else 4 := if_pos hv
  by_cases h1 : 0 ≤ i
  case neg =>
    have e1 : decide (i < 0) = true := decide_eq_true (by omega)
    have hE' : prE l i = 4 := by rw [hE, if_neg (by omega)]
    have HX := Lib.hid hE'
    have HY := Lib.hid (pr_bad (l := l) (i := i) (by rw [hE']; decide))
    rw [HX.out, HY.out.1, HY.out.2]
    clear hv hr h1 hE hE'
    go_enter Try.func27, Try.ntmps27
    go_wp2_with fail
    refine (HV.out).mono ?_
    rintro e w' ⟨rfl, rfl⟩
    go_wp2_with fail
    go_ret2
    exact ⟨none, 0, rfl, Nat.le_refl _, Rd.nil_, Below.refl _ _⟩
  have e1 : decide (i < 0) = false := decide_eq_false (by omega)
  obtain ⟨k, rfl⟩ : ∃ k : Nat, i = (k : Int) := ⟨i.toNat, by omega⟩
  by_cases h2 : k < l.length
  case neg =>
    have e2 : decide ((l.length : Int) ≤ (k : Int)) = true := decide_eq_true (by omega)
    have e2' : decide (l.length ≤ k) = true := decide_eq_true (by omega)
    have hE' : prE l (k : Int) = 4 := by rw [hE, if_neg (by omega)]
    have HX := Lib.hid hE'
    have HY := Lib.hid (pr_bad (l := l) (i := (k : Int)) (by rw [hE']; decide))
    rw [HX.out, HY.out.1, HY.out.2]
    clear hv hr h1 h2 hE hE'
    go_enter Try.func27, Try.ntmps27
    go_wp2_with fail
    refine (HV.out).mono ?_
    rintro e w' ⟨rfl, rfl⟩
    go_wp2_with fail
    go_ret2
    exact ⟨none, 0, rfl, Nat.le_refl _, Rd.nil_, Below.refl _ _⟩
  have e2 : decide ((l.length : Int) ≤ (k : Int)) = false := decide_eq_false (by omega)
  have e2' : decide (l.length ≤ k) = false := decide_eq_false (by omega)
  have h64 := (vpE_ok hv).1
  have hE' : prE l (k : Int) = 0 := by rw [hE, if_pos (by omega)]
  have HX := Lib.hid hE'
  have HY := Lib.hid (show prN l (k : Int) = dpN k l.length ∧ prL l (k : Int) = pfL (smsL l) k by unfold prN prL; rw [hE', if_pos rfl, if_pos rfl]; exact ⟨rfl, rfl⟩)
  have HS := Lib.hid (leaves_any A c l w hr hs h64)
  have HP := Lib.hid (fun A' c' w' h1 h3 => proof_any l.length (smsL l) A' c' w' k (smsL_len l) (by omega) h64 (smsL_sm l) h1 h3 h2)
  rw [HX.out, HY.out.1, HY.out.2]
  generalize dpN k l.length = d at *
  generalize pfL (smsL l) k = P at *
  clear hv hr h1 hE hE'
  go_enter Try.func27, Try.ntmps27
  go_wp2_with fail
  refine (HV.out).mono ?_
  rintro e w' ⟨rfl, rfl⟩
  go_wp2_with fail
  refine HS.out.mono ?_
  rintro e w1 ⟨A1, c1, rfl, hc1, hr1, hb⟩
  have B1 := Lib.hid hb
  have R1 := Lib.hid hr1
  clear hb hr1
  go_wp2_with fail
  refine (HP.out A1 c1 w1 hc1 R1.out).mono ?_
  rintro e w2 ⟨A2, c2, rfl, ho, hb⟩
  have B2 := Lib.hid (B1.out.trans (hb.mono B1.out.size))
  have O2 := Lib.hid ho
  clear hb ho
  go_wp2_with fail
  go_ret2
  exact ⟨A2, c2, rfl, by obtain ⟨_, _, h, hh⟩ := own_form O2.out; cases h; exact hh, Rd.of_own O2.out, B2.out⟩
end Go.Proofs.Ytklhjiagkkhldaa
