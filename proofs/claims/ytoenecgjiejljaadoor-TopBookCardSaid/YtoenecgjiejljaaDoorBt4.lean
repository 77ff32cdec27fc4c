/-
  Lists of pages and of sums: the walks of ValidatePages, sumsOf, halves, rootOf, Root of both sides, Long, many. Condition: the lists can be read.
-/
import Derived.Test.YtoenecgjiejljaaDoorBt3
import Derived.Laws.AppendOwnNone
import Derived.Deep.QuietTactic
import Derived.BigQuiet
import Derived.Lib.Hide
namespace Go.Proofs.YtoenecgjiejljaaDoor
open Go.RowKit
set_option linter.unusedVariables false

theorem eIntB : Elem Tryd.prog 53 3 (.int .i64 0) 1 8 := ⟨Tryd.underlying53, by kernel_rfl, rfl, by decide, by decide⟩
theorem Rd.upb {w w' : World} {A : Option Addr} {xs : List Value} (h : Rd w w.heap.size A xs) (hb : Below w.heap.size w w') : Rd w' w'.heap.size A xs := (h.below hb (Nat.le_refl _)).more hb.size
theorem Rd.drop_ {w : World} {B b o : Nat} {xs : List Value} (h : Rd w B (some ⟨b, o, none⟩) xs) (k : Nat) : Rd w B (some ⟨b, o + k, none⟩) (xs.drop k) := by
  rcases h with rfl | ⟨b', o', ha, hb, hc⟩
  · exact .inl (by simp)
  · cases ha
    refine .inr ⟨_, _, rfl, hb, fun i u hu => ?_⟩
    rw [List.getElem?_drop] at hu
    rw [Nat.add_assoc]
    exact hc _ u hu
theorem ints_take (l : List Int) (k : Nat) : (ints l).take k = ints (l.take k) := by simp [ints, List.map_take]
theorem ints_drop (l : List Int) (k : Nat) : (ints l).drop k = ints (l.drop k) := by simp [ints, List.map_drop]
theorem Rd.some_ {w : World} {B : Nat} {A : Option Addr} {l : List Int} (h : Rd w B A (ints l)) (hl : 1 ≤ l.length) : ∃ b o, A = some ⟨b, o, none⟩ := by
  obtain ⟨b, o, d, ha, _, _⟩ := h.int 0 (by omega)
  exact ⟨b, o, ha⟩
theorem bdDN {B : Nat} {w w' : World} (h : Below B w w') (m : Nat) : Below B w (w'.drewN m) := ⟨h.os, h.tape, h.output, h.size, h.block⟩
theorem qmB {P : Program} {f : FuncId} {args : Array Value} {w : World} {n : Nat} {v : Value} (h : Calls P f args (w.drewN n) fun e w' => e = .returned v ∧ ∃ m, w' = (w.drewN n).drewN m) :
    Calls P f args (w.drewN n) fun e w'' => e = .returned v ∧ ∃ m, w'' = w.drewN m := h.mono fun _ _ ⟨he, m, hm⟩ => ⟨he, n + m, by rw [hm, World.drewN_drewN]⟩
set_option maxHeartbeats 1000000 in
theorem halves_any (b o n c : Nat) (h2 : 2 ≤ n) (h64 : n ≤ 64) (hc : n ≤ c) (w : World) :
    Calls Tryd.prog 132 #[.slice (some ⟨b, o, none⟩) n c] w fun e w' => e = .returned (.tuple #[.slice (some ⟨b, o, none⟩) (spN n) c, .slice (some ⟨b, o + spN n, none⟩) (n - spN n : Nat) (c - spN n)]) ∧ ∃ m, w' = w.drewN m := by
  have HS := Lib.hid (split_any n w h2 h64)
  have hs := sp_lt h2
  generalize spN n = k at *
  have b0 : (0 : Int) ≤ (k : Int) := by omega
  have b1 : (k : Int) ≤ (c : Int) := by omega
  have b2 : (k : Int) ≤ (n : Int) := by omega
  have b3 : k ≤ c := by omega
  have b4 : k ≤ n := by omega
  have b5 : (n : Int) ≤ (c : Int) := by omega
  have HN := Lib.hid (show ((n - k : Nat) : Int) = (n : Int) - (k : Int) by omega)
  go_enter Tryd.func132, Tryd.ntmps132
  go_wp2_with fail
  refine (HS.out).mono ?_
  rintro e w' ⟨rfl, rfl⟩
  go_wp2_with fail
  go_quiet (fail)
  go_wp2_with fail
  go_ret2
  exact ⟨rfl, _, rfl⟩
set_option maxHeartbeats 2000000 in
theorem Validate_any (A : Option Addr) (c : Nat) (l : List ByteArray) (w : World) (hr : Rd w w.heap.size A (txts l)) (hs : Sz l) (hl : l.length ≤ 9223372036854775807) :
    Calls Tryd.prog 87 #[.slice A l.length c] w fun e w' => e = .returned (.int .i64 (vpE l)) ∧ w = w' := by
  have HR := Lib.hid hr
  have HS := Lib.hid hs
  clear hr hs
  by_cases h6 : 64 < l.length
  · have HX := Lib.hid (show vpE l = 3 from if_pos h6)
    have e1 : decide ((64 : Int) < (l.length : Int)) = true := decide_eq_true (by omega)
    have e2 : decide (64 < l.length) = true := decide_eq_true h6
    clear h6
    go_enter Tryd.func87, Tryd.ntmps87
    go_wp2_with fail
    go_ret
    exact ⟨by rw [HX.out]; rfl, rfl⟩
  · have HX := Lib.hid (show vpE l = if l.all pgB = true then 0 else 1 from if_neg h6)
    have e1 : decide ((64 : Int) < (l.length : Int)) = false := decide_eq_false (by omega)
    have e2 : decide (64 < l.length) = false := decide_eq_false h6
    have h6' : l.length ≤ 64 := by omega
    clear h6
    go_enter Tryd.func87, Tryd.ntmps87
    go_wp2_with fail
    clear e1 e2
    go_loop [10] (fun i => ∃ k : Nat, k ≤ l.length ∧ i = .int .i64 k ∧ (l.take k).all pgB = true) (fun i => l.length - (intOf i).toNat)
    case atStart => exact ⟨0, by omega, rfl, by simp⟩
    case round =>
      obtain ⟨k, hk, rfl, hall⟩ := hrel
      have HA := Lib.hid hall
      clear hall
      by_cases hlt : k < l.length
      · obtain ⟨b, o, s, rfl, hd, hc⟩ := HR.out.txt k hlt
        have HP := Lib.hid (IsPage_any s w (HS.out.at_ hd.out))
        have e3 : decide ((k : Int) < (l.length : Int)) = true := decide_eq_true (by omega)
        cases hp : pgB s
        · rw [hp] at HP
          have HZ := Lib.hid (show l.all pgB = false by rw [List.all_eq_false]; exact ⟨s, List.mem_of_getElem? hd.out, by rw [hp]; simp⟩)
          clear hp
          go_wp2_with fail
          refine HP.out.mono ?_
          rintro e w' ⟨rfl, rfl⟩
          go_wp2_with fail
          go_ret
          exact ⟨by rw [HX.out, HZ.out]; rfl, rfl⟩
        · rw [hp] at HP
          have HN := Lib.hid (show (l.take (k + 1)).all pgB = true by rw [List.take_add_one, hd.out, List.all_append, HA.out]; simp [hp])
          clear hp
          go_wp2_with fail
          refine HP.out.mono ?_
          rintro e w' ⟨rfl, rfl⟩
          go_wp2_with fail
          go_round
          case rel => exact ⟨k + 1, by omega, by go_num, HN.out⟩
          case measure => simp [intOf]; omega
      · have hkl : k = l.length := by omega
        have HZ := Lib.hid (show l.all pgB = true by have := HA.out; rw [hkl, List.take_length] at this; exact this)
        have e3 : decide ((k : Int) < (l.length : Int)) = false := decide_eq_false (by omega)
        clear hkl
        go_wp2_with fail
        go_ret
        exact ⟨by rw [HX.out, HZ.out]; rfl, rfl⟩
set_option maxHeartbeats 2000000 in
theorem rValidate_any (A : Option Addr) (c : Nat) (l : List ByteArray) (w : World) (hr : Rd w w.heap.size A (txts l)) (hs : Sz l) (hl : l.length ≤ 9223372036854775807) :
    Calls Tryd.prog 133 #[.slice A l.length c] w fun e w' => e = .returned (.int .i64 (vpE l)) ∧ w = w' := by
  have HR := Lib.hid hr
  have HS := Lib.hid hs
  clear hr hs
  by_cases h6 : 64 < l.length
  · have HX := Lib.hid (show vpE l = 3 from if_pos h6)
    have e1 : decide ((64 : Int) < (l.length : Int)) = true := decide_eq_true (by omega)
    have e2 : decide (64 < l.length) = true := decide_eq_true h6
    clear h6
    go_enter Tryd.func133, Tryd.ntmps133
    go_wp2_with fail
    go_ret
    exact ⟨by rw [HX.out]; rfl, rfl⟩
  · have HX := Lib.hid (show vpE l = if l.all pgB = true then 0 else 1 from if_neg h6)
    have e1 : decide ((64 : Int) < (l.length : Int)) = false := decide_eq_false (by omega)
    have e2 : decide (64 < l.length) = false := decide_eq_false h6
    have h6' : l.length ≤ 64 := by omega
    clear h6
    go_enter Tryd.func133, Tryd.ntmps133
    go_wp2_with fail
    clear e1 e2
    go_loop [3] (fun i => ∃ k : Nat, k ≤ l.length ∧ i = .int .i64 k ∧ (l.take k).all pgB = true) (fun i => l.length - (intOf i).toNat)
    case atStart => exact ⟨0, by omega, rfl, by simp⟩
    case round =>
      obtain ⟨k, hk, rfl, hall⟩ := hrel
      have HA := Lib.hid hall
      clear hall
      by_cases hlt : k < l.length
      · obtain ⟨b, o, s, rfl, hd, hc⟩ := HR.out.txt k hlt
        have HP := Lib.hid (rIsPage_any s w (HS.out.at_ hd.out))
        have e3 : decide ((k : Int) < (l.length : Int)) = true := decide_eq_true (by omega)
        cases hp : pgB s
        · rw [hp] at HP
          have HZ := Lib.hid (show l.all pgB = false by rw [List.all_eq_false]; exact ⟨s, List.mem_of_getElem? hd.out, by rw [hp]; simp⟩)
          clear hp
          go_wp2_with fail
          refine HP.out.mono ?_
          rintro e w' ⟨rfl, rfl⟩
          go_wp2_with fail
          go_ret
          exact ⟨by rw [HX.out, HZ.out]; rfl, rfl⟩
        · rw [hp] at HP
          have HN := Lib.hid (show (l.take (k + 1)).all pgB = true by rw [List.take_add_one, hd.out, List.all_append, HA.out]; simp [hp])
          clear hp
          go_wp2_with fail
          refine HP.out.mono ?_
          rintro e w' ⟨rfl, rfl⟩
          go_wp2_with fail
          go_round
          case rel => exact ⟨k + 1, by omega, by go_num, HN.out⟩
          case measure => simp [intOf]; omega
      · have hkl : k = l.length := by omega
        have HZ := Lib.hid (show l.all pgB = true by have := HA.out; rw [hkl, List.take_length] at this; exact this)
        have e3 : decide ((k : Int) < (l.length : Int)) = false := decide_eq_false (by omega)
        clear hkl
        go_wp2_with fail
        go_ret
        exact ⟨by rw [HX.out, HZ.out]; rfl, rfl⟩
set_option maxRecDepth 4000 in
set_option maxHeartbeats 2000000 in
theorem sumsOf_any (A : Option Addr) (c : Nat) (l : List ByteArray) (w : World) (hr : Rd w w.heap.size A (txts l)) (hs : Sz l) (hl : l.length ≤ 64) :
    Calls Tryd.prog 90 #[.slice A l.length c] w fun e w' => ∃ A' c', e = .returned (.slice A' l.length c') ∧ l.length ≤ c' ∧ Rd w' w'.heap.size A' (ints (smsL l)) ∧ Below w.heap.size w w' := by
  have HR := Lib.hid hr
  have HS := Lib.hid hs
  clear hr hs
  go_enter Tryd.func90, Tryd.ntmps90
  go_wp2_with fail
  go_loopw [3, 8] (fun v i wr => ∃ (k : Nat) (A' : Option Addr) (c' : Nat), k ≤ l.length ∧ v = .slice A' k c' ∧ i = .int .i64 k ∧ wr.ownsRow w.heap.size 3 1 (.slice A' k c') k (ints (smsL (l.take k))) ∧ Below w.heap.size w wr) (fun _ i _ => l.length - (intOf i).toNat)
  case atStart => exact ⟨0, none, 0, by omega, rfl, rfl, ⟨rfl, .inl ⟨rfl, rfl⟩⟩, Below.refl _ _⟩
  case round =>
    obtain ⟨k, A', c', hk, rfl, rfl, h1, h2⟩ := hrel
    have OW := Lib.hid h1
    have B2 := Lib.hid h2
    have R2 := Lib.hid (HR.out.below h2 (Nat.le_refl _))
    clear h1 h2
    by_cases hlt : k < l.length
    · obtain ⟨b, o, s, rfl, hd, hc⟩ := R2.out.txt k hlt
      have HL := Lib.hid (sumOf_any s wr (HS.out.at_ hd.out))
      have e3 : decide ((k : Int) < (l.length : Int)) = true := decide_eq_true (by omega)
      have HN := Lib.hid (show ints (smsL (l.take (k + 1))) = ints (smsL (l.take k)) ++ ints [lfS s] by rw [List.take_add_one, hd.out]; simp [smsL, ints])
      generalize lfS s = x at *
      go_wp2_with fail
      refine HL.out.mono ?_
      rintro e w' ⟨rfl, rfl⟩
      go_wp2_with ((with_reducible show wpList _ _ _ (⟨some 16, _, _, _, _, _⟩ :: _) _ _); refine app eIntB rfl (.tmp 12) (.tmp 15) rfl rfl (OW.out.alloc _) (B2.out.alloc B2.out.size (.cells #[.int .i64 x] 3)) (size_alloc' B2.out.size _) rfl (Rd.one wr (.int .i64 x) 3 (Nat.lt_succ_self _)) (by simp) (ints_one [x]) (k + 1) rfl (by omega) ?_; intro A2 c2 w3 o2 b2 _ _; have O2 := Lib.hid (show w3.ownsRow w.heap.size 3 1 (.slice A2 (k + 1) c2) (k + 1) (ints (smsL (l.take (k + 1)))) by rw [HN.out]; exact o2); have B4 := Lib.hid b2; clear o2 b2)
      go_roundw
      case rel => exact ⟨k + 1, A2, c2, by omega, rfl, by go_num, O2.out, B4.out⟩
      case measure => simp [intOf]; omega
    · have hkl : k = l.length := by omega
      have e3 : decide ((k : Int) < (l.length : Int)) = false := decide_eq_false (by omega)
      subst hkl
      have HT := Lib.hid (show l.take l.length = l from List.take_length)
      go_wp2_with fail
      go_ret
      exact ⟨A', c', rfl, by obtain ⟨_, _, h, hh⟩ := own_form OW.out; cases h; exact hh, by have := Rd.of_own OW.out; rw [HT.out] at this; exact this, B2.out⟩
set_option maxRecDepth 4000 in
set_option maxHeartbeats 2000000 in
theorem leaves_any (A : Option Addr) (c : Nat) (l : List ByteArray) (w : World) (hr : Rd w w.heap.size A (txts l)) (hs : Sz l) (hl : l.length ≤ 64) :
    Calls Tryd.prog 135 #[.slice A l.length c] w fun e w' => ∃ A' c', e = .returned (.slice A' l.length c') ∧ l.length ≤ c' ∧ Rd w' w'.heap.size A' (ints (smsL l)) ∧ Below w.heap.size w w' := by
  have HR := Lib.hid hr
  have HS := Lib.hid hs
  clear hr hs
  go_enter Tryd.func135, Tryd.ntmps135
  go_wp2_with fail
  go_loopw [3, 4] (fun v i wr => ∃ (k : Nat) (A' : Option Addr) (c' : Nat), k ≤ l.length ∧ v = .slice A' k c' ∧ i = .int .i64 k ∧ wr.ownsRow w.heap.size 3 1 (.slice A' k c') k (ints (smsL (l.take k))) ∧ Below w.heap.size w wr) (fun _ i _ => l.length - (intOf i).toNat)
  case atStart => exact ⟨0, none, 0, by omega, rfl, rfl, ⟨rfl, .inl ⟨rfl, rfl⟩⟩, Below.refl _ _⟩
  case round =>
    obtain ⟨k, A', c', hk, rfl, rfl, h1, h2⟩ := hrel
    have OW := Lib.hid h1
    have B2 := Lib.hid h2
    have R2 := Lib.hid (HR.out.below h2 (Nat.le_refl _))
    clear h1 h2
    by_cases hlt : k < l.length
    · obtain ⟨b, o, s, rfl, hd, hc⟩ := R2.out.txt k hlt
      have HL := Lib.hid (leaf_any s wr (HS.out.at_ hd.out))
      have e3 : decide ((k : Int) < (l.length : Int)) = true := decide_eq_true (by omega)
      have HN := Lib.hid (show ints (smsL (l.take (k + 1))) = ints (smsL (l.take k)) ++ ints [lfS s] by rw [List.take_add_one, hd.out]; simp [smsL, ints])
      generalize lfS s = x at *
      go_wp2_with fail
      refine HL.out.mono ?_
      rintro e w' ⟨rfl, rfl⟩
      go_wp2_with ((with_reducible show wpList _ _ _ (⟨some 18, _, _, _, _, _⟩ :: _) _ _); refine app eIntB rfl (.tmp 11) (.tmp 17) rfl rfl (OW.out.alloc _) (B2.out.alloc B2.out.size (.cells #[.int .i64 x] 3)) (size_alloc' B2.out.size _) rfl (Rd.one wr (.int .i64 x) 3 (Nat.lt_succ_self _)) (by simp) (ints_one [x]) (k + 1) rfl (by omega) ?_; intro A2 c2 w3 o2 b2 _ _; have O2 := Lib.hid (show w3.ownsRow w.heap.size 3 1 (.slice A2 (k + 1) c2) (k + 1) (ints (smsL (l.take (k + 1)))) by rw [HN.out]; exact o2); have B4 := Lib.hid b2; clear o2 b2)
      go_roundw
      case rel => exact ⟨k + 1, A2, c2, by omega, rfl, by go_num, O2.out, B4.out⟩
      case measure => simp [intOf]; omega
    · have hkl : k = l.length := by omega
      have e3 : decide ((k : Int) < (l.length : Int)) = false := decide_eq_false (by omega)
      subst hkl
      have HT := Lib.hid (show l.take l.length = l from List.take_length)
      go_wp2_with fail
      go_ret
      exact ⟨A', c', rfl, by obtain ⟨_, _, h, hh⟩ := own_form OW.out; cases h; exact hh, by have := Rd.of_own OW.out; rw [HT.out] at this; exact this, B2.out⟩
set_option maxRecDepth 4000 in
set_option maxHeartbeats 2000000 in
theorem rootOf_any : ∀ (n : Nat) (l : List Int) (A : Option Addr) (c : Nat) (w : World), l.length = n → n ≤ 64 → AllSm l → n ≤ c → Rd w w.heap.size A (ints l) →
    Calls Tryd.prog 89 #[.slice A n c] w fun e w' => e = .returned (.int .i64 (rt l)) ∧ ∃ m, w' = w.drewN m := by
  intro n
  induction n using Nat.strongRecOn with
  | _ n ih =>
    intro l A c w hl h64 hs hc hr
    by_cases h0 : n = 0
    · subst h0
      have HX := Lib.hid (show rt l = 0 by rw [rt_one (by omega)]; unfold gI; rw [List.getElem?_eq_none (by omega)]; rfl)
      clear ih hr
      go_enter Tryd.func89, Tryd.ntmps89
      go_wp2_with fail
      go_ret
      exact ⟨by rw [HX.out]; rfl, 0, rfl⟩
    have e0 : ((n : Int) == 0) = false := beq_eq_false_iff_ne.2 (by omega)
    have e0' : (n == 0) = false := beq_eq_false_iff_ne.2 h0
    by_cases h1 : n = 1
    · subst h1
      obtain ⟨b, o, d, rfl, hd, hcell⟩ := hr.int 0 (by omega)
      rw [Nat.add_zero] at hcell
      have HX := Lib.hid (show rt l = d by rw [rt_one (by omega), gI_get hd.out])
      clear ih hr
      go_enter Tryd.func89, Tryd.ntmps89
      go_wp2_with fail
      go_ret
      exact ⟨by rw [HX.out]; rfl, 0, rfl⟩
    have e1 : ((n : Int) == 1) = false := beq_eq_false_iff_ne.2 (by omega)
    have e1' : (n == 1) = false := beq_eq_false_iff_ne.2 h1
    obtain ⟨b, o, rfl⟩ := hr.some_ (by omega)
    have hsp := sp_lt (n := n) (by omega)
    have HX := Lib.hid (show rt l = jn (rt (l.take (spN n))) (rt (l.drop (spN n))) by rw [rt_two (by omega), hl])
    have HH := Lib.hid (halves_any b o n c (by omega) h64 hc w)
    have H1 := Lib.hid (fun m => ih (spN n) hsp.2 (l.take (spN n)) (some ⟨b, o, none⟩) c (w.drewN m) (by rw [List.length_take]; omega) (by omega) (hs.take _) (by omega) (by have := hr.take (spN n); rw [ints_take] at this; exact this))
    have H2 := Lib.hid (fun m => ih (n - spN n) (by omega) (l.drop (spN n)) (some ⟨b, o + spN n, none⟩) (c - spN n) (w.drewN m) (by rw [List.length_drop]; omega) (by omega) (hs.drop _) (by omega) (by have := hr.drop_ (spN n); rw [ints_drop] at this; exact this))
    have HJ := Lib.hid (fun w => join_any _ _ w (rt_sm (hs.take (spN n))) (rt_sm (hs.drop (spN n))))
    generalize rt (l.take (spN n)) = x at *
    generalize rt (l.drop (spN n)) = y at *
    generalize spN n = k at *
    clear ih hr
    go_enter Tryd.func89, Tryd.ntmps89
    go_wp2_with fail
    refine HH.out.mono ?_
    rintro e w' ⟨rfl, m, rfl⟩
    go_wp2_with fail
    refine (H1.out m).mono ?_
    rintro e w' ⟨rfl, m1, rfl⟩
    rw [World.drewN_drewN]
    go_wp2_with fail
    refine (H2.out _).mono ?_
    rintro e w' ⟨rfl, m2, rfl⟩
    rw [World.drewN_drewN]
    go_wp2_with fail
    refine (HJ.out _).mono ?_
    rintro e w' ⟨rfl, rfl⟩
    go_wp2_with fail
    go_ret
    exact ⟨by rw [HX.out]; rfl, _, rfl⟩
set_option maxRecDepth 4000 in
set_option maxHeartbeats 2000000 in
theorem root_any : ∀ (n : Nat) (l : List Int) (A : Option Addr) (c : Nat) (w : World), l.length = n → n ≤ 64 → AllSm l → n ≤ c → Rd w w.heap.size A (ints l) →
    Calls Tryd.prog 134 #[.slice A n c] w fun e w' => e = .returned (.int .i64 (rt l)) ∧ ∃ m, w' = w.drewN m := by
  intro n
  induction n using Nat.strongRecOn with
  | _ n ih =>
    intro l A c w hl h64 hs hc hr
    by_cases h0 : n = 0
    · subst h0
      have HX := Lib.hid (show rt l = 0 by rw [rt_one (by omega)]; unfold gI; rw [List.getElem?_eq_none (by omega)]; rfl)
      clear ih hr
      go_enter Tryd.func134, Tryd.ntmps134
      go_wp2_with fail
      go_ret
      exact ⟨by rw [HX.out]; rfl, 0, rfl⟩
    have e0 : ((n : Int) == 0) = false := beq_eq_false_iff_ne.2 (by omega)
    have e0' : (n == 0) = false := beq_eq_false_iff_ne.2 h0
    by_cases h1 : n = 1
    · subst h1
      obtain ⟨b, o, d, rfl, hd, hcell⟩ := hr.int 0 (by omega)
      rw [Nat.add_zero] at hcell
      have HX := Lib.hid (show rt l = d by rw [rt_one (by omega), gI_get hd.out])
      clear ih hr
      go_enter Tryd.func134, Tryd.ntmps134
      go_wp2_with fail
      go_ret
      exact ⟨by rw [HX.out]; rfl, 0, rfl⟩
    have e1 : ((n : Int) == 1) = false := beq_eq_false_iff_ne.2 (by omega)
    have e1' : (n == 1) = false := beq_eq_false_iff_ne.2 h1
    obtain ⟨b, o, rfl⟩ := hr.some_ (by omega)
    have hsp := sp_lt (n := n) (by omega)
    have HX := Lib.hid (show rt l = jn (rt (l.take (spN n))) (rt (l.drop (spN n))) by rw [rt_two (by omega), hl])
    have HH := Lib.hid (rsplit_any n w (by omega) h64)
    have H1 := Lib.hid (fun m => ih (spN n) hsp.2 (l.take (spN n)) (some ⟨b, o, none⟩) c (w.drewN m) (by rw [List.length_take]; omega) (by omega) (hs.take _) (by omega) (by have := hr.take (spN n); rw [ints_take] at this; exact this))
    have H2 := Lib.hid (fun m => ih (n - spN n) (by omega) (l.drop (spN n)) (some ⟨b, o + spN n, none⟩) (c - spN n) (w.drewN m) (by rw [List.length_drop]; omega) (by omega) (hs.drop _) (by omega) (by have := hr.drop_ (spN n); rw [ints_drop] at this; exact this))
    have HJ := Lib.hid (fun w => rjoin_any _ _ w (rt_sm (hs.take (spN n))) (rt_sm (hs.drop (spN n))))
    generalize rt (l.take (spN n)) = x at *
    generalize rt (l.drop (spN n)) = y at *
    generalize spN n = k at *
    have b0 : (0 : Int) ≤ (k : Int) := by omega
    have b1 : (k : Int) ≤ (c : Int) := by omega
    have b2 : (k : Int) ≤ (n : Int) := by omega
    have b3 : k ≤ c := by omega
    have b4 : k ≤ n := by omega
    have b5 : (n : Int) ≤ (c : Int) := by omega
    clear ih hr
    go_enter Tryd.func134, Tryd.ntmps134
    go_wp2_with fail
    refine HH.out.mono ?_
    rintro e w' ⟨rfl, rfl⟩
    go_wp2_with fail
    go_quiet ((first | (go_at_call 134; (first | (with_reducible exact qmB (H1.out _)) | (with_reducible exact qmB (H2.out _)))) | (go_at_call 182; (first | (with_reducible exact qs0 (HJ.out _)) | (with_reducible exact qs (HJ.out _))))))
    go_wp2_with fail
    go_ret
    exact ⟨by rw [HX.out]; rfl, _, rfl⟩
/-- What Root returns. -/
def rootV (l : List ByteArray) : Int := if vpE l = 0 then rt (smsL l) else 0
theorem Root_any (A : Option Addr) (c : Nat) (l : List ByteArray) (w : World) (hr : Rd w w.heap.size A (txts l)) (hs : Sz l) (hl : l.length ≤ 9223372036854775807) :
    Calls Tryd.prog 42 #[.slice A l.length c] w fun e w' => e = .returned (.tuple #[.int .i64 (rootV l), .int .i64 (vpE l)]) ∧ Below w.heap.size w w' := by
  have HV := Lib.hid (Validate_any A c l w hr hs hl)
  by_cases hv : vpE l = 0
  · have HX := Lib.hid (show rootV l = rt (smsL l) from if_pos hv)
    have h64 := (vpE_ok hv).1
    have HS := Lib.hid (sumsOf_any A c l w hr hs h64)
    have HR := Lib.hid (fun A' c' w' h1 h2 => rootOf_any l.length (smsL l) A' c' w' (smsL_len l) h64 (smsL_sm l) h1 h2)
    rw [HX.out]
    rw [hv] at HV ⊢
    generalize rt (smsL l) = x at *
    clear hv hr
    go_enter Tryd.func42, Tryd.ntmps42
    go_wp2_with fail
    refine (HV.out).mono ?_
    rintro e w' ⟨rfl, rfl⟩
    go_wp2_with fail
    refine HS.out.mono ?_
    rintro e w1 ⟨A1, c1, rfl, hc1, hr1, hb⟩
    have B1 := Lib.hid hb
    have R1 := Lib.hid hr1
    clear hb hr1
    go_wp2_with fail
    refine (HR.out A1 c1 w1 hc1 R1.out).mono ?_
    rintro e w2 ⟨rfl, m, rfl⟩
    go_wp2_with fail
    go_ret2
    exact ⟨rfl, bdDN B1.out m⟩
  · have HX := Lib.hid (show rootV l = 0 from if_neg hv)
    have e1 : (vpE l != 0) = true := by simpa using hv
    rw [HX.out]
    generalize vpE l = E at *
    clear hv hr
    go_enter Tryd.func42, Tryd.ntmps42
    go_wp2_with fail
    refine (HV.out).mono ?_
    rintro e w' ⟨rfl, rfl⟩
    go_wp2_with fail
    go_ret2
    exact ⟨rfl, Below.refl _ _⟩
theorem rRoot_any (A : Option Addr) (c : Nat) (l : List ByteArray) (w : World) (hr : Rd w w.heap.size A (txts l)) (hs : Sz l) (hl : l.length ≤ 9223372036854775807) :
    Calls Tryd.prog 93 #[.slice A l.length c] w fun e w' => e = .returned (.tuple #[.int .i64 (rootV l), .int .i64 (vpE l)]) ∧ Below w.heap.size w w' := by
  have HV := Lib.hid (rValidate_any A c l w hr hs hl)
  by_cases hv : vpE l = 0
  · have HX := Lib.hid (show rootV l = rt (smsL l) from if_pos hv)
    have h64 := (vpE_ok hv).1
    have HS := Lib.hid (leaves_any A c l w hr hs h64)
    have HR := Lib.hid (fun A' c' w' h1 h2 => root_any l.length (smsL l) A' c' w' (smsL_len l) h64 (smsL_sm l) h1 h2)
    rw [HX.out]
    rw [hv] at HV ⊢
    generalize rt (smsL l) = x at *
    clear hv hr
    go_enter Tryd.func93, Tryd.ntmps93
    go_wp2_with fail
    refine (HV.out).mono ?_
    rintro e w' ⟨rfl, rfl⟩
    go_wp2_with fail
    refine HS.out.mono ?_
    rintro e w1 ⟨A1, c1, rfl, hc1, hr1, hb⟩
    have B1 := Lib.hid hb
    have R1 := Lib.hid hr1
    clear hb hr1
    go_wp2_with fail
    refine (HR.out A1 c1 w1 hc1 R1.out).mono ?_
    rintro e w2 ⟨rfl, m, rfl⟩
    go_wp2_with fail
    go_ret2
    exact ⟨rfl, bdDN B1.out m⟩
  · have HX := Lib.hid (show rootV l = 0 from if_neg hv)
    have e1 : (vpE l != 0) = true := by simpa using hv
    rw [HX.out]
    generalize vpE l = E at *
    clear hv hr
    go_enter Tryd.func93, Tryd.ntmps93
    go_wp2_with fail
    refine (HV.out).mono ?_
    rintro e w' ⟨rfl, rfl⟩
    go_wp2_with fail
    go_ret2
    exact ⟨rfl, Below.refl _ _⟩
/-- Has a list long texts? -/
def longB (C : List ByteArray) : Bool := (C.any fun s => decide (200 < s.size)) || decide (100 < C.length)
theorem long_hit {C : List ByteArray} {k : Nat} {s : ByteArray} (h : C[k]? = some s) (hs : 200 < s.size) : longB C = true := by
  unfold longB
  rw [show (C.any fun s => decide (200 < s.size)) = true from List.any_eq_true.2 ⟨s, List.mem_of_getElem? h, by simpa using hs⟩]
  rfl
theorem long_next {C : List ByteArray} {k : Nat} {s : ByteArray} (h : C[k]? = some s) (hs : ¬ 200 < s.size) (ha : ((C.take k).any fun s => decide (200 < s.size)) = false) : ((C.take (k + 1)).any fun s => decide (200 < s.size)) = false := by
  rw [List.take_add_one, h, List.any_append, ha]
  simp
  omega
theorem long_end {C : List ByteArray} {k : Nat} (hk : k = C.length) (ha : ((C.take k).any fun s => decide (200 < s.size)) = false) : longB C = decide (100 < C.length) := by
  rw [hk, List.take_length] at ha
  unfold longB
  rw [ha]
  rfl
set_option maxRecDepth 4000 in
set_option maxHeartbeats 1000000 in
theorem Long_any (A : Option Addr) (c : Nat) (C : List ByteArray) (w : World) (hr : Rd w w.heap.size A (txts C)) (hl : C.length ≤ 9223372036854775807) :
    Calls Tryd.prog 36 #[.slice A C.length c] w fun e w' => e = .returned (.bool (longB C)) ∧ w = w' := by
  have HR := Lib.hid hr
  clear hr
  go_enter Tryd.func36, Tryd.ntmps36
  go_wp2_with fail
  go_loop [3] (fun i => ∃ k : Nat, k ≤ C.length ∧ i = .int .i64 k ∧ ((C.take k).any fun s => decide (200 < s.size)) = false) (fun i => C.length - (intOf i).toNat)
  case atStart => exact ⟨0, by omega, rfl, by simp⟩
  case round =>
    obtain ⟨k, hk, rfl, hall⟩ := hrel
    have HA := Lib.hid hall
    clear hall
    by_cases hlt : k < C.length
    · obtain ⟨b, o, s, rfl, hd, hc⟩ := HR.out.txt k hlt
      by_cases hs : 200 < s.size
      · have HX := Lib.hid (long_hit hd.out hs)
        have e1 : decide ((200 : Int) < (s.size : Int)) = true := decide_eq_true (by omega)
        have e2 : decide (200 < s.size) = true := by simpa using hs
        clear hs
        go_wp2_with fail
        go_ret
        exact ⟨by rw [HX.out]; rfl, rfl⟩
      · have HX := Lib.hid (long_next hd.out hs HA.out)
        have e1 : decide ((200 : Int) < (s.size : Int)) = false := decide_eq_false (by omega)
        have e2 : decide (200 < s.size) = false := by simpa using hs
        clear hs
        go_wp2_with fail
        go_round
        case rel => exact ⟨k + 1, by omega, by go_num, HX.out⟩
        case measure => simp [intOf]; omega
    · have HX := Lib.hid (long_end (show k = C.length by omega) HA.out)
      have hks : k = C.length := by omega
      subst hks
      have HI := Lib.hid (show decide ((100 : Int) < (C.length : Int)) = decide (100 < C.length) by rw [decide_eq_decide]; omega)
      go_wp2_with fail
      go_ret
      exact ⟨by rw [HX.out]; first | rfl | (rw [← HI.out]; rfl), rfl⟩
theorem knL (w : World) : Calls Tryd.prog 86 #[.string ⟨#[97]⟩] w fun e w' => e = .returned (.tuple #[.int .i64 355, .int .i64 0]) ∧ w = w' := by
  have h := Leaf_any ⟨#[97]⟩ w (by decide)
  rw [show leafV ⟨#[97]⟩ = 355 by decide +kernel, show leafE ⟨#[97]⟩ = 0 by decide +kernel] at h
  exact h
theorem knJ (w : World) : Calls Tryd.prog 41 #[.int .i64 1, .int .i64 2] w fun e w' => e = .returned (.tuple #[.int .i64 81886, .int .i64 0]) ∧ w = w' := by
  have h := Join_any 1 2 w
  rw [show joinV 1 2 = 81886 by decide +kernel, show joinE 1 2 = 0 by decide +kernel] at h
  exact h
theorem knR (w : World) : Calls Tryd.prog 42 #[.slice (some ⟨w.heap.size, 0, none⟩) 1 1] (w.alloc (.cells #[.string ⟨#[97]⟩] 9)) fun e w' => e = .returned (.tuple #[.int .i64 355, .int .i64 0]) ∧ Below w.heap.size w w' := by
  have h := Root_any (some ⟨w.heap.size, 0, none⟩) 1 [⟨#[97]⟩] (w.alloc (.cells #[.string ⟨#[97]⟩] 9)) (Rd.lit w (txts [⟨#[97]⟩]) 9) (by intro s hs; rw [List.mem_singleton.1 hs]; decide) (by decide)
  have e1 : vpE [⟨#[97]⟩] = 0 := by decide +kernel
  rw [show rootV [⟨#[97]⟩] = 355 by unfold rootV; rw [if_pos e1, rt_one (by decide)]; decide +kernel, e1] at h
  exact h.mono fun e w' ⟨he, hb⟩ => ⟨he, ((Below.refl _ _).alloc (Nat.le_refl _) _).trans (hb.mono (by simp))⟩
set_option maxRecDepth 4000 in
set_option maxHeartbeats 1000000 in
theorem known_any (w : World) : Calls Tryd.prog 37 #[] w fun e w' => e = .returned (.bool true) ∧ Below w.heap.size w w' := by
  have H1 := Lib.hid (knL w)
  have H2 := Lib.hid (knJ w)
  have H3 := Lib.hid (knR w)
  go_enter Tryd.func37, Tryd.ntmps37
  go_wp2_with fail
  refine (H1.out).mono ?_
  rintro e w' ⟨rfl, rfl⟩
  go_wp2_with fail
  refine (H2.out).mono ?_
  rintro e w' ⟨rfl, rfl⟩
  go_wp2_with fail
  refine H3.out.mono ?_
  rintro e w1 ⟨rfl, hb⟩
  go_wp2_with fail
  go_ret
  exact ⟨rfl, hb⟩
end Go.Proofs.YtoenecgjiejljaaDoor
