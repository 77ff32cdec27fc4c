/-
  Proofs of growth: the walks of growthSize, growthOf, grow, Growth of both sides. Condition: the lists can be read.
-/
import Derived.Test.YtoenecgjiejljaaDoorBt8
namespace Go.Proofs.YtoenecgjiejljaaDoor
open Go.RowKit
set_option linter.unusedVariables false

theorem own_one (w : World) {B : Nat} (x : Int) (hB : B ≤ w.heap.size) : (w.alloc (.cells #[.int .i64 x] 3)).ownsRow B 3 1 (.slice (some ⟨w.heap.size, 0, none⟩) 1 1) 1 (ints [x]) := by
  have h := World.ownsRow_lit (base := B) (e := 3) (size := 1) w #[.int .i64 x] 1 hB (by simp [maxLen]) (by simp)
  simpa [ints] using h
set_option maxRecDepth 4000 in
set_option maxHeartbeats 4000000 in
theorem growthSize_any : ∀ (n m : Nat) (old : Bool) (w : World), 1 ≤ m → m ≤ n → n ≤ 64 → Calls Tryd.prog 144 #[.int .i64 m, .int .i64 n, .bool old] w fun e w' => e = .returned (.int .i64 (gsN m n old)) ∧ w = w' := by
  intro n
  induction n using Nat.strongRecOn with
  | _ n ih =>
    intro m old w h1 hmn h64
    by_cases hn : m = n
    · subst hn
      have HX := Lib.hid (show gsN m m old = if old = true then 0 else 1 from gs_end (.inr rfl))
      have k1 : ((m : Int) == (m : Int)) = true := by simp
      have k1' : (m == m) = true := by simp
      clear ih
      cases old
      all_goals
        go_enter Tryd.func144, Tryd.ntmps144
        go_wp2_with fail
        go_ret
        exact ⟨by rw [HX.out]; rfl, rfl⟩
    have e0 : ((m : Int) == (n : Int)) = false := beq_eq_false_iff_ne.2 (by omega)
    have e0' : (m == n) = false := beq_eq_false_iff_ne.2 hn
    have hsp := sp_lt (n := n) (by omega)
    have HS := Lib.hid (split_any n w (by omega) h64)
    by_cases hi : m ≤ spN n
    · have HX := Lib.hid (show gsN m n old = gsN m (spN n) old + 1 from gs_left (by omega) hi)
      have HC := Lib.hid (ih (spN n) hsp.2 m old w (by omega) (by omega) (by omega))
      have hle := gs_le (spN n) m old
      generalize gsN m (spN n) old = x at *
      generalize spN n = k at *
      have e1 : decide ((m : Int) ≤ (k : Int)) = true := decide_eq_true (by omega)
      have e1' : decide (m ≤ k) = true := decide_eq_true hi
      clear ih
      go_enter Tryd.func144, Tryd.ntmps144
      go_wp2_with fail
      refine (HS.out).mono ?_
      rintro e w' ⟨rfl, rfl⟩
      go_wp2_with fail
      refine (HC.out).mono ?_
      rintro e w' ⟨rfl, rfl⟩
      go_wp2_with fail
      go_ret
      exact ⟨by rw [HX.out]; rfl, rfl⟩
    · have HX := Lib.hid (show gsN m n old = gsN (m - spN n) (n - spN n) false + 1 from gs_right (by omega) (by omega) hn)
      have HC := Lib.hid (ih (n - spN n) (by omega) (m - spN n) false w (by omega) (by omega) (by omega))
      have hle := gs_le (n - spN n) (m - spN n) false
      generalize gsN (m - spN n) (n - spN n) false = x at *
      generalize spN n = k at *
      have e1 : decide ((m : Int) ≤ (k : Int)) = false := decide_eq_false (by omega)
      have e1' : decide (m ≤ k) = false := decide_eq_false hi
      rw [show ((m - k : Nat) : Int) = (m : Int) - (k : Int) by omega, show ((n - k : Nat) : Int) = (n : Int) - (k : Int) by omega] at HC
      clear ih
      go_enter Tryd.func144, Tryd.ntmps144
      go_wp2_with fail
      refine (HS.out).mono ?_
      rintro e w' ⟨rfl, rfl⟩
      go_wp2_with fail
      refine (HC.out).mono ?_
      rintro e w' ⟨rfl, rfl⟩
      go_wp2_with fail
      go_ret
      exact ⟨by rw [HX.out]; rfl, rfl⟩
set_option maxRecDepth 4000 in
set_option maxHeartbeats 4000000 in
theorem growthOf_any : ∀ (n : Nat) (l : List Int) (A : Option Addr) (c : Nat) (w : World) (m : Nat) (old : Bool), l.length = n → 1 ≤ m → m ≤ n → n ≤ 64 → AllSm l → n ≤ c → Rd w w.heap.size A (ints l) →
    Calls Tryd.prog 100 #[.slice A n c, .int .i64 m, .bool old] w fun e w' => ∃ A' c', e = .returned (.slice A' (gsN m n old) c') ∧ w'.ownsRow w.heap.size 3 1 (.slice A' (gsN m n old) c') (gsN m n old) (ints (grL l m old)) ∧ Below w.heap.size w w' := by
  intro n
  induction n using Nat.strongRecOn with
  | _ n ih =>
    intro l A c w m old hl h1 hmn h64 hs hc hr
    by_cases hn : m = n
    · subst hn
      have k1 : ((m : Int) == (m : Int)) = true := by simp
      have k1' : (m == m) = true := by simp
      cases old
      · have HX := Lib.hid (show gsN m m false = 1 ∧ grL l m false = [rt l] from ⟨gs_end (.inr rfl), gr_end (.inr hl.symm)⟩)
        have HR := Lib.hid (rootOf_any m l A c w hl h64 hs hc hr)
        rw [HX.out.1, HX.out.2]
        generalize rt l = y at *
        clear ih hr
        go_enter Tryd.func100, Tryd.ntmps100
        go_wp2_with fail
        refine HR.out.mono ?_
        rintro e w' ⟨rfl, mm, rfl⟩
        have B1 := Lib.hid (bdDN (Below.refl w.heap.size w) mm)
        have O1 := Lib.hid (own_one (w.drewN mm) (B := w.heap.size) y (Nat.le_refl _))
        have B2 := Lib.hid (B1.out.alloc (Nat.le_refl _) (.cells #[.int .i64 y] 3))
        go_wp2_with fail
        go_ret
        exact ⟨_, _, rfl, O1.out, B2.out⟩
      · have HX := Lib.hid (show gsN m m true = 0 ∧ grL l m true = [] from ⟨gs_end (.inr rfl), gr_end (.inr hl.symm)⟩)
        rw [HX.out.1, HX.out.2]
        clear ih hr
        go_enter Tryd.func100, Tryd.ntmps100
        go_wp2_with fail
        go_ret
        exact ⟨none, 0, rfl, World.ownsRow_nil _ _ _ _, Below.refl _ _⟩
    have e0 : ((m : Int) == (n : Int)) = false := beq_eq_false_iff_ne.2 (by omega)
    have e0' : (m == n) = false := beq_eq_false_iff_ne.2 hn
    obtain ⟨b, o, rfl⟩ := hr.some_ (by omega)
    have hsp := sp_lt (n := n) (by omega)
    have HH := Lib.hid (halves_any b o n c (by omega) h64 hc w)
    have rt_ : Rd w w.heap.size (some ⟨b, o, none⟩) (ints (l.take (spN n))) := by have := hr.take (spN n); rw [ints_take] at this; exact this
    have rd_ : Rd w w.heap.size (some ⟨b, o + spN n, none⟩) (ints (l.drop (spN n))) := by have := hr.drop_ (spN n); rw [ints_drop] at this; exact this
    by_cases hi : m ≤ spN n
    · have HX := Lib.hid (show grL l m old = grL (l.take (spN n)) m old ++ [rt (l.drop (spN n))] by have := gr_left (l := l) (m := m) (old := old) (by omega) (by rw [hl]; omega); rw [hl] at this; exact this)
      have HD := Lib.hid (show gsN m n old = gsN m (spN n) old + 1 from gs_left (by omega) hi)
      have H1 := Lib.hid (fun w' (hr' : Rd w' w'.heap.size _ (ints (l.take (spN n)))) => ih (spN n) (by omega) (l.take (spN n)) (some ⟨b, o, none⟩) c w' m old (by rw [List.length_take]; omega) (by omega) (by omega) (by omega) (hs.take _) (by omega) hr')
      have H2 := Lib.hid (fun w' (hr' : Rd w' w'.heap.size _ (ints (l.drop (spN n)))) => rootOf_any (n - spN n) (l.drop (spN n)) (some ⟨b, o + spN n, none⟩) (c - spN n) w' (by rw [List.length_drop]; omega) (by omega) (hs.drop _) (by omega) hr')
      have HR1 := Lib.hid rt_
      have HR2 := Lib.hid rd_
      have hle := gs_le (spN n) m old
      generalize grL (l.take (spN n)) m old = P at *
      generalize rt (l.drop (spN n)) = y at *
      generalize (l.drop (spN n)) = O at *
      generalize (l.take (spN n)) = Fi at *
      generalize gsN m (spN n) old = d at *
      generalize spN n = k at *
      have e1 : decide ((m : Int) ≤ (k : Int)) = true := decide_eq_true (by omega)
      have e1' : decide (m ≤ k) = true := decide_eq_true (by omega)
      clear ih hr rt_ rd_
      go_enter Tryd.func100, Tryd.ntmps100
      go_wp2_with fail
      refine HH.out.mono ?_
      rintro e w' ⟨rfl, mm, rfl⟩
      go_wp2_with fail
      refine (H1.out (w.drewN mm) HR1.out).mono ?_
      rintro e w1 ⟨A1, c1, rfl, ho, hb⟩
      have O1 := Lib.hid (show w1.ownsRow w.heap.size 3 1 (.slice A1 d c1) d (ints P) from ho)
      have B1 := Lib.hid ((bdDN (Below.refl w.heap.size w) mm).trans hb)
      clear ho hb
      go_wp2_with fail
      refine (H2.out w1 (HR2.out.upb B1.out)).mono ?_
      rintro e w' ⟨rfl, m2, rfl⟩
      have B2 := Lib.hid (bdDN B1.out m2)
      have O2 := Lib.hid (own_drewN O1.out m2)
      generalize w1.drewN m2 = w2 at *
      clear O1 B1
      go_wp2_with ((with_reducible show wpList _ _ _ (⟨some 39, _, _, _, _, _⟩ :: _) _ _); refine app eIntB rfl (.tmp 35) (.tmp 38) rfl rfl (O2.out.alloc _) (B2.out.alloc B2.out.size (.cells #[.int .i64 y] 3)) (size_alloc' B2.out.size _) rfl (Rd.one w2 (.int .i64 y) 3 (Nat.lt_succ_self _)) (by simp) (ints_one [y]) (d + 1) rfl (by omega) ?_; intro A2 c2 w3 o2 b2 _ _; have O3 := Lib.hid (show w3.ownsRow w.heap.size 3 1 (.slice A2 (d + 1) c2) (d + 1) (ints (P ++ [y])) by rw [ints_append]; exact o2); have B4 := Lib.hid b2; clear o2 b2)
      go_ret
      exact ⟨A2, c2, by rw [HD.out]; rfl, by rw [HD.out, HX.out]; exact O3.out, B4.out⟩
    · have HX := Lib.hid (show grL l m old = grL (l.drop (spN n)) (m - spN n) false ++ [rt (l.take (spN n))] by have := gr_right (l := l) (m := m) (old := old) (by omega) (by rw [hl]; omega) (by omega); rw [hl] at this; exact this)
      have HD := Lib.hid (show gsN m n old = gsN (m - spN n) (n - spN n) false + 1 from gs_right (by omega) (by omega) hn)
      have H1 := Lib.hid (fun w' (hr' : Rd w' w'.heap.size _ (ints (l.drop (spN n)))) => ih (n - spN n) (by omega) (l.drop (spN n)) (some ⟨b, o + spN n, none⟩) (c - spN n) w' (m - spN n) false (by rw [List.length_drop]; omega) (by omega) (by omega) (by omega) (hs.drop _) (by omega) hr')
      have H2 := Lib.hid (fun w' (hr' : Rd w' w'.heap.size _ (ints (l.take (spN n)))) => rootOf_any (spN n) (l.take (spN n)) (some ⟨b, o, none⟩) c w' (by rw [List.length_take]; omega) (by omega) (hs.take _) (by omega) hr')
      have HR1 := Lib.hid rd_
      have HR2 := Lib.hid rt_
      have hle := gs_le (n - spN n) (m - spN n) false
      generalize grL (l.drop (spN n)) (m - spN n) false = P at *
      generalize rt (l.take (spN n)) = y at *
      generalize (l.take (spN n)) = O at *
      generalize (l.drop (spN n)) = Fi at *
      generalize gsN (m - spN n) (n - spN n) false = d at *
      generalize spN n = k at *
      have e1 : decide ((m : Int) ≤ (k : Int)) = false := decide_eq_false (by omega)
      have e1' : decide (m ≤ k) = false := decide_eq_false (by omega)
      rw [show ((m - k : Nat) : Int) = (m : Int) - (k : Int) by omega] at H1
      clear ih hr rt_ rd_
      go_enter Tryd.func100, Tryd.ntmps100
      go_wp2_with fail
      refine HH.out.mono ?_
      rintro e w' ⟨rfl, mm, rfl⟩
      go_wp2_with fail
      refine (H1.out (w.drewN mm) HR1.out).mono ?_
      rintro e w1 ⟨A1, c1, rfl, ho, hb⟩
      have O1 := Lib.hid (show w1.ownsRow w.heap.size 3 1 (.slice A1 d c1) d (ints P) from ho)
      have B1 := Lib.hid ((bdDN (Below.refl w.heap.size w) mm).trans hb)
      clear ho hb
      go_wp2_with fail
      refine (H2.out w1 (HR2.out.upb B1.out)).mono ?_
      rintro e w' ⟨rfl, m2, rfl⟩
      have B2 := Lib.hid (bdDN B1.out m2)
      have O2 := Lib.hid (own_drewN O1.out m2)
      generalize w1.drewN m2 = w2 at *
      clear O1 B1
      go_wp2_with ((with_reducible show wpList _ _ _ (⟨some 49, _, _, _, _, _⟩ :: _) _ _); refine app eIntB rfl (.tmp 45) (.tmp 48) rfl rfl (O2.out.alloc _) (B2.out.alloc B2.out.size (.cells #[.int .i64 y] 3)) (size_alloc' B2.out.size _) rfl (Rd.one w2 (.int .i64 y) 3 (Nat.lt_succ_self _)) (by simp) (ints_one [y]) (d + 1) rfl (by omega) ?_; intro A2 c2 w3 o2 b2 _ _; have O3 := Lib.hid (show w3.ownsRow w.heap.size 3 1 (.slice A2 (d + 1) c2) (d + 1) (ints (P ++ [y])) by rw [ints_append]; exact o2); have B4 := Lib.hid b2; clear o2 b2)
      go_ret
      exact ⟨A2, c2, by rw [HD.out]; rfl, by rw [HD.out, HX.out]; exact O3.out, B4.out⟩
/-- What Growth returns. -/
def gwE (l : List ByteArray) (m : Int) : Int := if vpE l = 0 then (if 1 ≤ m ∧ m ≤ (l.length : Int) then 0 else 1) else vpE l
def gwN (l : List ByteArray) (m : Int) : Nat := if gwE l m = 0 then gsN m.toNat l.length true else 0
def gwL (l : List ByteArray) (m : Int) : List Int := if gwE l m = 0 then grL (smsL l) m.toNat true else []
theorem gw_bad {l : List ByteArray} {m : Int} (h : gwE l m ≠ 0) : gwN l m = 0 ∧ gwL l m = [] := ⟨if_neg h, if_neg h⟩
theorem gw_ok {l : List ByteArray} {m : Int} (h : gwE l m = 0) : vpE l = 0 ∧ 1 ≤ m ∧ m ≤ (l.length : Int) := by
  unfold gwE at h
  split at h
  · rename_i hv
    split at h
    · rename_i h1
      exact ⟨hv, h1⟩
    · cases h
  · rename_i hv
    exact absurd h hv
theorem gw_len (l : List ByteArray) (m : Int) : (gwL l m).length = gwN l m := by
  unfold gwL gwN
  split
  · exact gr_len _ _ _ _ (smsL_len l)
  · rfl
set_option maxHeartbeats 1000000 in
theorem Growth_any (A : Option Addr) (c : Nat) (l : List ByteArray) (m : Int) (w : World) (hr : Rd w w.heap.size A (txts l)) (hs : Sz l) (hl : l.length ≤ 9223372036854775807) :
    Calls Tryd.prog 45 #[.slice A l.length c, .int .i64 m] w fun e w' => ∃ A' c', e = .returned (.tuple #[.slice A' (gwN l m) c', .int .i64 (gwE l m)]) ∧ gwN l m ≤ c' ∧ Rd w' w'.heap.size A' (ints (gwL l m)) ∧ Below w.heap.size w w' := by
  have HV := Lib.hid (Validate_any A c l w hr hs hl)
  by_cases hv : vpE l = 0
  case neg =>
    have HX := Lib.hid (show gwE l m = vpE l from if_neg hv)
    have HY := Lib.hid (gw_bad (l := l) (m := m) (by rw [HX.out]; exact hv))
    have e1 : (vpE l != 0) = true := by simpa using hv
    rw [HX.out, HY.out.1, HY.out.2]
    generalize vpE l = E at *
    clear hv hr
    go_enter Tryd.func45, Tryd.ntmps45
    go_wp2_with fail
    refine (HV.out).mono ?_
    rintro e w' ⟨rfl, rfl⟩
    go_wp2_with fail
    go_ret2
    exact ⟨none, 0, rfl, Nat.le_refl _, Rd.nil_, Below.refl _ _⟩
  rw [hv] at HV
  have hE : gwE l m = if 1 ≤ m ∧ m ≤ (l.length : Int) then 0 else 1 := if_pos hv
  by_cases h1 : 1 ≤ m
  case neg =>
    have e1 : decide (m < 1) = true := decide_eq_true (by omega)
    have hE' : gwE l m = 1 := by rw [hE, if_neg (by omega)]
    have HX := Lib.hid hE'
    have HY := Lib.hid (gw_bad (l := l) (m := m) (by rw [hE']; decide))
    rw [HX.out, HY.out.1, HY.out.2]
    clear hv hr h1 hE hE'
    go_enter Tryd.func45, Tryd.ntmps45
    go_wp2_with fail
    refine (HV.out).mono ?_
    rintro e w' ⟨rfl, rfl⟩
    go_wp2_with fail
    go_ret2
    exact ⟨none, 0, rfl, Nat.le_refl _, Rd.nil_, Below.refl _ _⟩
  obtain ⟨k, rfl⟩ : ∃ k : Nat, m = (k : Int) := ⟨m.toNat, by omega⟩
  have e1 : decide ((k : Int) < 1) = false := decide_eq_false (by omega)
  have e1' : decide (k < 1) = false := decide_eq_false (by omega)
  have e1'' : (k == 0) = false := beq_eq_false_iff_ne.2 (by omega)
  by_cases h2 : k ≤ l.length
  case neg =>
    have e2 : decide ((l.length : Int) < (k : Int)) = true := decide_eq_true (by omega)
    have e2' : decide (l.length < k) = true := decide_eq_true (by omega)
    have hE' : gwE l (k : Int) = 1 := by rw [hE, if_neg (by omega)]
    have HX := Lib.hid hE'
    have HY := Lib.hid (gw_bad (l := l) (m := (k : Int)) (by rw [hE']; decide))
    rw [HX.out, HY.out.1, HY.out.2]
    clear hv hr h1 h2 hE hE'
    go_enter Tryd.func45, Tryd.ntmps45
    go_wp2_with fail
    refine (HV.out).mono ?_
    rintro e w' ⟨rfl, rfl⟩
    go_wp2_with fail
    go_ret2
    exact ⟨none, 0, rfl, Nat.le_refl _, Rd.nil_, Below.refl _ _⟩
  have e2 : decide ((l.length : Int) < (k : Int)) = false := decide_eq_false (by omega)
  have e2' : decide (l.length < k) = false := decide_eq_false (by omega)
  have h64 := (vpE_ok hv).1
  have hE' : gwE l (k : Int) = 0 := by rw [hE, if_pos (by omega)]
  have HX := Lib.hid hE'
  have HY := Lib.hid (show gwN l (k : Int) = gsN k l.length true ∧ gwL l (k : Int) = grL (smsL l) k true by unfold gwN gwL; rw [hE', if_pos rfl, if_pos rfl]; exact ⟨rfl, rfl⟩)
  have HS := Lib.hid (sumsOf_any A c l w hr hs h64)
  have HP := Lib.hid (fun A' c' w' h3 h4 => growthOf_any l.length (smsL l) A' c' w' k true (smsL_len l) (by omega) h2 h64 (smsL_sm l) h3 h4)
  rw [HX.out, HY.out.1, HY.out.2]
  generalize gsN k l.length true = d at *
  generalize grL (smsL l) k true = P at *
  clear hv hr h1 hE hE'
  go_enter Tryd.func45, Tryd.ntmps45
  go_wp2_with fail
  refine (HV.out).mono ?_
  rintro e w' ⟨rfl, rfl⟩
  go_wp2_with fail
  refine HS.out.mono ?_
  rintro e w1 ⟨A1, c1, rfl, hc1, hr1, hb⟩
  have B1 := Lib.hid hb
  have R1 := Lib.hid hr1
  clear hb hr1
  go_wp2_with fail
  refine (HP.out A1 c1 w1 hc1 R1.out).mono ?_
  rintro e w2 ⟨A2, c2, rfl, ho, hb⟩
  have B2 := Lib.hid (B1.out.trans (hb.mono B1.out.size))
  have O2 := Lib.hid ho
  clear hb ho
  go_wp2_with fail
  go_ret2
  exact ⟨A2, c2, rfl, by obtain ⟨_, _, h, hh⟩ := own_form O2.out; cases h; exact hh, Rd.of_own O2.out, B2.out⟩
end Go.Proofs.YtoenecgjiejljaaDoor
