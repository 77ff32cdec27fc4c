/-
  Texts merged into one (Rm2, Dgt): contracts of the functions of package lure, what is reckoned of games. Conditions: as each says.
-/
import Derived.Test.YtoenecgjiejljaaDoorMt19
import Derived.Test.YtoenecgjiejljaaDoorMt10
import Derived.Test.YtoenecgjiejljaaDoorMt16
import Derived.Lib.AppendIntMem
import Derived.Lib.LaidTab
import Derived.Test.YtoenecgjiejljaaDoorMt2
import Derived.Test.YtoenecgjiejljaaDoorProg
import Derived.WalkKit
import Derived.WalkSpells
import Derived.Handy
import Derived.Lib.Hide
namespace Go.Proofs.YtoenecgjiejljaaDoor
open Go.RowKit
set_option linter.unusedVariables false

/-- The table of powers of ten. -/
structure TbI (w : World) : Prop where
  tab : Lib.TabIs Tryd.prog w "internal/strconv.uint64pow10" .u64 Lib.pow10Tab
  lt : 3 < w.heap.size
theorem TbI.up {w w' : World} (h : TbI w) (hb : Below w.heap.size w w') : TbI w' :=
  ⟨var?_below hb (g := 3) (by kernel_rfl) h.lt h.tab, Nat.lt_of_lt_of_le h.lt hb.size⟩
theorem TbI.drewN {w : World} (h : TbI w) (n : Nat) : TbI (w.drewN n) := h.up (below_drewN (Below.refl _ _) n)
theorem Itoa_n (n : Nat) (hn : n < 10000000000) (w : World) (h : TbI w) : Calls Tryd.prog 60 #[.int .i64 n] w fun e w' => e = .returned (.string (sL (D n))) ∧ Below w.heap.size w w' := by
  refine (Any.strconv_Itoa Tryd.lays171 (n : Int) (by omega) (by omega) w h.tab).mono ?_
  rintro e w' ⟨h1, k, os, rfl⟩
  refine ⟨h1.trans ?_, ?_⟩
  · have : Lib.itoa (n : Int) = D n := by unfold Lib.itoa; rw [if_neg (by omega)]; rfl
    rw [this]; rfl
  · exact Lib.below_grow _ w (Nat.le_refl _) k os
theorem Rep0 (k : Nat) (hk : k ≤ 100) (w : World) : Calls Tryd.prog 61 #[.string ⟨#[48]⟩, .int .i64 k] w fun e w' => e = .returned (.string (sL (List.replicate k 48))) ∧ Below w.heap.size w w' := by
  refine (Any.strings_Repeat Tryd.lays105 Tryd.Builder_Extra_105 ⟨#[48]⟩ k w (by omega) (by show 1 * k ≤ _; omega)).mono ?_
  rintro e w' ⟨h1, h2⟩
  refine ⟨h1.trans ?_, h2⟩
  have := Lib.repeatL_replicate 48 1 k
  rw [Nat.mul_one] at this
  show _ = Ending.returned (.string (sL (List.replicate k 48)))
  rw [← this]
  rfl
theorem Dm_len {m : Nat} (hm : m ≤ 99999) : 1 ≤ (D m).length ∧ (D m).length ≤ 5 := by
  have h1 := D_len 4 m (by omega)
  have h2 := List.length_pos_iff.2 (D_ne m)
  omega
theorem pad_text {m : Nat} (hm : m ≤ 99999) : sL (List.replicate (5 - (D m).length) 48) ++ sL (D m) = sL (padK 5 m) := by
  rw [sL_app, padK_D 4 m (by omega)]
theorem mk_text (s : ByteArray) (m : Nat) : (s ++ sL (padK 5 m)) ++ sL (D (ckD m)) = mkR s m := by
  rw [D_small (ckD_lt m).1, show s = sL (bl s) from (sL_bl s).symm, sL_app, sL_app]
  unfold mkR rgT
  rw [bl_sL, List.append_assoc]
set_option maxRecDepth 8000 in
set_option maxHeartbeats 2000000 in
theorem Make_any (s : ByteArray) (n : Int) (w : World) (hsz : s.size ≤ 1000) (hT : TabsR w) (hI : TbI w) :
    Calls Tryd.prog 20 #[.string s, .int .i64 n] w fun e w' => e = .returned (.tuple #[.string (mkS s n), .int .i64 (mkE s n)]) ∧ Below w.heap.size w w' := by
  have H1 := Lib.hid (isSeries_any s w (by omega))
  have HT := Lib.hid hT
  have HI := Lib.hid hI
  clear hT hI
  cases hs : seriesB s with
  | false =>
    have e1 : mkE s n = 2 := by unfold mkE; rw [hs]; rfl
    have e2 : mkS s n = ⟨#[]⟩ := by unfold mkS; rw [e1]; rfl
    rw [hs] at H1
    rw [e1, e2]
    clear hs e1 e2 HT HI
    go_enter Tryd.func20, Tryd.ntmps20
    go_wp2_with fail
    refine H1.out.mono ?_
    rintro e w1 ⟨rfl, hb⟩
    go_wp2_with fail
    go_ret2
    exact ⟨rfl, hb⟩
  | true =>
  rw [hs] at H1
  by_cases hr : 0 ≤ n ∧ n ≤ 99999
  case neg =>
    have e1 : mkE s n = 1 := by unfold mkE; rw [hs, if_neg hr]; rfl
    have e2 : mkS s n = ⟨#[]⟩ := by unfold mkS; rw [e1]; rfl
    rw [e1, e2]
    clear hs e1 e2 HT HI
    by_cases h0 : n < 0
    · have d0 : decide (n < 0) = true := decide_eq_true h0
      clear hr h0
      go_enter Tryd.func20, Tryd.ntmps20
      go_wp2_with fail
      refine H1.out.mono ?_
      rintro e w1 ⟨rfl, hb⟩
      go_wp2_with fail
      go_ret2
      exact ⟨rfl, hb⟩
    · have d0 : decide (n < 0) = false := decide_eq_false h0
      have d1 : decide (99999 < n) = true := decide_eq_true (by omega)
      clear hr h0
      go_enter Tryd.func20, Tryd.ntmps20
      go_wp2_with fail
      refine H1.out.mono ?_
      rintro e w1 ⟨rfl, hb⟩
      go_wp2_with fail
      go_ret2
      exact ⟨rfl, hb⟩
  obtain ⟨m, rfl⟩ : ∃ m : Nat, n = (m : Int) := ⟨n.toNat, by omega⟩
  have hm : m ≤ 99999 := by omega
  have e1 : mkE s (m : Int) = 0 := mkE_ok hs hr.1 hr.2
  have e2 : mkS s (m : Int) = mkR s m := by unfold mkS; rw [if_pos e1, Int.toNat_natCast]
  rw [e1, e2]
  obtain ⟨l1, l5⟩ := Dm_len hm
  have HI1 := Lib.hid (fun w h => Itoa_n m (by omega) w h)
  have HI2 := Lib.hid (fun w h => Itoa_n (ckD m) (by have := (ckD_lt m).1; omega) w h)
  have HR := Lib.hid (fun w => Rep0 (5 - (D m).length) (by omega) w)
  have HD := Lib.hid (fun w => digitsOf_any (sL (padK 5 m)) w (by rw [sL_size, padK_len]; omega) (allNum_sL (padK_dg 5 m)))
  rw [show digs (sL (padK 5 m)) = pdD m from digs_sL _] at HD
  have HC := Lib.hid (fun A c w hr ht => checkDigit_ok A c (pdD m) w hr (pdD_dig m) (by unfold pdD; rw [List.length_map, padK_len]; omega) ht)
  have hpl : (pdD m).length = 5 := by unfold pdD; rw [List.length_map, padK_len]
  have HCK := Lib.hid (ckD_lt m).2.symm
  have HP := Lib.hid (pad_text hm)
  have HM := Lib.hid (mk_text s m)
  rw [(ckD_lt m).2.symm] at HC
  rw [show ((5 - (D m).length : Nat) : Int) = 5 - ((sL (D m)).size : Int) by rw [sL_size]; omega] at HR
  have hz1 : (sL (D m)).size ≤ 5 := by rw [sL_size]; omega
  have hz2 : (sL (padK 5 m)).size = 5 := by rw [sL_size, padK_len]
  have hz3 : (sL (List.replicate (5 - (D m).length) 48)).size ≤ 5 := by rw [sL_size]; simp
  have hz4 : (sL (D (ckD m))).size ≤ 5 := by rw [sL_size, D_small (ckD_lt m).1]; simp
  rw [hpl] at HC
  unfold MadeInts at HD
  rw [hpl] at HD
  clear hs e1 e2 l1 l5 hr hpl
  have hm0 : (0 : Int) ≤ (m : Int) := by omega
  have hm9 : (m : Int) ≤ 99999 := by omega
  generalize sL (List.replicate (5 - (D m).length) 48) = t0 at *
  generalize sL (D m) = t1 at *
  generalize sL (padK 5 m) = t2 at *
  generalize sL (D (ckD m)) = t3 at *
  generalize mkR s m = R at *
  generalize pdD m = pd at *
  generalize ckD m = ck at *
  go_enter Tryd.func20, Tryd.ntmps20
  go_wp2_with fail
  refine H1.out.mono ?_
  rintro e w1 ⟨rfl, hb⟩
  have B1 := Lib.hid hb
  clear hb
  go_wp2_with fail
  refine (HI1.out w1 (HI.out.up B1.out)).mono ?_
  rintro e w2 ⟨rfl, hb⟩
  have B2 := Lib.hid (B1.out.trans (hb.mono B1.out.size))
  clear hb
  go_wp2_with fail
  refine (HR.out w2).mono ?_
  rintro e w3 ⟨rfl, hb⟩
  have B3 := Lib.hid (B2.out.trans (hb.mono B2.out.size))
  clear hb
  go_wp2_with fail
  rw [HP.out]
  go_wp2_with fail
  refine (HD.out w3).mono ?_
  rintro e w4 ⟨A, c, rfl, hr, hb⟩
  have R4 := Lib.hid hr
  have B4 := Lib.hid (B3.out.trans (hb.mono B3.out.size))
  clear hb hr
  go_wp2_with fail
  refine (HC.out A c w4 R4.out (HT.out.below' B4.out)).mono ?_
  rintro e w5 ⟨rfl, hb⟩
  have B5 := Lib.hid (B4.out.trans (hb.mono B4.out.size))
  clear hb
  go_wp2_with fail
  refine (HI2.out w5 (HI.out.up B5.out)).mono ?_
  rintro e w6 ⟨rfl, hb⟩
  have B6 := Lib.hid (B5.out.trans (hb.mono B5.out.size))
  clear hb
  go_wp2_with fail
  go_ret2
  exact ⟨by rw [← HM.out]; rfl, B6.out⟩
end Go.Proofs.YtoenecgjiejljaaDoor
namespace Go.Proofs.YtoenecgjiejljaaDoor
open Go.RowKit
set_option linter.unusedVariables false

theorem dig_str (n : Nat) (h : n < 10) : (⟨#[48, 49, 50, 51, 52, 53, 54, 55, 56, 57]⟩ : ByteArray).extract n (n + 1) = sL [UInt8.ofNat (48 + n)] := by
  have : ∀ k : Fin 10, bl ((⟨#[48, 49, 50, 51, 52, 53, 54, 55, 56, 57]⟩ : ByteArray).extract k.1 (k.1 + 1)) = [UInt8.ofNat (48 + k.1)] := by decide +kernel
  exact bl_inj (by rw [this ⟨n, h⟩, bl_sL])
def dg1 (n : Nat) : ByteArray := sL [UInt8.ofNat (48 + n)]
theorem Digit_any (n : Nat) (h : n < 10) (w : World) : Calls Tryd.prog 118 #[.int .i64 n] w fun e w' => e = .returned (.string (dg1 n)) ∧ w = w' := by
  have HD := Lib.hid (show _ = dg1 n from dig_str n h)
  have b0 : (0 : Int) ≤ (n : Int) := by omega
  have b1 : (n : Int) ≤ (n : Int) + 1 := by omega
  have b2 : (n : Int) + 1 ≤ 10 := by omega
  have b3 : (0 : Int) ≤ (n : Int) + 1 := by omega
  have q1 : ((n : Int) + 1).toNat = n + 1 := by omega
  go_enter Tryd.func118, Tryd.ntmps118
  go_wp2_with fail
  go_ret
  exact ⟨by rw [← HD.out]; rfl, rfl⟩
end Go.Proofs.YtoenecgjiejljaaDoor
