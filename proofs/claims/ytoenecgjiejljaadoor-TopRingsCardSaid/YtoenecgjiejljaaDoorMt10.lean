/-
  Texts merged into one (Chk, Rck): contracts of the functions of package lure, what is reckoned of games. Conditions: as each says.
-/
import Derived.Test.YtoenecgjiejljaaDoorMt9
import Derived.Test.YtoenecgjiejljaaDoorMt4
import Derived.Laws.CopyOwn
namespace Go.Proofs.YtoenecgjiejljaaDoor
open Go.RowKit
set_option linter.unusedVariables false

/-- The check digit, by its definition in package ring. -/
def chkD (l : List Int) : Int := invD (sumL (l ++ [0]))
theorem dig_app {l : List Int} {d : Int} (hl : ∀ x ∈ l, Dig x) (hd : Dig d) : ∀ x ∈ l ++ [d], Dig x := by
  intro x hx
  rcases List.mem_append.1 hx with h | h
  · exact hl x h
  · rw [List.mem_singleton.1 h]; exact hd
theorem sum_last {l : List Int} {d : Int} (hl : ∀ x ∈ l, Dig x) (hd : Dig d) : sumL (l ++ [d]) = mulD d (sumA l 1) := by
  rw [sum_append hl (by intro x hx; rw [List.mem_singleton.1 hx]; exact hd)]
  simp only [sumL, List.length_nil, turnN, List.length_singleton]
  rw [one_mul' hd]
theorem dig_zero : Dig 0 := ⟨by decide, by decide⟩
theorem inv_inv_fin : ∀ x : Fin 10, invD (invD x.val) = x.val := by decide +kernel
theorem inv_inv {x : Int} (hx : Dig x) : invD (invD x) = x := by obtain ⟨i, rfl⟩ := hx.fin; exact inv_inv_fin i
theorem inv_eq_fin : ∀ x y : Fin 10, (mulD x.val y.val = 0 ↔ (x.val : Int) = invD y.val) := by decide +kernel
theorem chk_iff {l : List Int} {d : Int} (hl : ∀ x ∈ l, Dig x) (hd : Dig d) : sumL (l ++ [d]) = 0 ↔ d = chkD l := by
  have hA := dig_sumA hl 1
  rw [sum_last hl hd, chkD, sum_last hl dig_zero, one_mul' hA]
  obtain ⟨i, rfl⟩ := hd.fin
  obtain ⟨j, hj⟩ := hA.fin
  rw [hj]
  exact inv_eq_fin i j
theorem dig_chk {l : List Int} (hl : ∀ x ∈ l, Dig x) : Dig (chkD l) := dig_inv (dig_sum (dig_app hl dig_zero))

theorem sum_n (A : Option Addr) (n c : Nat) (l : List Int) (w : World) (hlen : l.length = n) (hr : Rd w w.heap.size A (ints l)) (hl : ∀ x ∈ l, Dig x) (hn : n ≤ 1000) (ht : TabsR w) :
    Calls Tryd.prog 55 #[.slice A n c] w fun e w' => e = .returned (.int .i64 (sumL l)) ∧ ∃ n, w' = w.drewN n := by
  subst hlen
  exact sum_ok A c l w hr hl hn ht

theorem Tryd.infoInt : (Tryd.prog.info? 3).map (fun i => (i.zero, i.size, i.bytes)) = some (some (.int .i64 0), 1, 8) := by kernel_rfl
theorem Tryd.sizeInt : (Tryd.prog.info? 3).map (·.size) = some 1 := by kernel_rfl
theorem made_ints {w w1 : World} {n : Nat} (h : w1.ownsRow w.heap.size 3 1 (.slice (some ⟨w.heap.size, 0, none⟩) n n) n (madeCells (Value.int .i64 0).cells (n * 1)).toList) (hg : w.grownBy w1 none) :
    Below w.heap.size w w1 ∧ w1.heap[w.heap.size]? = some (.cells (ints (List.replicate n 0)).toArray 3 (0, 0)) := by
  refine ⟨(Below.refl _ _).grown hg (Nat.le_refl _) (by simp), ?_⟩
  have hcells : (madeCells (Value.int .i64 0).cells (n * 1)).toList = ints (List.replicate n 0) := by
    rw [Nat.mul_one]
    exact (toList_madeCells_one (.int .i64 0) n).trans (by simp [ints])
  rw [← hcells]
  exact own_full h
theorem checkDigit_ok (A : Option Addr) (c : Nat) (l : List Int) (w : World) (hr : Rd w w.heap.size A (ints l)) (hl : ∀ x ∈ l, Dig x) (hn : l.length ≤ 900) (ht : TabsR w) :
    Calls Tryd.prog 62 #[.slice A l.length c] w fun e w' => e = .returned (.int .i64 (chkD l)) ∧ Below w.heap.size w w' := by
  have HT := Lib.hid ht
  have HR := Lib.hid hr
  have HL := Lib.hid hl
  clear ht hr hl
  obtain ⟨i0, hi, hz0, hz1, hz2⟩ := info_parts Tryd.infoInt
  go_enter Tryd.func62, Tryd.ntmps62
  go_wp2_with (first
    | (at_make; refine wpList_make_full _ rfl (.tmp 6) (.tmp 6) 53 rfl w.heap.size 3 i0 (.int .i64 0) 1 Tryd.underlying53 hi hz0 hz1 .i64 .i64 _ _ (l.length + 1) rfl rfl (by omega) (by omega) (by rw [hz2]; omega) (by simp only [maxLen]; omega) (Nat.le_refl _) ?_; intro w1 hown1 hg1; have F := Lib.hid (made_ints hown1 hg1); clear hown1 hg1)
    | ((with_reducible show wpList _ _ _ (⟨some 10, _, _, _, _, _⟩ :: _) _ _); go_loud (refine wpList_copy_splice rfl (.tmp 8) (.tmp 9) 53 53 rfl 3 Tryd.underlying53 Tryd.sizeInt _ _ _ _ _ _ rfl rfl w.heap.size 0 (ints (List.replicate (l.length + 1) 0)) 3 F.out.2 (ints l) (by simp [ints]) (copy_from (HR.out.below F.out.1 (Nat.le_refl _))) (by simp [ints]) (ints_one _) w.heap.size w F.out.1 (Nat.le_refl _) ?_); intro w2 hg2 hb2; have HB2 := Lib.hid hb2; clear hb2))
  have hsp : splice (ints (List.replicate (l.length + 1) 0)) 0 (ints l) = ints (l ++ [0]) := by
    simp [splice, ints]
  rw [hsp] at hg2
  clear hsp
  go_wp2_with fail
  refine (sum_n _ _ _ (l ++ [0]) w2 (by simp) (Rd.of_block hg2.out) (dig_app HL.out dig_zero) (by omega) (HT.out.below' HB2.out)).mono ?_
  rintro e w' ⟨rfl, m, rfl⟩
  go_wp2_with fail
  refine (undo_ok _ _ (dig_sum (dig_app HL.out dig_zero)) ((HT.out.below' HB2.out).drewN m)).mono ?_
  rintro e w' ⟨rfl, rfl⟩
  go_wp2_with fail
  go_ret
  exact ⟨rfl, below_drewN HB2.out m⟩
end Go.Proofs.YtoenecgjiejljaaDoor
namespace Go.Proofs.YtoenecgjiejljaaDoor
open Go.RowKit
set_option linter.unusedVariables false

def chkV (l : List Int) : Int := if digE l 11 = 0 then chkD l else 0
theorem CheckDigit_any (A : Option Addr) (c : Nat) (l : List Int) (w : World) (hr : Rd w w.heap.size A (ints l)) (hn : l.length ≤ 900) (ht : TabsR w) :
    Calls Tryd.prog 35 #[.slice A l.length c] w fun e w' => e = .returned (.tuple #[.int .i64 (chkV l), .int .i64 (digE l 11)]) ∧ Below w.heap.size w w' := by
  have HT := Lib.hid ht
  have HR := Lib.hid hr
  clear ht hr
  unfold chkV
  by_cases h : digE l 11 = 0
  · rw [if_pos h]
    have h0 := digE_zero h
    have HL := Lib.hid h0.2
    have HV := Lib.hid (validate_any A c l 11 w HR.out (by omega))
    rw [h] at HV ⊢
    clear h0 h
    go_enter Tryd.func35, Tryd.ntmps35
    go_wp2_with fail
    refine HV.out.mono ?_
    rintro e w' ⟨rfl, rfl⟩
    go_wp2_with fail
    refine (checkDigit_ok A c l w HR.out HL.out hn HT.out).mono ?_
    rintro e w' ⟨rfl, hb⟩
    go_wp2_with fail
    go_ret2
    exact ⟨rfl, hb⟩
  · rw [if_neg h]
    have HV := Lib.hid (validate_any A c l 11 w HR.out (by omega))
    generalize digE l 11 = E at *
    have hE : (E == 0) = false := by simpa using h
    have hE' : (E != 0) = true := by simpa using h
    clear h
    go_enter Tryd.func35, Tryd.ntmps35
    go_wp2_with fail
    refine HV.out.mono ?_
    rintro e w' ⟨rfl, rfl⟩
    go_wp2_with fail
    go_ret2
    exact ⟨rfl, Below.refl _ _⟩

/-! ### The reference's -/
theorem rturned_nat (x T n : Int) (k : Nat) (w : World) (hx : Dig x) (h1 : k ≤ 1000) (hn : n = k) (hT : turnN k x = T) :
    Calls Tryd.prog 109 #[.int .i64 x, .int .i64 n] w fun e w' => e = .returned (.int .i64 T) ∧ w = w' := by
  subst hT; subst hn
  have := rturned_ok x k w hx (by omega) (by omega)
  simpa using this
theorem rsum_n (A : Option Addr) (n c : Nat) (l : List Int) (w : World) (hlen : l.length = n) (hr : Rd w w.heap.size A (ints l)) (hl : ∀ x ∈ l, Dig x) (hn : n ≤ 1000) :
    Calls Tryd.prog 57 #[.slice A n c] w fun e w' => e = .returned (.int .i64 (sumL l)) ∧ w = w' := by
  subst hlen
  have HR := Lib.hid hr
  have HL := Lib.hid hl
  clear hr hl
  go_enter Tryd.func57, Tryd.ntmps57
  go_wp2
  go_loop [3, 4] (fun t i => ∃ k : Nat, k ≤ l.length ∧ i = .int .i64 ((l.length : Int) - 1 - k) ∧ t = .int .i64 (sumL (l.drop (l.length - k)))) (fun _ i => (intOf i + 1).toNat)
  case atStart => exact ⟨0, by omega, by simp, by simp [sumL]⟩
  case round =>
    obtain ⟨k, hk, rfl, rfl⟩ := hrel
    by_cases hlt : k < l.length
    · obtain ⟨b, o, d, rfl, hd, hc⟩ := HR.out.int (l.length - 1 - k) (by omega)
      have HS := Lib.hid (drop_step hlt hd)
      have hS := dig_drop HL.out (l.length - k)
      have hdd := dig_at HL.out hd
      have Hd := Lib.hid hdd
      have hT := dig_turn hdd k
      generalize hs : sumL (l.drop (l.length - k)) = S at *
      generalize ht : turnN k d = T at *
      have H1 := Lib.hid ht
      have H3 := Lib.hid hS
      have H4 := Lib.hid hT
      clear ht hs hdd hS hT
      go_wp2_with (first | (go_at_call 109; refine (rturned_nat d T _ k w Hd.out (by omega) (by omega) H1.out).mono ?_; rintro e w' ⟨rfl, rfl⟩) | (go_at_call 108; refine (rtimes_ok S T w H3.out H4.out).mono ?_; rintro e w' ⟨rfl, rfl⟩))
      go_round
      case rel => exact ⟨k + 1, by omega, by go_num, by rw [HS.out]⟩
      case measure => simp [intOf]; omega
    · have hk' : k = l.length := by omega
      have HK := Lib.hid hk'
      clear hk'
      go_wp2
      go_ret
      exact ⟨by rw [HK.out]; simp, rfl⟩
theorem rsum_is (A : Option Addr) (n c : Nat) (l : List Int) (S : Int) (w : World) (hS : sumL l = S) (hlen : l.length = n) (hr : Rd w w.heap.size A (ints l)) (hl : ∀ x ∈ l, Dig x) (hn : n ≤ 1000) :
    Calls Tryd.prog 57 #[.slice A n c] w fun e w' => e = .returned (.int .i64 S) ∧ w = w' := by
  subst hS; exact rsum_n A n c l w hlen hr hl hn
theorem rcheck_ok (A : Option Addr) (c : Nat) (l : List Int) (w : World) (hr : Rd w w.heap.size A (ints l)) (hl : ∀ x ∈ l, Dig x) (hn : l.length ≤ 900) :
    Calls Tryd.prog 105 #[.slice A l.length c] w fun e w' => e = .returned (.int .i64 (chkD l)) ∧ Below w.heap.size w w' := by
  have HR := Lib.hid hr
  have HL := Lib.hid hl
  clear hr hl
  obtain ⟨i0, hi, hz0, hz1, hz2⟩ := info_parts Tryd.infoInt
  have hC := dig_chk HL.out
  have HC := Lib.hid hC
  obtain ⟨c0, c9⟩ := hC
  go_enter Tryd.func105, Tryd.ntmps105
  go_wp2
  go_loopw [3] (fun i wr => ∃ k : Int, 0 ≤ k ∧ k ≤ chkD l ∧ k ≤ 9 ∧ i = .int .i64 k ∧ Below w.heap.size w wr) (fun i _ => (9 - intOf i).toNat)
  case atStart => exact ⟨0, by omega, by omega, by omega, rfl, Below.refl _ _⟩
  case round =>
    obtain ⟨k, hk0, hk, hk9, rfl, hb⟩ := hrel
    have HB := Lib.hid hb
    have HR' := Lib.hid (HR.out.below hb (Nat.le_refl _))
    clear hb
    by_cases hlt : k < 9
    · have hdk : Dig k := ⟨hk0, hk9⟩
      have HK := Lib.hid hdk
      have hS := chk_iff HL.out hdk
      clear hdk
      obtain ⟨S, hs⟩ : ∃ S, sumL (l ++ [k]) = S := ⟨_, rfl⟩
      rw [hs] at hS
      have H1 := Lib.hid hs
      clear hs
      have O0 := Lib.hid (show (wr.alloc (.cells #[] 3)).ownsRow w.heap.size 3 1 (.slice (some ⟨wr.heap.size, 0, none⟩) 0 0) 0 [] from World.ownsRow_lit wr #[] 0 HB.out.size (Nat.zero_le _) rfl)
      have B0 := Lib.hid (show Below w.heap.size w (wr.alloc (.cells #[] 3)) from HB.out.alloc HB.out.size _)
      have S0 := Lib.hid (show w.heap.size ≤ (wr.alloc (.cells #[] 3)).heap.size from B0.out.size)
      by_cases hk' : k = chkD l
      · have ht : (S == 0) = true := by simpa using hS.2 hk'
        have H2 := Lib.hid hk'
        clear hS hk'
        go_wp2_with (first
          | ((with_reducible show wpList _ _ _ (⟨some 10, _, _, _, _, _⟩ :: _) _ _); go_loud (refine wpList_app _ rfl (.tmp 8) (.tmp 9) 53 rfl w.heap.size 3 i0 (.int .i64 0) 1 8 Tryd.underlying53 hi hz0 hz1 hz2 rfl (by decide) _ 0 [] rfl O0.out w.heap.size A l.length c (ints l) rfl (by simp [ints]) (HR.out.below B0.out (Nat.le_refl _)) (ints_one _) (by simp only [maxLen]; omega) (by omega) S0.out ?_); intro v1 w1 hown1 hg1 hat1; have O1 := Lib.hid hown1; have B1 := Lib.hid (Below.app B0.out O0.out hg1 S0.out (Nat.le_refl w.heap.size)); clear hown1 hg1 hat1)
          | ((with_reducible show wpList _ _ _ (⟨some 13, _, _, _, _, _⟩ :: _) _ _); go_loud (refine wpList_app _ rfl (.tmp 10) (.tmp 12) 53 rfl w.heap.size 3 i0 (.int .i64 0) 1 8 Tryd.underlying53 hi hz0 hz1 hz2 rfl (by decide) _ _ _ rfl (O1.out.alloc _) (w1.heap.size + 1) _ 1 1 (ints [k]) rfl rfl (Rd.one w1 _ _ (Nat.lt_succ_self _)) (ints_one _) (by simp only [maxLen]; omega) (by omega) (by have := B1.out.size; simp; omega) ?_); intro v2 w2 hown2 hg2 hat2; have B2 := Lib.hid (Below.app (B1.out.alloc B1.out.size (.cells #[.int .i64 k] 3)) (O1.out.alloc _) hg2 (by have := B1.out.size; simp; omega) (Nat.le_refl w.heap.size)); obtain ⟨A2, c2, rfl, _⟩ := own_form hown2; have O2 := Lib.hid hown2; clear hown2 hg2 hat2)
          | (go_at_call 57; go_loud (refine (rsum_is A2 _ c2 (l ++ [k]) S w2 H1.out (by simp) (by have := Rd.of_own O2.out; simpa [ints] using this) (dig_app HL.out HK.out) (by omega)).mono ?_); rintro e w' ⟨rfl, rfl⟩))

        go_ret
        exact ⟨by rw [← H2.out]; rfl, B2.out⟩
      · have ht : (S == 0) = false := by simpa using fun h => hk' (hS.1 h)
        have hlt' : k < chkD l := by omega
        clear hS hk'
        go_wp2_with (first
          | ((with_reducible show wpList _ _ _ (⟨some 10, _, _, _, _, _⟩ :: _) _ _); go_loud (refine wpList_app _ rfl (.tmp 8) (.tmp 9) 53 rfl w.heap.size 3 i0 (.int .i64 0) 1 8 Tryd.underlying53 hi hz0 hz1 hz2 rfl (by decide) _ 0 [] rfl O0.out w.heap.size A l.length c (ints l) rfl (by simp [ints]) (HR.out.below B0.out (Nat.le_refl _)) (ints_one _) (by simp only [maxLen]; omega) (by omega) S0.out ?_); intro v1 w1 hown1 hg1 hat1; have O1 := Lib.hid hown1; have B1 := Lib.hid (Below.app B0.out O0.out hg1 S0.out (Nat.le_refl w.heap.size)); clear hown1 hg1 hat1)
          | ((with_reducible show wpList _ _ _ (⟨some 13, _, _, _, _, _⟩ :: _) _ _); go_loud (refine wpList_app _ rfl (.tmp 10) (.tmp 12) 53 rfl w.heap.size 3 i0 (.int .i64 0) 1 8 Tryd.underlying53 hi hz0 hz1 hz2 rfl (by decide) _ _ _ rfl (O1.out.alloc _) (w1.heap.size + 1) _ 1 1 (ints [k]) rfl rfl (Rd.one w1 _ _ (Nat.lt_succ_self _)) (ints_one _) (by simp only [maxLen]; omega) (by omega) (by have := B1.out.size; simp; omega) ?_); intro v2 w2 hown2 hg2 hat2; have B2 := Lib.hid (Below.app (B1.out.alloc B1.out.size (.cells #[.int .i64 k] 3)) (O1.out.alloc _) hg2 (by have := B1.out.size; simp; omega) (Nat.le_refl w.heap.size)); obtain ⟨A2, c2, rfl, _⟩ := own_form hown2; have O2 := Lib.hid hown2; clear hown2 hg2 hat2)
          | (go_at_call 57; go_loud (refine (rsum_is A2 _ c2 (l ++ [k]) S w2 H1.out (by simp) (by have := Rd.of_own O2.out; simpa [ints] using this) (dig_app HL.out HK.out) (by omega)).mono ?_); rintro e w' ⟨rfl, rfl⟩))

        go_roundw
        case rel => exact ⟨k + 1, by omega, by omega, by omega, rfl, B2.out⟩
        case measure => simp [intOf]; omega
    · have hk' : (9 : Int) = chkD l := by omega
      have H2 := Lib.hid hk'
      clear hk'
      go_wp2
      go_ret
      exact ⟨by rw [← H2.out]; rfl, HB.out⟩
end Go.Proofs.YtoenecgjiejljaaDoor
