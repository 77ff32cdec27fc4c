/-
  The roots that follow from a proof of growth: the walks of the function inside Unfold that calls itself and of the reference's unfold. Condition: the list can be read.
-/
import Derived.Test.YtoenecgjiejljaaDoorBt9
namespace Go.Proofs.YtoenecgjiejljaaDoor
open Go.RowKit
set_option linter.unusedVariables false

theorem results_tmp4 {fn : Func} {t u v x : Tmp} (h : fn.results = #[.tmp t, .tmp u, .tmp v, .tmp x]) (tmps : Array Value) (P : Program) (w : World) :
    (results fn tmps).run P w = .ok (.tuple #[tmps.getD t undef, tmps.getD u undef, tmps.getD v undef, tmps.getD x undef]) w := by
  simp [results, h]
def tw (x : Int × Int) : Value := .tuple #[.int .i64 x.1, .int .i64 x.2]
set_option maxRecDepth 4000 in
set_option maxHeartbeats 4000000 in
theorem unf_any (base : Int) (bl bf : Nat) (hbase : Sm1 base) : ∀ (n m q : Nat) (old : Bool) (p : List Int) (A : Option Addr) (c : Nat) (w : World), 1 ≤ m → m ≤ n → n ≤ 64 → p.length = q → q = gsN m n old → q ≤ c → AllSm p →
    Rd w w.heap.size A (ints p) → w.cell? ⟨bl, 0, none⟩ = some (.int .i64 base) → w.cell? ⟨bf, 0, none⟩ = some (.func (.func 145) #[] #[.pointer (some ⟨bl, 0, none⟩), .pointer (some ⟨bf, 0, none⟩)]) →
    Calls Tryd.prog 145 #[.int .i64 m, .int .i64 n, .bool old, .slice A q c, .pointer (some ⟨bl, 0, none⟩), .pointer (some ⟨bf, 0, none⟩)] w fun e w' => e = .returned (.tuple #[.int .i64 (unI base m n old p).1, .int .i64 (unI base m n old p).2]) ∧ ∃ mm, w' = w.drewN mm := by
  intro n
  induction n using Nat.strongRecOn with
  | _ n ih =>
    intro m q old p A c w h1 hmn h64 hpq hq hqc hsm hr c0 c1
    by_cases hn : m = n
    · subst hn
      have k1 : ((m : Int) == (m : Int)) = true := by simp
      have k1' : (m == m) = true := by simp
      cases old
      · rw [gs_end (.inr rfl)] at hq
        obtain rfl : q = 1 := hq
        obtain ⟨b, o, x, rfl, hx, cx⟩ := hr.int 0 (by omega)
        rw [Nat.add_zero] at cx
        have HX := Lib.hid (show unI base m m false p = (x, x) by rw [un_end (.inr rfl), hpq]; show (gI p 0, gI p 0) = _; rw [gI_get hx.out])
        rw [HX.out]
        clear ih hr c0 c1
        go_enter Tryd.func145, Tryd.ntmps145
        go_wp2_with fail
        go_quiet (fail)
        go_wp2_with fail
        go_ret2
        exact ⟨rfl, _, rfl⟩
      · have HX := Lib.hid (show unI base m m true p = (base, base) by rw [un_end (.inr rfl)]; rfl)
        rw [HX.out]
        clear ih hr c1
        go_enter Tryd.func145, Tryd.ntmps145
        go_wp2_with fail
        go_quiet (fail)
        go_wp2_with fail
        go_ret2
        exact ⟨rfl, _, rfl⟩
    have e0 : ((m : Int) == (n : Int)) = false := beq_eq_false_iff_ne.2 (by omega)
    have e0' : (m == n) = false := beq_eq_false_iff_ne.2 hn
    have hsp := sp_lt (n := n) (by omega)
    have HS := Lib.hid (fun w => split_any n w (by omega) h64)
    by_cases hi : m ≤ spN n
    · have hdp : gsN m n old = gsN m (spN n) old + 1 := gs_left (by omega) hi
      obtain ⟨d, hd⟩ : ∃ d, gsN m (spN n) old = d := ⟨_, rfl⟩
      rw [hdp, hd] at hq
      obtain ⟨b, o, rfl⟩ := hr.some_ (by omega)
      obtain ⟨b2, o2, x, hb2, hx, cx⟩ := hr.int d (by omega)
      cases hb2
      have hd64 : d ≤ 65 := by rw [← hd]; exact Nat.le_trans (gs_le _ _ _) (by omega)
      have hsx := hsm x (List.mem_of_getElem? hx.out)
      have hgx := gI_get hx.out
      have HC := Lib.hid (fun mm => ih (spN n) (by omega) m d old (p.take d) (some ⟨b, o, none⟩) c (w.drewN mm) (by omega) (by omega) (by omega) (by rw [List.length_take]; omega) hd.symm (by omega) (hsm.take _) (by have := hr.take d; rw [ints_take] at this; exact this) c0 c1)
      have HX := Lib.hid (show unI base m n old p = ((unI base m (spN n) old (p.take d)).1, jn (unI base m (spN n) old (p.take d)).2 x) by rw [un_left (by omega) hi, hpq, hq, Nat.add_sub_cancel, hgx])
      have hsc := un_sm (spN n) m old (p.take d) base (hsm.take _) hbase
      rw [HX.out]
      generalize unI base m (spN n) old (p.take d) = yy at *
      obtain ⟨y, z⟩ := yy
      simp only at hsc HC ⊢
      have HJ2 := Lib.hid (fun w => join_any z x w hsc.2 hsx)
      
      generalize spN n = k at *
      have e3 : decide ((m : Int) ≤ (k : Int)) = true := decide_eq_true (by omega)
      have e3' : decide (m ≤ k) = true := decide_eq_true (by omega)
      have q1 : wrap64 ((q : Int) - 1) = (d : Int) := by unfold wrap64; omega
      have b0 : (0 : Int) ≤ (d : Int) := by omega
      have b1 : (d : Int) < (q : Int) := by omega
      have b1' : d < q := by omega
      have b2 : (d : Int) ≤ (c : Int) := by omega
      have b3 : d ≤ c := by omega
      clear ih hr hx hd hdp hsc hgx hpq hq hd64 hqc hsx HX
      go_enter Tryd.func145, Tryd.ntmps145
      go_wp2_with fail
      refine (HS.out w).mono ?_
      rintro e w' ⟨rfl, rfl⟩
      go_wp2_with fail
      go_quiet ((go_at_call 145; with_reducible exact qmB (HC.out _)))
      go_wp2_with fail
      refine (HJ2.out _).mono ?_
      rintro e w' ⟨rfl, rfl⟩
      go_wp2_with fail
      go_ret2
      exact ⟨rfl, _, rfl⟩
    · have hdp : gsN m n old = gsN (m - spN n) (n - spN n) false + 1 := gs_right (by omega) (by omega) hn
      obtain ⟨d, hd⟩ : ∃ d, gsN (m - spN n) (n - spN n) false = d := ⟨_, rfl⟩
      rw [hdp, hd] at hq
      obtain ⟨b, o, rfl⟩ := hr.some_ (by omega)
      obtain ⟨b2, o2, x, hb2, hx, cx⟩ := hr.int d (by omega)
      cases hb2
      have hd64 : d ≤ 65 := by rw [← hd]; exact Nat.le_trans (gs_le _ _ _) (by omega)
      have hsx := hsm x (List.mem_of_getElem? hx.out)
      have hgx := gI_get hx.out
      have HC := Lib.hid (fun mm => ih (n - spN n) (by omega) (m - spN n) d false (p.take d) (some ⟨b, o, none⟩) c (w.drewN mm) (by omega) (by omega) (by omega) (by rw [List.length_take]; omega) hd.symm (by omega) (hsm.take _) (by have := hr.take d; rw [ints_take] at this; exact this) c0 c1)
      have HX := Lib.hid (show unI base m n old p = (jn x (unI base (m - spN n) (n - spN n) false (p.take d)).1, jn x (unI base (m - spN n) (n - spN n) false (p.take d)).2) by rw [un_right (by omega) (by omega) hn, hpq, hq, Nat.add_sub_cancel, hgx])
      have hsc := un_sm (n - spN n) (m - spN n) false (p.take d) base (hsm.take _) hbase
      rw [HX.out]
      generalize unI base (m - spN n) (n - spN n) false (p.take d) = yy at *
      obtain ⟨y, z⟩ := yy
      simp only at hsc HC ⊢
      have HJ2 := Lib.hid (fun w => join_any x z w hsx hsc.2)
      have HJ1 := Lib.hid (fun w => join_any x y w hsx hsc.1)
      generalize spN n = k at *
      have e3 : decide ((m : Int) ≤ (k : Int)) = false := decide_eq_false (by omega)
      have e3' : decide (m ≤ k) = false := decide_eq_false (by omega)
      have q1 : wrap64 ((q : Int) - 1) = (d : Int) := by unfold wrap64; omega
      have b0 : (0 : Int) ≤ (d : Int) := by omega
      have b1 : (d : Int) < (q : Int) := by omega
      have b1' : d < q := by omega
      have b2 : (d : Int) ≤ (c : Int) := by omega
      have b3 : d ≤ c := by omega
      rw [show ((m - k : Nat) : Int) = (m : Int) - (k : Int) by omega, show ((n - k : Nat) : Int) = (n : Int) - (k : Int) by omega] at HC
      have q2 : IntKind.i64.wrap ((m : Int) - (k : Int)) = (m : Int) - (k : Int) := by rw [IntKind.wrap_i64]; omega
      have q3 : IntKind.i64.wrap ((n : Int) - (k : Int)) = (n : Int) - (k : Int) := by rw [IntKind.wrap_i64]; omega
      clear ih hr hx hd hdp hsc hgx hpq hq hd64 hqc hsx HX
      go_enter Tryd.func145, Tryd.ntmps145
      go_wp2_with fail
      refine (HS.out w).mono ?_
      rintro e w' ⟨rfl, rfl⟩
      go_wp2_with fail
      go_quiet ((go_at_call 145; with_reducible exact qmB (HC.out _)))
      go_wp2_with fail
      go_quiet ((go_at_call 97; first | (with_reducible exact qs (HJ1.out _)) | (with_reducible exact qs (HJ2.out _)) | (with_reducible exact qs0 (HJ1.out _)) | (with_reducible exact qs0 (HJ2.out _))))
      go_wp2_with fail
      go_ret2
      exact ⟨rfl, _, World.drewN_drewN _ _ _⟩
end Go.Proofs.YtoenecgjiejljaaDoor
