/-
  The roots that follow from a proof of growth in the reference: the walk of unfold. Condition: the list can be read.
-/
import Derived.Test.YtklhjiagkkhldaaBta
namespace Go.Proofs.Ytklhjiagkkhldaa
open Go.RowKit
set_option linter.unusedVariables false

set_option maxRecDepth 4000 in
set_option maxHeartbeats 8000000 in
theorem unfold_any (base : Int) (hbase : Sm1 base) : ∀ (n m : Nat) (old : Bool) (p : List Int) (A : Option Addr) (c : Nat) (w : World), 1 ≤ m → m ≤ n → n ≤ 64 → p.length ≤ 9223372036854775807 → AllSm p →
    Rd w w.heap.size A (ints p) →
    Calls Try.prog 68 #[.int .i64 m, .int .i64 n, .bool old, .int .i64 base, .slice A p.length c] w fun e w' => e = .returned (.tuple #[.int .i64 (uoF base m n old p).1, .int .i64 (uoF base m n old p).2, .int .i64 (uoU m n old p), .bool (uoK m n old p)]) ∧ ∃ mm, w' = w.drewN mm := by
  intro n
  induction n using Nat.strongRecOn with
  | _ n ih =>
    intro m old p A c w h1 hmn h64 hpl hsm hr
    by_cases hn : m = n
    · subst hn
      have k1 : ((m : Int) == (m : Int)) = true := by simp
      have k1' : (m == m) = true := by simp
      cases old
      · have hg : gsN m m false = 1 := gs_end (.inr rfl)
        by_cases hl0 : p.length = 0
        · have HF := Lib.hid (show uoF base m m false p = (0, 0) by unfold uoF; rw [hg, if_neg (by omega)])
          have HU := Lib.hid (show uoU m m false p = 0 by unfold uoU; rw [hg, if_neg (by omega)])
          have HK := Lib.hid (show uoK m m false p = false by unfold uoK; rw [hg]; exact decide_eq_false (by omega))
          rw [HF.out, HU.out, HK.out, hl0]
          clear ih hr hpl hl0 hg
          go_enter Try.func68, Try.ntmps68
          go_wp2_with fail
          (try simp only [Exit.inBlock, Exit.then])
          refine bodyPost_ret (results_tmp4 rfl _ _ _) rfl ?_
          exact ⟨rfl, 0, rfl⟩
        · obtain ⟨b, o, x, rfl, hx, cx⟩ := hr.int 0 (by omega)
          rw [Nat.add_zero] at cx
          have HF := Lib.hid (show uoF base m m false p = (x, x) by
            unfold uoF
            rw [hg, if_pos (by omega), un_end (.inr rfl)]
            have e1 : (p.take 1).length = 1 := by rw [List.length_take]; omega
            rw [if_neg (by simp), e1]
            show (gI (p.take 1) 0, gI (p.take 1) 0) = _
            rw [gI_take (by omega), gI_get hx.out])
          have HU := Lib.hid (show uoU m m false p = 1 by unfold uoU; rw [hg, if_pos (by omega)])
          have HK := Lib.hid (show uoK m m false p = true by unfold uoK; rw [hg]; exact decide_eq_true (by omega))
          rw [HF.out, HU.out, HK.out]
          have k2 : ((p.length : Int) == 0) = false := beq_eq_false_iff_ne.2 (by omega)
          have k2' : (p.length == 0) = false := beq_eq_false_iff_ne.2 hl0
          have b1 : (0 : Int) < (p.length : Int) := by omega
          have b1' : 0 < p.length := by omega
          clear ih hr hg hx hl0
          go_enter Try.func68, Try.ntmps68
          go_wp2_with fail
          go_quiet (fail)
          go_wp2_with fail
          (try simp only [Exit.inBlock, Exit.then])
          refine bodyPost_ret (results_tmp4 rfl _ _ _) rfl ?_
          exact ⟨rfl, _, rfl⟩
      · have hg : gsN m m true = 0 := gs_end (.inr rfl)
        have HF := Lib.hid (show uoF base m m true p = (base, base) by unfold uoF; rw [hg, if_pos (by omega), un_end (.inr rfl)]; rfl)
        have HU := Lib.hid (show uoU m m true p = 0 by unfold uoU; rw [hg, if_pos (by omega)])
        have HK := Lib.hid (show uoK m m true p = true by unfold uoK; rw [hg]; exact decide_eq_true (by omega))
        rw [HF.out, HU.out, HK.out]
        clear ih hr hg
        go_enter Try.func68, Try.ntmps68
        go_wp2_with fail
        (try simp only [Exit.inBlock, Exit.then])
        refine bodyPost_ret (results_tmp4 rfl _ _ _) rfl ?_
        exact ⟨rfl, 0, rfl⟩
    have e0 : ((m : Int) == (n : Int)) = false := beq_eq_false_iff_ne.2 (by omega)
    have e0' : (m == n) = false := beq_eq_false_iff_ne.2 hn
    have hsp := sp_lt (n := n) (by omega)
    have HS := Lib.hid (fun w => rsplit_any n w (by omega) h64)
    by_cases hi : m ≤ spN n
    · have hst := uo_step (base := base) (p := p) (show gsN m n old = gsN m (spN n) old + 1 from gs_left (by omega) hi)
      have hul : uoU m (spN n) old p ≤ 65 := by
        unfold uoU
        split
        · exact Nat.le_trans (gs_le _ _ _) (by omega)
        · omega
      have HC := Lib.hid (ih (spN n) (by omega) m old p A c w (by omega) (by omega) (by omega) hpl hsm hr)
      have hsc : Sm1 (uoF base m (spN n) old p).1 ∧ Sm1 (uoF base m (spN n) old p).2 := by
        unfold uoF
        split
        · exact un_sm _ _ _ _ _ (hsm.take _) hbase
        · unfold Sm1; omega
      have HSM := Lib.hid hsm
      have HR := Lib.hid hr
      have hres : ∀ q : List Int, unI base m n old q = ((unI base m (spN n) old (q.take (q.length - 1))).1, jn (unI base m (spN n) old (q.take (q.length - 1))).2 (gI q (q.length - 1))) := fun q => un_left (by omega) hi
      clear hsm hr
      rcases hst with ⟨s1, s2, s3, s4, s5, s6, s7⟩ | ⟨s1, s2, s3, s4, s5⟩ | ⟨s1, s3, s4, s5⟩
      · obtain ⟨b, o, x, hA, hx, cx⟩ := HR.out.int (uoU m (spN n) old p) s2
        have hgx := gI_get hx.out
        have hsx := HSM.out x (List.mem_of_getElem? hx.out)
        have hF : uoF base m n old p = ((uoF base m (spN n) old p).1, jn (uoF base m (spN n) old p).2 x) := by
          rw [s7, hres, ← s5, s6, hgx]
        rw [hF, s3, s4]
        rw [s1] at HC
        clear s1 s3 s4 s5 s6 s7 hgx hres hx hF
        subst hA
        generalize uoF base m (spN n) old p = yy at *
        obtain ⟨y, z⟩ := yy
        simp only at hsc HC ⊢
        generalize uoU m (spN n) old p = u at *
        have HJ2 := Lib.hid (fun w => rjoin_any z x w hsc.2 hsx)
        have HNone := Lib.hid trivial
        generalize spN n = k at *
        have e3 : decide ((m : Int) ≤ (k : Int)) = true := decide_eq_true (by omega)
        have e3' : decide (m ≤ k) = true := decide_eq_true (by omega)
        have e4 : decide ((p.length : Int) ≤ (u : Int)) = false := decide_eq_false (by omega)
        have e4' : decide (p.length ≤ u) = false := decide_eq_false (by omega)
        have b0 : (0 : Int) ≤ (u : Int) := by omega
        have b1 : (u : Int) < (p.length : Int) := by omega
        have q4 : IntKind.i64.wrap ((u : Int) + 1) = (u : Int) + 1 := by rw [IntKind.wrap_i64]; omega
        have q4' : wrap64 ((u : Int) + 1) = (u : Int) + 1 := by unfold wrap64; omega
        rw [show ((u + 1 : Nat) : Int) = (u : Int) + 1 by omega]
        clear ih hsc hsx hpl s2 hul
        go_enter Try.func68, Try.ntmps68
        go_wp2_with fail
        refine (HS.out w).mono ?_
        rintro e w' ⟨rfl, rfl⟩
        go_wp2_with fail
        refine HC.out.mono ?_
        rintro e w' ⟨rfl, mm, rfl⟩
        go_wp2_with fail
        refine (HJ2.out _).mono ?_
        rintro e w' ⟨rfl, rfl⟩
        go_wp2_with fail
        (try simp only [Exit.inBlock, Exit.then])
        refine bodyPost_ret (results_tmp4 rfl _ _ _) rfl ?_
        exact ⟨rfl, _, rfl⟩
      · rw [s5, s3, s4]
        rw [s1] at HC
        clear s1 s3 s4 s5 hres
        generalize uoF base m (spN n) old p = yy at *
        obtain ⟨y, z⟩ := yy
        simp only at hsc HC ⊢
        generalize uoU m (spN n) old p = u at *
        generalize spN n = k at *
        have e3 : decide ((m : Int) ≤ (k : Int)) = true := decide_eq_true (by omega)
        have e3' : decide (m ≤ k) = true := decide_eq_true (by omega)
        have e4 : decide ((p.length : Int) ≤ (u : Int)) = true := decide_eq_true (by omega)
        have e4' : decide (p.length ≤ u) = true := decide_eq_true (by omega)
        clear ih hsc hpl s2 hul
        go_enter Try.func68, Try.ntmps68
        go_wp2_with fail
        refine (HS.out w).mono ?_
        rintro e w' ⟨rfl, rfl⟩
        go_wp2_with fail
        refine HC.out.mono ?_
        rintro e w' ⟨rfl, mm, rfl⟩
        go_wp2_with fail
        (try simp only [Exit.inBlock, Exit.then])
        refine bodyPost_ret (results_tmp4 rfl _ _ _) rfl ?_
        exact ⟨rfl, _, rfl⟩
      · rw [s5, s3, s4]
        rw [s1] at HC
        clear s1 s3 s4 s5 hres
        generalize uoF base m (spN n) old p = yy at *
        obtain ⟨y, z⟩ := yy
        simp only at hsc HC ⊢
        generalize uoU m (spN n) old p = u at *
        generalize spN n = k at *
        have e3 : decide ((m : Int) ≤ (k : Int)) = true := decide_eq_true (by omega)
        have e3' : decide (m ≤ k) = true := decide_eq_true (by omega)
        clear ih hsc hpl hul
        go_enter Try.func68, Try.ntmps68
        go_wp2_with fail
        refine (HS.out w).mono ?_
        rintro e w' ⟨rfl, rfl⟩
        go_wp2_with fail
        refine HC.out.mono ?_
        rintro e w' ⟨rfl, mm, rfl⟩
        go_wp2_with fail
        (try simp only [Exit.inBlock, Exit.then])
        refine bodyPost_ret (results_tmp4 rfl _ _ _) rfl ?_
        exact ⟨rfl, _, rfl⟩
    · have hst := uo_step (base := base) (p := p) (show gsN m n old = gsN (m - spN n) (n - spN n) false + 1 from gs_right (by omega) (by omega) hn)
      have hul : uoU (m - spN n) (n - spN n) false p ≤ 65 := by
        unfold uoU
        split
        · exact Nat.le_trans (gs_le _ _ _) (by omega)
        · omega
      have HC := Lib.hid (ih (n - spN n) (by omega) (m - spN n) false p A c w (by omega) (by omega) (by omega) hpl hsm hr)
      have hsc : Sm1 (uoF base (m - spN n) (n - spN n) false p).1 ∧ Sm1 (uoF base (m - spN n) (n - spN n) false p).2 := by
        unfold uoF
        split
        · exact un_sm _ _ _ _ _ (hsm.take _) hbase
        · unfold Sm1; omega
      have HSM := Lib.hid hsm
      have HR := Lib.hid hr
      have hres : ∀ q : List Int, unI base m n old q = (jn (gI q (q.length - 1)) (unI base (m - spN n) (n - spN n) false (q.take (q.length - 1))).1, jn (gI q (q.length - 1)) (unI base (m - spN n) (n - spN n) false (q.take (q.length - 1))).2) := fun q => un_right (by omega) (by omega) hn
      clear hsm hr
      rcases hst with ⟨s1, s2, s3, s4, s5, s6, s7⟩ | ⟨s1, s2, s3, s4, s5⟩ | ⟨s1, s3, s4, s5⟩
      · obtain ⟨b, o, x, hA, hx, cx⟩ := HR.out.int (uoU (m - spN n) (n - spN n) false p) s2
        have hgx := gI_get hx.out
        have hsx := HSM.out x (List.mem_of_getElem? hx.out)
        have hF : uoF base m n old p = (jn x (uoF base (m - spN n) (n - spN n) false p).1, jn x (uoF base (m - spN n) (n - spN n) false p).2) := by
          rw [s7, hres, ← s5, s6, hgx]
        rw [hF, s3, s4]
        rw [s1] at HC
        clear s1 s3 s4 s5 s6 s7 hgx hres hx hF
        subst hA
        generalize uoF base (m - spN n) (n - spN n) false p = yy at *
        obtain ⟨y, z⟩ := yy
        simp only at hsc HC ⊢
        generalize uoU (m - spN n) (n - spN n) false p = u at *
        have HJ2 := Lib.hid (fun w => rjoin_any x z w hsx hsc.2)
        have HJ1 := Lib.hid (fun w => rjoin_any x y w hsx hsc.1)
        generalize spN n = k at *
        have e3 : decide ((m : Int) ≤ (k : Int)) = false := decide_eq_false (by omega)
        have e3' : decide (m ≤ k) = false := decide_eq_false (by omega)
        have e4 : decide ((p.length : Int) ≤ (u : Int)) = false := decide_eq_false (by omega)
        have e4' : decide (p.length ≤ u) = false := decide_eq_false (by omega)
        have b0 : (0 : Int) ≤ (u : Int) := by omega
        have b1 : (u : Int) < (p.length : Int) := by omega
        have q4 : IntKind.i64.wrap ((u : Int) + 1) = (u : Int) + 1 := by rw [IntKind.wrap_i64]; omega
        have q4' : wrap64 ((u : Int) + 1) = (u : Int) + 1 := by unfold wrap64; omega
        rw [show ((u + 1 : Nat) : Int) = (u : Int) + 1 by omega]
        rw [show ((m - k : Nat) : Int) = (m : Int) - (k : Int) by omega, show ((n - k : Nat) : Int) = (n : Int) - (k : Int) by omega] at HC
        clear ih hsc hsx hpl s2 hul
        go_enter Try.func68, Try.ntmps68
        go_wp2_with fail
        refine (HS.out w).mono ?_
        rintro e w' ⟨rfl, rfl⟩
        go_wp2_with fail
        refine HC.out.mono ?_
        rintro e w' ⟨rfl, mm, rfl⟩
        go_wp2_with fail
        go_quiet ((go_at_call 49; first | (with_reducible exact qs (HJ1.out _)) | (with_reducible exact qs (HJ2.out _)) | (with_reducible exact qs0 (HJ1.out _)) | (with_reducible exact qs0 (HJ2.out _))))
        go_wp2_with fail
        (try simp only [Exit.inBlock, Exit.then])
        refine bodyPost_ret (results_tmp4 rfl _ _ _) rfl ?_
        exact ⟨rfl, _, World.drewN_drewN _ _ _⟩
      · rw [s5, s3, s4]
        rw [s1] at HC
        clear s1 s3 s4 s5 hres
        generalize uoF base (m - spN n) (n - spN n) false p = yy at *
        obtain ⟨y, z⟩ := yy
        simp only at hsc HC ⊢
        generalize uoU (m - spN n) (n - spN n) false p = u at *
        generalize spN n = k at *
        have e3 : decide ((m : Int) ≤ (k : Int)) = false := decide_eq_false (by omega)
        have e3' : decide (m ≤ k) = false := decide_eq_false (by omega)
        have e4 : decide ((p.length : Int) ≤ (u : Int)) = true := decide_eq_true (by omega)
        have e4' : decide (p.length ≤ u) = true := decide_eq_true (by omega)
        rw [show ((m - k : Nat) : Int) = (m : Int) - (k : Int) by omega, show ((n - k : Nat) : Int) = (n : Int) - (k : Int) by omega] at HC
        clear ih hsc hpl s2 hul
        go_enter Try.func68, Try.ntmps68
        go_wp2_with fail
        refine (HS.out w).mono ?_
        rintro e w' ⟨rfl, rfl⟩
        go_wp2_with fail
        refine HC.out.mono ?_
        rintro e w' ⟨rfl, mm, rfl⟩
        go_wp2_with fail
        (try simp only [Exit.inBlock, Exit.then])
        refine bodyPost_ret (results_tmp4 rfl _ _ _) rfl ?_
        exact ⟨rfl, _, rfl⟩
      · rw [s5, s3, s4]
        rw [s1] at HC
        clear s1 s3 s4 s5 hres
        generalize uoF base (m - spN n) (n - spN n) false p = yy at *
        obtain ⟨y, z⟩ := yy
        simp only at hsc HC ⊢
        generalize uoU (m - spN n) (n - spN n) false p = u at *
        generalize spN n = k at *
        have e3 : decide ((m : Int) ≤ (k : Int)) = false := decide_eq_false (by omega)
        have e3' : decide (m ≤ k) = false := decide_eq_false (by omega)
        rw [show ((m - k : Nat) : Int) = (m : Int) - (k : Int) by omega, show ((n - k : Nat) : Int) = (n : Int) - (k : Int) by omega] at HC
        clear ih hsc hpl hul
        go_enter Try.func68, Try.ntmps68
        go_wp2_with fail
        refine (HS.out w).mono ?_
        rintro e w' ⟨rfl, rfl⟩
        go_wp2_with fail
        refine HC.out.mono ?_
        rintro e w' ⟨rfl, mm, rfl⟩
        go_wp2_with fail
        (try simp only [Exit.inBlock, Exit.then])
        refine bodyPost_ret (results_tmp4 rfl _ _ _) rfl ?_
        exact ⟨rfl, _, rfl⟩
end Go.Proofs.Ytklhjiagkkhldaa
