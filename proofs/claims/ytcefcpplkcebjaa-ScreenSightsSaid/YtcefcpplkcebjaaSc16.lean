/-
  The walk of Sights of the reference. No condition.
-/
import Derived.Test.YtcefcpplkcebjaaSc15
import Derived.Test.YtcefcpplkcebjaaBit
namespace Go.Proofs.Ytcefcpplkcebjaa
open Go.RowKit
set_option linter.unusedVariables false

def seePt (l : List Sg) (pts : List Pt) (i k : Nat) : Bool := match pts[i]?, pts[k]? with
  | some a, some b => seesB l a b
  | _, _ => false
theorem seePt_is {l : List Sg} {pts : List Pt} {i k : Nat} {a b : Pt} (h1 : pts[i]? = some a) (h2 : pts[k]? = some b) : seePt l pts i k = seesB l a b := by unfold seePt; rw [h1, h2]
def rowN (l : List Sg) (pts : List Pt) (i : Nat) : Nat := bitK (seePt l pts i) pts.length
def rowsK (l : List Sg) (pts : List Pt) (k : Nat) : List Int := (List.range k).map fun i => (rowN l pts i : Int)
def sightL (l : List Sg) (pts : List Pt) : List Int := rowsK l pts pts.length
def sightV (l : List Sg) (pts : List Pt) : List Int := if chkE l pts 16 = 0 then sightL l pts else []
theorem look_pts (l : List Sg) (pts : List Pt) : lookE l [] pts = chkE l pts 16 := by
  unfold lookE chkE
  by_cases hv : valE l = 0
  · rw [if_pos hv, if_pos hv]
    by_cases h : 16 < pts.length
    · rw [if_pos (.inr h), if_pos (by omega)]
    · rw [if_neg (by simp; omega), if_neg (by omega)]
      simp [allP]
  · rw [if_neg hv, if_neg hv]
theorem chk_zero {l : List Sg} {pts : List Pt} (h : chkE l pts 16 = 0) : valE l = 0 ∧ pts.length ≤ 16 ∧ ∀ e ∈ pts, okP e = true := by
  unfold chkE tE at h
  split at h
  · split at h
    · cases h
    · split at h
      · rename_i h1 h2 h3
        exact ⟨h1, by omega, fun e he => List.all_eq_true.1 h3 e he⟩
      · cases h
  · contradiction
theorem shl_one (k : Nat) (hk : k < 16) (W : World) : (binOp .shl 3 (.int .i64 1) (.int .u64 (k : Int))).run Try.prog W = .ok (.int .i64 ((2 ^ k : Nat) : Int)) W := by
  have : k = 0 ∨ k = 1 ∨ k = 2 ∨ k = 3 ∨ k = 4 ∨ k = 5 ∨ k = 6 ∨ k = 7 ∨ k = 8 ∨ k = 9 ∨ k = 10 ∨ k = 11 ∨ k = 12 ∨ k = 13 ∨ k = 14 ∨ k = 15 := by omega
  rcases this with rfl | rfl | rfl | rfl | rfl | rfl | rfl | rfl | rfl | rfl | rfl | rfl | rfl | rfl | rfl | rfl <;> (show _ = _; kernel_rfl)
theorem shl_one' (k : Nat) (hk : k < 16) (W : World) : (binOp .shl 3 (.int .i64 1) (.int .i64 (k : Int))).run Try.prog W = .ok (.int .i64 ((2 ^ k : Nat) : Int)) W := by
  have : k = 0 ∨ k = 1 ∨ k = 2 ∨ k = 3 ∨ k = 4 ∨ k = 5 ∨ k = 6 ∨ k = 7 ∨ k = 8 ∨ k = 9 ∨ k = 10 ∨ k = 11 ∨ k = 12 ∨ k = 13 ∨ k = 14 ∨ k = 15 := by omega
  rcases this with rfl | rfl | rfl | rfl | rfl | rfl | rfl | rfl | rfl | rfl | rfl | rfl | rfl | rfl | rfl | rfl <;> (show _ = _; kernel_rfl)
theorem pow_le {k : Nat} (h : k ≤ 16) : 2 ^ k ≤ 65536 := by
  have : (2 : Nat) ^ 16 = 65536 := by decide
  rw [← this]
  exact Nat.pow_le_pow_right (by omega) h
theorem bit_small (f : Nat → Bool) {k : Nat} (h : k ≤ 16) : bitK f k < 65536 := Nat.lt_of_lt_of_le (bitK_lt f k) (pow_le h)
set_option maxRecDepth 4000 in
set_option maxHeartbeats 1600000 in
theorem rSights_any (A1 A2 : Option Addr) (c1 c2 : Nat) (l : List Sg) (pts : List Pt) (w : World) (hr1 : Rd w w.heap.size A1 (l.flatMap Sg.cells)) (hr2 : Rd w w.heap.size A2 (pts.flatMap Pt.cells)) (hn1 : l.length ≤ 1000) (hn2 : pts.length ≤ 9223372036854775807) :
    Calls Try.prog 31 #[.slice A1 l.length c1, .slice A2 pts.length c2] w (MadeE w (sightV l pts) (chkE l pts 16)) := by
  have R1 := Lib.hid hr1
  have R2 := Lib.hid hr2
  have HV := Lib.hid (fun w h g => looked_any A1 none A2 c1 0 c2 l [] pts 0 pts.length w rfl rfl h (.inl rfl) g (by omega) (by decide) hn2)
  rw [look_pts] at HV
  clear hr1 hr2
  by_cases hv : chkE l pts 16 = 0
  · obtain ⟨hval, h16, hp⟩ := chk_zero hv
    have hl := pts_of hval
    have HS := Lib.hid (fun (a b : Pt) (h : a ∈ pts) (g : b ∈ pts) w r => rsees_any A1 c1 l a b w r hn1 hl (hp a h) (hp b g))
    have HE := Lib.hid (show sightV l pts = rowsK l pts pts.length from if_pos hv)
    rw [hv] at HV ⊢
    clear hv hval hp hl
    obtain ⟨see, hsee⟩ : ∃ f, seePt l pts = f := ⟨_, rfl⟩
    have HSee := Lib.hid (show ∀ i k a b, pts[i]? = some a → pts[k]? = some b → seesB l a b = see i k from fun i k a b h1 h2 => by rw [← hsee, seePt_is h1 h2])
    have HRow := Lib.hid (show ∀ k, rowsK l pts (k + 1) = rowsK l pts k ++ [(bitK (see k) pts.length : Int)] from fun k => by unfold rowsK rowN; rw [hsee, List.range_succ, List.map_append]; rfl)
    have HR0 := Lib.hid (show rowsK l pts 0 = [] from rfl)
    have HRL := Lib.hid (show ∀ k, (rowsK l pts k).length = k from fun k => by simp [rowsK])
    clear hsee
    generalize rowsK l pts = K at *
    go_enter Try.func31, Try.ntmps31
    go_wp2_with fail
    refine (HV.out w R1.out R2.out).mono ?_
    rintro e w1 ⟨rfl, hb⟩
    have B1 := Lib.hid hb
    clear hb
    go_wp2_with fail
    go_loopw [7, 8] (fun v i wr => ∃ (k : Nat) (A9 : Option Addr) (c9 : Nat), k ≤ pts.length ∧ i = .int .i64 k ∧ v = .slice A9 k c9 ∧ wr.ownsRow w1.heap.size 3 1 v k (ints (K k)) ∧ Below w1.heap.size w1 wr) (fun _ i _ => pts.length - (intOf i).toNat)
    case atStart => exact ⟨0, none, 0, by omega, rfl, rfl, by rw [HR0.out]; exact World.ownsRow_nil _ _ _ _, Below.refl _ _⟩
    case round =>
      obtain ⟨i, A9, c9, hi, rfl, rfl, hown, hb⟩ := hrel
      obtain ⟨wo, rfl⟩ : ∃ wo : World, wo = wr := ⟨_, rfl⟩
      have O := Lib.hid hown
      have BW := Lib.hid hb
      have BB := Lib.hid (B1.out.trans (hb.mono B1.out.size))
      clear hown hb
      by_cases hlt : i < pts.length
      · go_wp2_with fail
        go_loopw [9, 10] (fun n j wr => ∃ k : Nat, k ≤ pts.length ∧ j = .int .i64 k ∧ n = .int .i64 (bitK (see i) k : Int) ∧ Below wo.heap.size wo wr) (fun _ j _ => pts.length - (intOf j).toNat)
        case atStart => exact ⟨0, by omega, rfl, rfl, Below.refl _ _⟩
        case round =>
          obtain ⟨k, hk, rfl, rfl, hb⟩ := hrel
          have B4 := Lib.hid hb
          have B5 := Lib.hid (BB.out.trans (hb.mono BB.out.size))
          clear hb
          by_cases hlt2 : k < pts.length
          · obtain ⟨b, o, ⟨x0, y0⟩, rfl, hx, c0, c1'⟩ := (R2.out.below B5.out (Nat.le_refl _)).pt i hlt
            obtain ⟨b', o', ⟨x1, y1⟩, hbo, hy, d0, d1⟩ := (R2.out.below B5.out (Nat.le_refl _)).pt k hlt2
            cases hbo
            simp only at c0 c1' d0 d1
            have HQ := Lib.hid (HS.out _ _ (List.mem_of_getElem? hx.out) (List.mem_of_getElem? hy.out))
            rw [HSee.out i k _ _ hx.out hy.out] at HQ
            unfold Pt.v at HQ
            simp only at HQ
            have R3 := Lib.hid ((R1.out.below B5.out (Nat.le_refl _)).more B5.out.size)
            have g0 := fun d os => cell_regrown c0 d os
            have g1 := fun d os => cell_regrown c1' d os
            have f0 := fun d os => cell_regrown d0 d os
            have f1 := fun d os => cell_regrown d1 d os
            have hs := shl_one k (by omega)
            have hbk := bit_small (see i) (show k ≤ 16 by omega)
            have hpk := pow_le (show k ≤ 16 by omega)
            have HSt := Lib.hid (show ∀ q, see i k = q → (bitK (see i) (k + 1)) = bitK (see i) k + if q then 2 ^ k else 0 from fun q hq => by rw [bitK, hq])
            generalize bitK (see i) k = N at *
            obtain ⟨P, hP⟩ : ∃ P, 2 ^ k = P := ⟨_, rfl⟩
            have HP := Lib.hid (show ((2 : Int) ^ k) = (P : Int) by rw [← hP, Int.natCast_pow]; rfl)
            rw [hP] at HSt hpk
            clear hP hs
            obtain ⟨q, hq⟩ : ∃ q, see i k = q := ⟨_, rfl⟩
            have HStq := Lib.hid (HSt.out q hq)
            rw [hq] at HQ
            clear hq
            cases q
            · go_wp2_with fail
              refine wp_region_quiet_below (by kernel_rfl) (by kernel_rfl) ?_
              repeat (go_big_quiet_step (with_reducible exact Calls.regrown_of (HQ.out _ (rd_grown R3.out _ _))))
              refine wpQuiet_nil ?_
              intro _ hw'
              obtain ⟨⟨dq, osq⟩, hw''⟩ := hw'
              subst hw''
              have B6 := Lib.hid (B4.out.trans ((below_regrown wr dq osq).mono B4.out.size))
              go_wp2_with fail
              go_roundw
              case rel => exact ⟨k + 1, by omega, by go_num, by rw [HStq.out]; simp, B6.out⟩
              case measure => simp [intOf]; omega
            · go_wp2_with fail
              refine wp_region_quiet_below (by kernel_rfl) (by kernel_rfl) ?_
              repeat (go_big_quiet_step (with_reducible exact Calls.regrown_of (HQ.out _ (rd_grown R3.out _ _))))
              refine wpQuiet_nil ?_
              intro _ hw'
              obtain ⟨⟨dq, osq⟩, hw''⟩ := hw'
              subst hw''
              have B6 := Lib.hid (B4.out.trans ((below_regrown wr dq osq).mono B4.out.size))
              clear g0 g1 f0 f1
              go_wp2_with fail
              go_roundw
              case rel => exact ⟨k + 1, by omega, by go_num, by rw [HP.out, IntWalk.wrap64_in (P : Int) (by omega), IntWalk.wrap64_in _ (by omega), HStq.out]; simp, B6.out⟩
              case measure => simp [intOf]; omega
          · have hks : k = pts.length := by omega
            have HK := Lib.hid hks
            have O5 := Lib.hid (own_below O.out B4.out)
            have BW5 := Lib.hid (BW.out.trans (B4.out.mono BW.out.size))
            have HRi := Lib.hid (HRow.out i)
            rw [← hks] at HRi
            obtain ⟨N, hN⟩ : ∃ N : Nat, bitK (see i) k = N := ⟨_, rfl⟩
            rw [hN] at HRi ⊢
            clear hks hN
            go_wp2_with (at_builtin; refine app eInt rfl _ _ rfl rfl (O5.out.alloc _) (BW5.out.alloc BW5.out.size _) (size_alloc' BW5.out.size _) rfl (Rd.one wr (.int .i64 N) 3 (Nat.lt_succ_self _)) (by simp) (ints_one [(N : Int)]) (i + 1) rfl (by omega) ?_; intro A4 c4 w4 o4 b4 _ _; have O4 := Lib.hid o4; have B4' := Lib.hid b4; clear o4 b4)
            go_roundw
            case rel => exact ⟨i + 1, A4, c4, by omega, by go_num, rfl, by rw [HRi.out, ints_append]; exact O4.out, B4'.out⟩
            case measure => simp [intOf]; omega
      · have hks : i = pts.length := by omega
        have HK := Lib.hid hks
        clear hks
        go_wp2_with fail
        go_ret2
        exact ⟨A9, c9, by rw [HE.out, HRL.out, ← HK.out]; rfl, by have := Rd.of_own O.out; rw [HE.out, ← HK.out]; exact this, BB.out⟩
  · have hcv : sightV l pts = [] := if_neg hv
    rw [hcv]
    generalize chkE l pts 16 = E at *
    have hE : (E == 0) = false := by simpa using hv
    have hE' : (E != 0) = true := by simpa using hv
    clear hv hcv
    go_enter Try.func31, Try.ntmps31
    go_wp2_with fail
    refine (HV.out w R1.out R2.out).mono ?_
    rintro e w1 ⟨rfl, hb⟩
    go_wp2_with fail
    go_ret2
    exact ⟨none, 0, rfl, .inl rfl, hb⟩
end Go.Proofs.Ytcefcpplkcebjaa
