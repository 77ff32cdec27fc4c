/-
  The least ring that fits a worn one: the walk of First of the reference. Condition: sizes.
-/
import Derived.Test.YtoenecgjiejljaaDoorRca
namespace Go.Proofs.YtoenecgjiejljaaDoor
open Go.RowKit
set_option linter.unusedVariables false

set_option maxRecDepth 8000 in
set_option maxHeartbeats 4000000 in
theorem rFirst_any (s : ByteArray) (w : World) (hsz : s.size ≤ 900) :
    Calls Tryd.prog 28 #[.string s] w fun e w' => e = .returned (.tuple #[.string (frS s), .bool (frB s), .int .i64 (ctE s)]) ∧ Below w.heap.size w w' := by
  have H1 := Lib.hid (rIsWorn_any s w (by omega))
  cases hf : formB s true with
  | false =>
    have e1 : ctE s = 2 := by unfold ctE; rw [hf]; rfl
    have e2 : frB s = false := by unfold frB; rw [hf]; rfl
    have e3 : frS s = ⟨#[]⟩ := by unfold frS; rw [e2]; rfl
    rw [hf] at H1
    rw [e1, e2, e3]
    clear hf e1 e2 e3
    go_enter Tryd.func28, Tryd.ntmps28
    go_wp2_with fail
    refine (H1.out).mono ?_
    rintro e w' ⟨rfl, rfl⟩
    go_wp2_with fail
    go_ret3
    exact ⟨rfl, Below.refl _ _⟩
  | true =>
  have e1 : ctE s = 0 := by unfold ctE; rw [hf]; rfl
  have hs := form_size hf
  have hwl : (wL s).length = 6 := wlK_length s 6
  have hwd := wl_dig hf
  rw [hf] at H1
  rw [e1]
  have HD := Lib.hid (fun w => wornDigits_own s w (by omega) (by omega))
  have HC := Lib.hid (fun A c l w hr hw hl => counted_any A c l w hr hw hl)
  have HI := Lib.hid (fun f w => tenIdx f w)
  obtain ⟨h, hh⟩ : ∃ h, s.size = h + 6 := ⟨s.size - 6, by omega⟩
  have hhl : (bl (headB s)).length = h := by rw [head_len]; omega
  have h2 : h ≤ 2 := by omega
  have HB := Lib.hid (show ∀ k, k < h → (bl (headB s))[k]? = some (s.data.toList.getD k 0) from fun k hk => by
    unfold headB
    rw [bl_extract, List.drop_zero, List.getElem?_take, if_pos (by omega), List.getD_eq_getElem?_getD]
    have : k < (bl s).length := by rw [bl_len]; omega
    rw [List.getElem?_eq_getElem this]
    show _ = some ((bl s)[k]?.getD 0)
    rw [List.getElem?_eq_getElem this]; rfl)
  have HX := Lib.hid (show ∀ (k : Nat) (hk : k < s.size), s.data.toList.getD k 0 = s[k]'hk from fun k hk => by
    rw [List.getD_eq_getElem?_getD, List.getElem?_eq_getElem (by simpa using hk)]; rfl)
  have HE := Lib.hid (show ∀ (k : Nat) (hk : k < s.size), s.extract k (k + 1) = sL [s[k]'hk] from fun k hk => by
    apply bl_inj
    rw [bl_extract, bl_sL, show k + 1 - k = 1 by omega]
    have : k < (bl s).length := by rw [bl_len]; omega
    rw [List.drop_eq_getElem_cons this]
    rfl)
  have q1 : ((s.size : Int) - 6) = (h : Int) := by omega
  have hh2 : (h : Int) ≤ 2 := by omega
  have HH := Lib.hid hh
  have HHL := Lib.hid hhl
  have HFS := Lib.hid (show frS s = if frB s = true then rT (hdF (bl (headB s))) (gr [] (wL s)) else ⟨#[]⟩ by unfold frS; rfl)
  have HFB := Lib.hid (show frB s = decide (wyL (wL s) 0 ≠ 0) by unfold frB; rw [hf, Bool.true_and])
  have HWD := Lib.hid hwd
  have HWL := Lib.hid hwl
  clear hf e1 hs hh hhl hwl hwd
  generalize frS s = FS at *
  generalize frB s = FB at *
  generalize wL s = L at *
  generalize bl (headB s) = hd at *
  go_enter Tryd.func28, Tryd.ntmps28
  go_wp2_with fail
  refine (H1.out).mono ?_
  rintro e w' ⟨rfl, rfl⟩
  go_wp2_with fail
  go_loop [5, 6] (fun v i => ∃ k : Nat, k ≤ h ∧ i = .int .i64 k ∧ v = .string (sL (hdF (hd.take k)))) (fun _ i => h - (intOf i).toNat)
  case atStart => exact ⟨0, by omega, rfl, rfl⟩
  case round =>
    obtain ⟨k, hk, rfl, rfl⟩ := hrel
    by_cases hlt : k < h
    · have hp : k < s.size := by have := HH.out; omega
      have hN := hdF_next (HB.out k hlt)
      rw [HX.out k hp] at hN
      have hlt' : (k : Int) < (h : Int) := by omega
      have hsz1 : (sL (hdF (hd.take k))).size ≤ 2 := by rw [sL_size]; unfold hdF; rw [List.length_map, List.length_take]; omega
      have HN := Lib.hid hN
      have hb0 := UInt8.toNat_lt (s[k]'hp)
      have hE := HE.out k hp
      clear hN
      by_cases hc : s[k]'hp = 63
      · have q2 : (((s[k]'hp).toNat : Int) == 63) = true := by rw [hc]; decide
        have q3 : ((s[k]'hp).toNat == 63) = true := by rw [hc]; decide
        rw [if_pos hc] at HN
        have HZ := Lib.hid HN.out
        generalize sL (hdF (hd.take k)) = u at *
        clear hc hE HN
        go_wp2_with fail
        go_round
        case rel => exact ⟨k + 1, by omega, by go_num, by rw [HZ.out]; rfl⟩
        case measure => simp [intOf]; omega
      · have hne : (s[k]'hp).toNat ≠ 63 := fun e => hc (UInt8.toNat_inj.1 e)
        have q2 : (((s[k]'hp).toNat : Int) == 63) = false := by rw [beq_eq_false_iff_ne]; omega
        have q3 : ((s[k]'hp).toNat == 63) = false := by rw [beq_eq_false_iff_ne]; exact hne
        rw [if_neg hc] at HN
        have k0 : (0 : Int) ≤ (k : Int) := by omega
        have k1 : (k : Int) ≤ (k : Int) + 1 := by omega
        have k2 : (k : Int) + 1 ≤ (s.size : Int) := by omega
        have k3 : ((k : Int) + 1).toNat = k + 1 := by omega
        have k4 : (0 : Int) ≤ (k : Int) + 1 := by omega
        have hz1 : (sL [s[k]'hp]).size = 1 := by rw [sL_size]; rfl
        generalize sL [s[k]'hp] = one at *
        generalize sL (hdF (hd.take k)) = u at *
        clear hc hne
        go_wp2_with fail
        go_round
        case rel => exact ⟨k + 1, by omega, by go_num, by rw [HN.out]⟩
        case measure => simp [intOf]; omega
    · obtain rfl : k = h := by omega
      have HF := Lib.hid (show hd.take k = hd from List.take_of_length_le (by rw [HHL.out]; omega))
      rw [HF.out]
      have hzz : (sL (hdF hd)).size ≤ 2 := by rw [sL_size]; unfold hdF; rw [List.length_map, HHL.out]; omega
      generalize hu : sL (hdF hd) = u at *
      have HU := Lib.hid hu
      have HU2 := Lib.hid hu
      clear hu HB HX HE
      go_wp2_with fail
      refine (HD.out w).mono ?_
      rintro e w1 ⟨A, c, rfl, ho, hb⟩
      obtain ⟨g, rfl⟩ := own_some ho (by omega)
      have O1 := Lib.hid ho
      have B1 := Lib.hid hb
      clear ho hb
      go_wp2_with fail
      refine (HC.out _ c L w1 (Rd.of_own O1.out) HWD.out HWL.out).mono ?_
      rintro e w2 ⟨rfl, hb⟩
      have O2 := Lib.hid (own_below O1.out hb)
      have B2 := Lib.hid (B1.out.trans (hb.mono B1.out.size))
      clear hb
      have hI := HI.out (wvF L)
      have hv0 : wvF L 0 = ((wyL L 0 : Nat) : Int) := rfl
      rw [hv0] at hI
      generalize rowV (moV (wvF L)) 10 = row at *
      by_cases hy : wyL L 0 = 0
      · have e2 : FB = false := by rw [HFB.out, decide_eq_false (by simp [hy])]
        have e3 : FS = ⟨#[]⟩ := by rw [HFS.out, e2]; rfl
        rw [hy] at hI
        subst e2 e3
        clear hy hv0
        go_wp2_with fail
        go_ret3
        exact ⟨rfl, B2.out⟩
      · have e2 : FB = true := by rw [HFB.out, decide_eq_true hy]
        have e3 : FS = rT (hdF hd) (gr [] L) := by rw [HFS.out, e2]; rfl
        have q5 : (((wyL L 0 : Nat) : Int) == 0) = false := by rw [beq_eq_false_iff_ne]; omega
        have q5' : (wyL L 0 == 0) = false := by rw [beq_eq_false_iff_ne]; exact hy
        have HFF := Lib.hid e3
        subst e2
        generalize wyL L 0 = Y at *
        clear hv0 hy
        go_wp2_with fail
        clear hI q5 q5' HH HHL HF hk hlt q1 hh2 h2 HFS HFB HU H1 HD
        have HL0 := Lib.hid (show gr [] L = gr [] L from rfl)
        generalize hF : gr [] L = F at HFF
        have HF0 := Lib.hid hF
        clear hF HL0
        go_loopw [8] (fun i wr => ∃ a r : List Int, (∀ x ∈ a, Dig x) ∧ WDig r ∧ a.length + r.length = 6 ∧ i = .int .i64 a.length ∧ gr a r = F ∧ wr.ownsRow w.heap.size 3 1 (.slice (some ⟨g, 0, none⟩) 6 c) 6 (ints (a ++ r)) ∧ Below w.heap.size w wr) (fun i _ => 6 - (intOf i).toNat)
        case atStart => exact ⟨[], L, by simp, HWD.out, by rw [HWL.out]; rfl, rfl, HF0.out, O2.out, B2.out⟩
        case round =>
          obtain ⟨a, r, ha, hr, hal, rfl, hgr, ho, hb⟩ := hrel
          have HA := Lib.hid ha
          have HR := Lib.hid hr
          have HG := Lib.hid hgr
          have O := Lib.hid ho
          have B := Lib.hid hb
          clear ha hr hgr ho hb
          cases r with
          | nil =>
            have ha6 : a.length = 6 := by simpa using hal
            have HRT := Lib.hid (show sL (hdF hd) ++ sL (a.map dgB) = FS by rw [HFF.out, ← HG.out, sL_app]; rfl)
            rw [HU2.out] at HRT
            have hT := Lib.hid (fun w h => text_ok u (some ⟨g, 0, none⟩) 6 c a w ha6 h HA.out (by omega) (by omega))
            have hR := Rd.of_own O.out
            rw [List.append_nil] at hR
            have HRd := Lib.hid hR
            rw [ha6]
            clear hR hal ha6
            go_wp2_with fail
            refine (hT.out wr HRd.out).mono ?_
            rintro e w9 ⟨rfl, rfl⟩
            go_wp2_with fail
            go_ret3
            exact ⟨by rw [← HRT.out]; rfl, B.out⟩
          | cons x r =>
            have hal' : a.length + 1 + r.length = 6 := by simp at hal; omega
            have i0 : (0 : Int) ≤ (a.length : Int) := by omega
            have i6 : (a.length : Int) < 6 := by omega
            have hc : wr.cell? ⟨g, a.length, none⟩ = some (.int .i64 x) := by
              rw [O.out.cellAt a.length (by omega)]
              unfold ints
              rw [List.getElem?_map, List.getElem?_append_right (Nat.le_refl _), Nat.sub_self]
              rfl
            obtain ⟨wo, hwo⟩ : ∃ wo : World, wo = wr := ⟨_, rfl⟩
            rw [← hwo] at O B hc ⊢
            clear hwo
            by_cases hx : x < 0
            case neg =>
              have hxd : Dig x := by
                rcases HR.out x (by simp) with h1 | h1
                · omega
                · exact h1
              have HXD := Lib.hid hxd
              have e1 : decide (x < 0) = false := decide_eq_false hx
              have HG2 := Lib.hid (gr_digit hx a r)
              clear hxd hx
              go_wp2_with fail
              go_loopw [9] (fun i wr => i = .int .i64 0 ∧ wr = wo) (fun _ _ => 0)
              case atStart => exact ⟨rfl, rfl⟩
              case round =>
                obtain ⟨rfl, hww⟩ := hrel
                rw [hww]
                clear hww
                go_wp2_with fail
                go_roundw
                case rel => exact ⟨a ++ [x], r, fun y hy => by
                    rcases List.mem_append.1 hy with hy | hy
                    · exact HA.out y hy
                    · rw [List.mem_singleton.1 hy]; exact HXD.out, fun y hy => HR.out y (List.mem_cons_of_mem _ hy), by simp; omega, by simp, by rw [← HG2.out]; exact HG.out, by rw [List.append_assoc]; exact O.out, B.out⟩
                case measure => simp [intOf]; omega
            case pos =>
            have hx1 : x = -1 := by
              rcases HR.out x (by simp) with h1 | h1
              · exact h1
              · have := h1.1; omega
            subst hx1
            have HR' := Lib.hid (show WDig r from fun y hy => HR.out y (List.mem_cons_of_mem _ hy))
            have ht10 := tg_lt HA.out HR'.out (by omega)
            have HTI := Lib.hid (fun d hd => tg_iff HA.out HR'.out hal' (d := d) hd)
            have HG2 := Lib.hid (gr_worn a r)
            clear hx hc
            generalize tg a r = t at *
            go_wp2_with fail
            go_loopw [9] (fun i wr => ∃ d : Nat, i = .int .i64 d ∧ Below w.heap.size w wr ∧ ((d ≤ t ∧ wr.ownsRow w.heap.size 3 1 (.slice (some ⟨g, 0, none⟩) 6 c) 6 (ints (a ++ (-1) :: r))) ∨ (d = t + 1 ∧ wr.ownsRow w.heap.size 3 1 (.slice (some ⟨g, 0, none⟩) 6 c) 6 (ints (a ++ (t : Int) :: r))))) (fun i _ => 12 - (intOf i).toNat)
            case atStart => exact ⟨0, rfl, B.out, .inl ⟨by omega, O.out⟩⟩
            case round =>
              obtain ⟨d, rfl, hb, hor⟩ := hrel
              have B3 := Lib.hid hb
              clear hb
              rcases hor with ⟨hd, ho⟩ | ⟨hd, ho⟩
              · have O3 := Lib.hid ho
                have hc : wr.cell? ⟨g, a.length, none⟩ = some (.int .i64 (-1)) := by
                  rw [ho.cellAt a.length (by omega)]
                  unfold ints
                  rw [List.getElem?_map, List.getElem?_append_right (Nat.le_refl _), Nat.sub_self]
                  rfl
                clear ho
                have hYv : wvF (a ++ (d : Int) :: r) 0 = ((wyL (a ++ (d : Int) :: r) 0 : Nat) : Int) := rfl
                have hI := HI.out (wvF (a ++ (d : Int) :: r))
                rw [hYv] at hI
                have HCd := Lib.hid (fun A c w hr => HC.out A c (a ++ (d : Int) :: r) w hr (fun x hx => by
                  rcases List.mem_append.1 hx with hx | hx
                  · exact .inr (HA.out x hx)
                  · rcases List.mem_cons.1 hx with rfl | hx
                    · exact .inr (nat_dig (by omega))
                    · exact HR'.out x hx) (by rw [List.length_append, List.length_cons]; omega))
                have HT1 := HTI.out d hd
                generalize rowV (moV (wvF (a ++ (d : Int) :: r))) 10 = row2 at *
                generalize wyL (a ++ (d : Int) :: r) 0 = Y2 at *
                clear hYv
                by_cases hdt : d = t
                · have hy2 := HT1.2 hdt
                  have q7 : decide (0 < (Y2 : Int)) = true := decide_eq_true (by omega)
                  have q7' : decide (0 < Y2) = true := decide_eq_true (by omega)
                  have HDT := Lib.hid hdt
                  clear HT1 hy2 hdt
                  go_wp2_with ((with_reducible show wpList _ _ _ (⟨some 53, _, _, _, _, _⟩ :: _) _ _); refine app eInt' rfl _ _ rfl rfl (own_lit wr 3 1 (Nat.le_refl _)) ((Below.refl wr.heap.size wr).alloc (Nat.le_refl _) _) (size_alloc' (Nat.le_refl _) _) rfl ((Rd.of_own O3.out).below ((Below.refl wr.heap.size wr).alloc (Nat.le_refl _) _) (Nat.le_refl _)) (by rw [ints_length, List.length_append, List.length_cons]; omega) (ints_one _) 6 rfl (by omega) ?_; intro A4 c4 w4 o4 b4 g4 _; obtain ⟨g2, rfl⟩ := own_some o4 (by omega); have ST := own_put o4 (k := a.length) (.int .i64 d); have f2 := ST.2.1; have hc2 := o4.cellAt a.length (by omega); rw [show ([] ++ ints (a ++ (-1) :: r))[a.length]? = some (.int .i64 (-1)) from by unfold ints; rw [List.nil_append, List.getElem?_map, List.getElem?_append_right (Nat.le_refl _), Nat.sub_self]; rfl] at hc2; have S1 := Lib.hid ST; have B4 := Lib.hid b4; clear o4 b4 g4 ST)
                  have hb5 : Below wr.heap.size wr (w4.setCell ⟨g2, a.length, none⟩ (.int .i64 d)) := Below.setCell B4.out S1.out.2.2 _
                  have O5 := Lib.hid (show (w4.setCell ⟨g2, a.length, none⟩ (.int .i64 d)).ownsRow wr.heap.size 3 1 (.slice (some ⟨g2, 0, none⟩) 6 c4) 6 (ints (a ++ (d : Int) :: r)) from by
                    have := S1.out.1
                    rw [List.nil_append, ints_set, set_mid] at this
                    exact this)
                  generalize w4.setCell ⟨g2, a.length, none⟩ (.int .i64 d) = w5 at *
                  clear S1 B4 hc2 f2
                  have B5 := Lib.hid hb5
                  clear hb5
                  refine (HCd.out _ c4 w5 (Rd.of_own O5.out)).mono ?_
                  rintro e w6 ⟨rfl, hb⟩
                  have B6 := Lib.hid (B5.out.trans (hb.mono B5.out.size))
                  have O6 := Lib.hid (own_below O3.out B6.out)
                  have BB6 := Lib.hid (B3.out.trans (B6.out.mono B3.out.size))
                  clear hb
                  have P6 := Lib.hid (own_put O6.out (k := a.length) (.int .i64 d))
                  have f6 := P6.out.2.1
                  have hc6 : w6.cell? ⟨g, a.length, none⟩ = some (.int .i64 (-1)) := by
                    rw [O6.out.cellAt a.length (by omega)]
                    unfold ints
                    rw [List.getElem?_map, List.getElem?_append_right (Nat.le_refl _), Nat.sub_self]
                    rfl
                  go_wp2_with fail
                  go_roundw
                  case rel => exact ⟨d + 1, by go_num, Below.setCell BB6.out P6.out.2.2 _, .inr ⟨by rw [HDT.out], by
                    have := P6.out.1
                    rw [ints_set, set_mid, HDT.out] at this
                    rw [HDT.out]
                    exact this⟩⟩
                  case measure => simp [intOf]; omega
                · have hy2 : Y2 = 0 := by
                    rcases Nat.eq_zero_or_pos Y2 with h | h
                    · exact h
                    · exact absurd (HT1.1 (by omega)) hdt
                  have hd1 : d + 1 ≤ t := by omega
                  subst hy2
                  clear HT1 hdt
                  go_wp2_with ((with_reducible show wpList _ _ _ (⟨some 53, _, _, _, _, _⟩ :: _) _ _); refine app eInt' rfl _ _ rfl rfl (own_lit wr 3 1 (Nat.le_refl _)) ((Below.refl wr.heap.size wr).alloc (Nat.le_refl _) _) (size_alloc' (Nat.le_refl _) _) rfl ((Rd.of_own O3.out).below ((Below.refl wr.heap.size wr).alloc (Nat.le_refl _) _) (Nat.le_refl _)) (by rw [ints_length, List.length_append, List.length_cons]; omega) (ints_one _) 6 rfl (by omega) ?_; intro A4 c4 w4 o4 b4 g4 _; obtain ⟨g2, rfl⟩ := own_some o4 (by omega); have ST := own_put o4 (k := a.length) (.int .i64 d); have f2 := ST.2.1; have hc2 := o4.cellAt a.length (by omega); rw [show ([] ++ ints (a ++ (-1) :: r))[a.length]? = some (.int .i64 (-1)) from by unfold ints; rw [List.nil_append, List.getElem?_map, List.getElem?_append_right (Nat.le_refl _), Nat.sub_self]; rfl] at hc2; have S1 := Lib.hid ST; have B4 := Lib.hid b4; clear o4 b4 g4 ST)
                  have hb5 : Below wr.heap.size wr (w4.setCell ⟨g2, a.length, none⟩ (.int .i64 d)) := Below.setCell B4.out S1.out.2.2 _
                  have O5 := Lib.hid (show (w4.setCell ⟨g2, a.length, none⟩ (.int .i64 d)).ownsRow wr.heap.size 3 1 (.slice (some ⟨g2, 0, none⟩) 6 c4) 6 (ints (a ++ (d : Int) :: r)) from by
                    have := S1.out.1
                    rw [List.nil_append, ints_set, set_mid] at this
                    exact this)
                  generalize w4.setCell ⟨g2, a.length, none⟩ (.int .i64 d) = w5 at *
                  clear S1 B4 hc2 f2
                  have B5 := Lib.hid hb5
                  clear hb5
                  refine (HCd.out _ c4 w5 (Rd.of_own O5.out)).mono ?_
                  rintro e w6 ⟨rfl, hb⟩
                  have B6 := Lib.hid (B5.out.trans (hb.mono B5.out.size))
                  have O6 := Lib.hid (own_below O3.out B6.out)
                  have BB6 := Lib.hid (B3.out.trans (B6.out.mono B3.out.size))
                  clear hb
                  go_wp2_with fail
                  go_roundw
                  case rel => exact ⟨d + 1, by go_num, BB6.out, .inl ⟨hd1, O6.out⟩⟩
                  case measure => simp [intOf]; omega
              · have O3 := Lib.hid ho
                have hc : wr.cell? ⟨g, a.length, none⟩ = some (.int .i64 t) := by
                  rw [ho.cellAt a.length (by omega)]
                  unfold ints
                  rw [List.getElem?_map, List.getElem?_append_right (Nat.le_refl _), Nat.sub_self]
                  rfl
                have e1 : decide ((t : Int) < 0) = false := decide_eq_false (by omega)
                clear ho
                go_wp2_with fail
                go_roundw
                case rel => exact ⟨a ++ [(t : Int)], r, fun y hy => by
                    rcases List.mem_append.1 hy with hy | hy
                    · exact HA.out y hy
                    · rw [List.mem_singleton.1 hy]; exact nat_dig ht10, HR'.out, by simp; omega, by simp, by rw [← HG2.out]; exact HG.out, by rw [List.append_assoc]; exact O3.out, B3.out⟩
                case measure => simp [intOf]; omega
end Go.Proofs.YtoenecgjiejljaaDoor
