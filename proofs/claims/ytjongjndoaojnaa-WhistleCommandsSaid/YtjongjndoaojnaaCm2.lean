/-
  Signals taken one after another: the walk of Commands of the reference. Conditions: the code and the text can be read.
-/
import Derived.Test.YtjongjndoaojnaaCm1
namespace Go.Proofs.Ytjongjndoaojnaa
open Go.RowKit
set_option linter.unusedVariables false

theorem fst_none_of {C : List ByteArray} {r : ByteArray} (h : ∀ (j : Nat) e, j < C.length → C[j]? = some e → pfx e r = false) : fst C (bl r) = none := by
  rcases ixP_fst C r with ⟨_, h1⟩ | ⟨k, s, _, hk, _, hp⟩
  · exact h1
  · rw [h k s (List.getElem?_eq_some_iff.1 hk).1 hk] at hp
    cases hp
theorem fst_some_of {C : List ByteArray} {r s : ByteArray} {k : Nat} (hk : C[k]? = some s) (hp : pfx s r = true) (h : ∀ (j : Nat) e, j < k → C[j]? = some e → pfx e r = false) : fst C (bl r) = some s := by
  have hi := ixP_hit hk hp h
  rcases ixP_fst C r with ⟨h1, _⟩ | ⟨k2, s2, h1, hk2, hf, _⟩
  · rw [hi] at h1; omega
  · rw [hi] at h1
    have : k = k2 := by omega
    subst this
    rw [hk] at hk2
    cases hk2
    exact hf
/-- How far the reference has come. -/
structure CmS (C : List ByteArray) (t : ByteArray) (P : List ByteArray) (r : ByteArray) : Prop where
  eq : cmd C t.size (bl t) = (P ++ (cmd C (bl r).length (bl r)).1, (cmd C (bl r).length (bl r)).2)
  le : P.length + r.size ≤ t.size
theorem CmS.step {C : List ByteArray} {t : ByteArray} {P : List ByteArray} {r s : ByteArray} (h : CmS C t P r) (hC : ∀ s ∈ C, 1 ≤ s.size) (hf : fst C (bl r) = some s) : CmS C t (P ++ [s]) (drp r s.size) := by
  have hp := fst_pre hf
  have h1 := hC s (fst_mem hf)
  have h2 := hp.length_le
  rw [bl_len, bl_len] at h2
  have h3 := h.le
  refine ⟨?_, by rw [List.length_append, List.length_singleton, drp_size]; omega⟩
  rw [h.eq, cmd_step hC hf, bl_drp, List.append_assoc]
  rfl
set_option maxRecDepth 8000 in
set_option maxHeartbeats 2000000 in
theorem rCommands_any (A : Option Addr) (c : Nat) (C : List ByteArray) (t : ByteArray) (w : World) (hr : Rd w w.heap.size A (txts C)) (hs : Sz C) (hl : C.length ≤ 9223372036854775807) (ht : t.size ≤ 9223372036854775807) :
    Calls Try.prog 29 #[.slice A C.length c, .string t] w fun e w' => CmdPost C t w e w' := by
  have HCK := Lib.hid (textOK_any A c C t w hr hs hl ht)
  have HR := Lib.hid hr
  clear hr hs
  by_cases hz : txE C t = 0
  · obtain ⟨hv, ht60, _⟩ := txE_zero hz
    have HV := Lib.hid (vE_ok hv)
    have HL := Lib.hid (show cmL C t = (cmd C t.size (bl t)).1 from if_pos hz)
    have HRR := Lib.hid (show cmR C t = ofL (cmd C t.size (bl t)).2 from if_pos hz)
    have HE := Lib.hid hz
    have HC := Lib.hid (show ∀ s ∈ C, 1 ≤ s.size from fun s hs => (sgB_iff.1 (HV.out.sg s hs)).1)
    have hC12 := HV.out.le
    have HLE := Lib.hid (show (cmL C t).length ≤ 60 by rw [HL.out]; have := cmd_len HC.out t.size (bl t) (by rw [bl_len]; exact Nat.le_refl _); rw [bl_len] at this; omega)
    rw [hz] at HCK
    clear hz hv
    go_enter Try.func29, Try.ntmps29
    go_wp2_with fail
    refine HCK.out.mono ?_
    rintro e W ⟨rfl, m, hm⟩
    have hb : Below w.heap.size w W := by rw [hm]; exact bdN (Below.refl _ _) m
    have B1 := Lib.hid hb
    have R1 := Lib.hid (HR.out.go (B0 := 0) hb)
    have HS0 := Lib.hid (show CmS C t [] t from ⟨by rw [bl_len]; rfl, by simp⟩)
    clear hb hm
    go_wp2_with fail
    go_loopw [1, 8, 9] (fun tv v av wr => ∃ (P : List ByteArray) (A' : Option Addr) (c' : Nat) (r : ByteArray) (ag : Bool), tv = .string r ∧ v = .slice A' P.length c' ∧ av = .bool ag ∧ wr.ownsRow W.heap.size 9 1 (.slice A' P.length c') P.length (txts P) ∧ Below W.heap.size W wr ∧ CmS C t P r ∧ (ag = false → fst C (bl r) = none)) (fun tv _ av _ => match tv, av with | .string r, .bool ag => 2 * r.size + ag.toNat | _, _ => 0)
    case atStart => exact ⟨[], none, 0, t, true, rfl, rfl, rfl, ⟨rfl, .inl ⟨rfl, rfl⟩⟩, Below.refl _ _, HS0.out, fun h => by cases h⟩
    case round =>
      obtain ⟨P, A', c', r, ag, rfl, rfl, rfl, h1, h2, h3, h4⟩ := hrel
      have OW := Lib.hid h1
      have B2 := Lib.hid h2
      have CS := Lib.hid h3
      have HNO := Lib.hid h4
      clear h1 h2 h3 h4
      cases ag
      · have HST := Lib.hid (cmd_stop (HNO.out rfl))
        go_wp2_with fail
        go_ret3
        have hcm := CS.out.eq
        rw [HST.out, List.append_nil] at hcm
        have hP : cmL C t = P := by rw [HL.out, hcm]
        have hR : cmR C t = r := by
          rw [HRR.out, hcm]
          exact bl_inj (bl_ofL _)
        refine ⟨A', c', by rw [hP, hR, HE.out]; rfl, by rw [hP]; exact Rd.of_own OW.out, HLE.out, ?_⟩
        exact B1.out.trans (B2.out.mono B1.out.size)
      · go_wp2_with fail
        go_loopw [1, 8, 9, 10] (fun tv v av iv wr => ∃ k : Nat, k ≤ C.length ∧ iv = .int .i64 k ∧ ((tv = .string r ∧ v = .slice A' P.length c' ∧ av = .bool false ∧ wr.ownsRow W.heap.size 9 1 (.slice A' P.length c') P.length (txts P) ∧ Below W.heap.size W wr ∧ ∀ (j : Nat) e, j < k → C[j]? = some e → pfx e r = false) ∨
          (∃ s A3 c3, 1 ≤ s.size ∧ s.size ≤ r.size ∧ tv = .string (drp r s.size) ∧ v = .slice A3 (P ++ [s]).length c3 ∧ av = .bool true ∧ wr.ownsRow W.heap.size 9 1 (.slice A3 (P ++ [s]).length c3) (P ++ [s]).length (txts (P ++ [s])) ∧ Below W.heap.size W wr ∧ CmS C t (P ++ [s]) (drp r s.size)))) (fun _ _ av iv _ => match av with | .bool true => 0 | _ => C.length + 1 - (intOf iv).toNat)
        case atStart => exact ⟨0, by omega, rfl, .inl ⟨rfl, rfl, rfl, OW.out, B2.out, fun j e hj => by omega⟩⟩
        case round =>
          obtain ⟨k, hk, rfl, hcase⟩ := hrel
          rcases hcase with ⟨rfl, rfl, rfl, h1, h2, h3⟩ | ⟨s, A3, c3, hs1, hs2, rfl, rfl, rfl, h1, h2, h3⟩
          · have OW2 := Lib.hid h1
            have B3 := Lib.hid h2
            have HA := Lib.hid h3
            clear h1 h2 h3
            by_cases hlt : k < C.length
            · obtain ⟨b2, o2, s, hA2, hd, hc2⟩ := (R1.out.below B3.out (Nat.le_refl _)).txt k hlt
              have HA2 := Lib.hid hA2
              subst hA2
              have b0 : (0 : Int) ≤ (k : Int) := by omega
              have b1 : (k : Int) < (C.length : Int) := by omega
              have HBG := Lib.hid (begins_any r s)
              cases hp : pfx s r
              · rw [hp] at HBG
                have HN := Lib.hid (pf_next hd.out hp HA.out)
                clear hp
                go_wp2_with fail
                refine (HBG.out _).mono ?_
                rintro e w' ⟨rfl, rfl⟩
                go_wp2_with fail
                go_roundw
                case rel => exact ⟨k + 1, by omega, by go_num, .inl ⟨rfl, rfl, rfl, OW2.out, B3.out, HN.out⟩⟩
                case measure => simp [intOf]; omega
              · rw [hp] at HBG
                have hf := fst_some_of hd.out hp HA.out
                have HCS := Lib.hid (CS.out.step HC.out hf)
                have hs1 := HC.out s (fst_mem hf)
                have hs2 := pfx_le hp
                have hPle := CS.out.le
                have HPL := Lib.hid (show (P ++ [s]).length = P.length + 1 by simp)
                have b2' : (s.size : Int) ≤ (r.size : Int) := by omega
                have b3 : (0 : Int) ≤ (s.size : Int) := by omega
                have HDD := Lib.hid (show drp r s.size = r.extract s.size r.size from rfl)
                clear hp hf
                go_wp2_with fail
                refine (HBG.out _).mono ?_
                rintro e w' ⟨rfl, rfl⟩
                go_wp2_with ((with_reducible show wpList _ _ _ (⟨some 40, _, _, _, _, _⟩ :: _) _ _); refine app eStr rfl (.tmp 34) (.tmp 39) rfl rfl (OW2.out.alloc _) (B3.out.alloc B3.out.size (.cells #[.string s] 9)) (size_alloc' B3.out.size _) rfl (Rd.one wr (.string s) 9 (Nat.lt_succ_self _)) (by simp) (txts_one [s]) (P ++ [s]).length (by simp) (by rw [HPL.out]; omega) ?_; intro A3 c3 w3 o3 b3' _ _; have O3 := Lib.hid (show w3.ownsRow W.heap.size 9 1 (.slice A3 (P ++ [s]).length c3) (P ++ [s]).length (txts (P ++ [s])) by rw [txts_append]; exact o3); have BB3 := Lib.hid b3'; have hc3 := (BB3.out.cell (p := ⟨b2, o2 + k, none⟩) ((R1.out.at_ (txts_at hd.out)).elim fun b h => by obtain ⟨o, e, hb, _⟩ := h; injection e with e; injection e with e1; show b2 < W.heap.size; omega)).trans ((B3.out.cell (p := ⟨b2, o2 + k, none⟩) ((R1.out.at_ (txts_at hd.out)).elim fun b h => by obtain ⟨o, e, hb, _⟩ := h; injection e with e; injection e with e1; show b2 < W.heap.size; omega)).symm.trans hc2 |> fun h => (B3.out.cell (p := ⟨b2, o2 + k, none⟩) ((R1.out.at_ (txts_at hd.out)).elim fun b h => by obtain ⟨o, e, hb, _⟩ := h; injection e with e; injection e with e1; show b2 < W.heap.size; omega)).symm.trans hc2); clear o3 b3')
                go_roundw
                case rel => exact ⟨k + 1, by omega, by go_num, .inr ⟨s, A3, c3, hs1, hs2, by rw [HDD.out], by rw [HPL.out], rfl, O3.out, BB3.out, HCS.out⟩⟩
                case measure => simp [intOf]; omega
            · have hks : k = C.length := by omega
              have HN := Lib.hid (fst_none_of (hks ▸ HA.out))
              subst hks
              go_wp2_with fail
              go_roundw
              case rel => exact ⟨P, A', c', r, false, rfl, rfl, rfl, OW2.out, B3.out, CS.out, fun _ => HN.out⟩
              case measure => simp
          · have O3 := Lib.hid h1
            have B3 := Lib.hid h2
            have CS3 := Lib.hid h3
            have HDS := Lib.hid (drp_size r s.size)
            have HPL := Lib.hid (show (P ++ [s]).length = P.length + 1 by simp)
            obtain ⟨r2, hr2⟩ : ∃ x, x = drp r s.size := ⟨_, rfl⟩
            rw [← hr2] at HDS CS3
            rw [← hr2]
            clear h1 h2 h3 hr2
            by_cases hlt : k < C.length
            · have b4 : decide ((k : Int) < (C.length : Int)) = true := by simp; omega
              have b5 : decide (k < C.length) = true := by simpa using hlt
              go_wp2_with fail
              go_roundw
              case rel => exact ⟨P ++ [s], A3, c3, r2, true, rfl, by rw [HPL.out], rfl, O3.out, B3.out, CS3.out, fun h => by cases h⟩
              case measure => have := HDS.out; simp; omega
            · have b4 : decide ((k : Int) < (C.length : Int)) = false := by simp; omega
              have b5 : decide (k < C.length) = false := by simpa using hlt
              go_wp2_with fail
              go_roundw
              case rel => exact ⟨P ++ [s], A3, c3, r2, true, rfl, by rw [HPL.out], rfl, O3.out, B3.out, CS3.out, fun h => by cases h⟩
              case measure => have := HDS.out; simp; omega
  · have e1 : (txE C t != 0) = true := by simpa using hz
    have HL := Lib.hid (show cmL C t = [] from if_neg hz)
    have HRR := Lib.hid (show cmR C t = ⟨#[]⟩ from if_neg hz)
    clear hz
    go_enter Try.func29, Try.ntmps29
    go_wp2_with fail
    refine HCK.out.mono ?_
    rintro e w1 ⟨rfl, m, rfl⟩
    go_wp2_with fail
    go_ret3
    exact ⟨none, 0, by rw [HL.out, HRR.out]; rfl, by rw [HL.out]; exact Rd.nil_, by rw [HL.out]; exact Nat.zero_le _, bdN (Below.refl _ _) m⟩
end Go.Proofs.Ytjongjndoaojnaa
