/-
  Signals taken one after another: the walks of Commands of both sides. Conditions: the code and the text can be read.
-/
import Derived.Test.YtjongjndoaojnaaTx1
import Derived.Test.YtjongjndoaojnaaLv1
import Derived.Test.YtjongjndoaojnaaFl7
namespace Go.Proofs.Ytjongjndoaojnaa
open Go.RowKit
set_option linter.unusedVariables false

def cmL (C : List ByteArray) (t : ByteArray) : List ByteArray := if txE C t = 0 then (cmd C t.size (bl t)).1 else []
def cmR (C : List ByteArray) (t : ByteArray) : ByteArray := if txE C t = 0 then ofL (cmd C t.size (bl t)).2 else ⟨#[]⟩
/-- What is taken does not hang on how many rounds there are, if there are enough. -/
theorem cmd_fuel {C : List ByteArray} (hC : ∀ s ∈ C, 1 ≤ s.size) : ∀ (n m : Nat) (u : List UInt8), u.length ≤ n → u.length ≤ m → cmd C n u = cmd C m u := by
  have hnil : fst C [] = none := by
    unfold fst
    rw [List.find?_eq_none]
    intro s hs hd
    have h2 := (of_decide_eq_true hd).length_le
    rw [bl_len] at h2
    have h3 : s.size ≤ 0 := h2
    have := hC s hs
    omega
  have h0 : ∀ k, cmd C k [] = ([], []) := by
    intro k
    cases k with
    | zero => rfl
    | succ k => unfold cmd; rw [hnil]
  intro n
  induction n with
  | zero =>
    intro m u h1 h2
    have hu : u = [] := List.eq_nil_of_length_eq_zero (by omega)
    subst hu
    rw [h0, h0]
  | succ n ih =>
    intro m u h1 h2
    by_cases hu : u = []
    · subst hu
      rw [h0, h0]
    · cases m with
      | zero => exact absurd (List.eq_nil_of_length_eq_zero (by omega)) hu
      | succ m =>
        unfold cmd
        cases hf : fst C u with
        | none => rfl
        | some s =>
          have := hC s (fst_mem hf)
          have h4 := List.length_pos_iff.2 hu
          simp only
          rw [ih m (u.drop s.size) (by rw [List.length_drop]; omega) (by rw [List.length_drop]; omega)]
theorem cmd_step {C : List ByteArray} (hC : ∀ s ∈ C, 1 ≤ s.size) {u : List UInt8} {s : ByteArray} (h : fst C u = some s) : cmd C u.length u = (s :: (cmd C (u.drop s.size).length (u.drop s.size)).1, (cmd C (u.drop s.size).length (u.drop s.size)).2) := by
  have hp := fst_pre h
  have h1 := hC s (fst_mem h)
  have h2 := hp.length_le
  rw [bl_len] at h2
  obtain ⟨n, hn⟩ : ∃ n, u.length = n + 1 := ⟨u.length - 1, by omega⟩
  rw [hn]
  conv => lhs; unfold cmd
  rw [h]
  simp only
  rw [cmd_fuel hC n (u.drop s.size).length (u.drop s.size) (by rw [List.length_drop]; omega) (Nat.le_refl _)]
theorem cmd_stop {C : List ByteArray} {u : List UInt8} (h : fst C u = none) : cmd C u.length u = ([], u) := by
  cases hn : u.length with
  | zero => rfl
  | succ n => unfold cmd; rw [h]
def restOf (rb : Nat) (w : World) : Nat := match w.cell? ⟨rb, 0, none⟩ with | some (.string r) => r.size | _ => 0
theorem restOf_eq {rb : Nat} {w : World} {r : ByteArray} {t : TypeId} (h : w.heap[rb]? = some (.cells #[.string r] t (0, 0))) : restOf rb w = r.size := by
  unfold restOf
  rw [blk_cell h]
  rfl
theorem Kp.then_below {mb : Nat} {w w' w'' : World} (k : Kp mb mb none w w') (h : Below w.heap.size w' w'') : Kp mb mb none w w'' :=
  ⟨h.os.trans k.1, h.tape.trans k.2.1, h.output.trans k.2.2.1, Nat.le_trans k.2.2.2.1 h.size, fun i hi h1 h2 h3 => (h.block i hi).trans (k.2.2.2.2 i hi h1 h2 h3)⟩
def CmdPost (C : List ByteArray) (t : ByteArray) (w : World) (e : Ending) (w' : World) : Prop :=
  ∃ A' c', e = .returned (.tuple #[.slice A' (cmL C t).length c', .string (cmR C t), .int .i64 (txE C t)]) ∧ Rd w' w'.heap.size A' (txts (cmL C t)) ∧ (cmL C t).length ≤ 60 ∧ Below w.heap.size w w'
theorem cmd_len {C : List ByteArray} (hC : ∀ s ∈ C, 1 ≤ s.size) : ∀ (n : Nat) (u : List UInt8), u.length ≤ n → (cmd C n u).1.length ≤ u.length
  | 0, u, _ => Nat.zero_le _
  | n + 1, u, h => by
    unfold cmd
    cases hf : fst C u with
    | none => exact Nat.zero_le _
    | some s =>
      have hp := (fst_pre hf).length_le
      rw [bl_len] at hp
      have h1 := hC s (fst_mem hf)
      have := cmd_len hC n (u.drop s.size) (by rw [List.length_drop]; omega)
      rw [List.length_drop] at this
      simp only [List.length_cons]
      omega
set_option maxRecDepth 8000 in
set_option maxHeartbeats 2000000 in
theorem Commands_any (A : Option Addr) (c : Nat) (C : List ByteArray) (t : ByteArray) (w : World) (hr : Rd w w.heap.size A (txts C)) (hs : Sz C) (hl : C.length ≤ c) (hc : c ≤ 9223372036854775807) (ht : t.size ≤ 9223372036854775807) :
    Calls Try.prog 28 #[.slice A C.length c, .string t] w fun e w' => CmdPost C t w e w' := by
  have HCK := Lib.hid (checkText_any A c C t w hr hs hl hc ht)
  have HR := Lib.hid hr
  clear hr hs
  by_cases hz : txE C t = 0
  · obtain ⟨hv, ht60, _⟩ := txE_zero hz
    have HV := Lib.hid (vE_ok hv)
    have HL := Lib.hid (show cmL C t = (cmd C t.size (bl t)).1 from if_pos hz)
    have HRR := Lib.hid (show cmR C t = ofL (cmd C t.size (bl t)).2 from if_pos hz)
    have HE := Lib.hid hz
    have HC := Lib.hid (show ∀ s ∈ C, 1 ≤ s.size from fun s hs => (sgB_iff.1 (HV.out.sg s hs)).1)
    have hC12 := HV.out.le
    have HLE := Lib.hid (show (cmL C t).length ≤ 60 by rw [HL.out]; have := cmd_len HC.out t.size (bl t) (by rw [bl_len]; exact Nat.le_refl _); rw [bl_len] at this; omega)
    rw [hz] at HCK
    clear hz hv
    go_enter Try.func28, Try.ntmps28
    go_wp2_with fail
    refine HCK.out.mono ?_
    rintro e w1 ⟨rfl, hb⟩
    obtain ⟨W, hW, hg, hsz, hbw⟩ := one_blk w1 #[.string t] 9
    have HW := Lib.hid hW
    have B1 := Lib.hid (hb.trans (hbw.mono hb.size))
    have R1 := Lib.hid ((HR.out.below hb (Nat.le_refl _)).below hbw hb.size)
    have G1 := Lib.hid hg
    have S1 := Lib.hid hsz
    have HS1 := Lib.hid (show w.heap.size ≤ w1.heap.size from hb.size)
    clear hb hW hg hsz hbw
    go_wp2_with fail
    rw [HW.out]
    clear HW
    obtain ⟨rb, hrb⟩ : ∃ x, x = w1.heap.size := ⟨_, rfl⟩
    rw [← hrb] at G1 S1 HS1
    rw [← hrb]
    clear hrb
    have HCM0 := Lib.hid (show cmd C t.size (bl t) = ([] ++ (cmd C (bl t).length (bl t)).1, (cmd C (bl t).length (bl t)).2) by rw [bl_len]; rfl)
    go_loopw [8] (fun v wr => ∃ (P : List ByteArray) (A' : Option Addr) (c' : Nat) (r : ByteArray), v = .slice A' P.length c' ∧ wr.ownsRow W.heap.size 9 1 (.slice A' P.length c') P.length (txts P) ∧ wr.heap[rb]? = some (.cells #[.string r] 9 (0, 0)) ∧ Kp rb rb none W wr ∧
      cmd C t.size (bl t) = (P ++ (cmd C (bl r).length (bl r)).1, (cmd C (bl r).length (bl r)).2) ∧ P.length + r.size ≤ t.size) (fun _ wr => restOf rb wr)
    case atStart => exact ⟨[], none, 0, t, rfl, ⟨rfl, .inl ⟨rfl, rfl⟩⟩, G1.out, Kp.refl, HCM0.out, by simp⟩
    case round =>
      obtain ⟨P, A', c', r, rfl, h1, h2, h3, h4, h5⟩ := hrel
      have OW := Lib.hid h1
      have GR := Lib.hid h2
      have KR := Lib.hid h3
      have HCM := Lib.hid h4
      have cr : wr.cell? ⟨rb, 0, none⟩ = some (.string r) := (blk_cell (j := 0) h2).trans rfl
      have RR := Lib.hid (show Rd wr w.heap.size A (txts C) from R1.out.keep fun p hp => by
        have h6 := KR.out.2.2.2.2 p.block (by have := S1.out; have := HS1.out; omega) (by have := HS1.out; omega) (by have := HS1.out; omega) (by simp)
        unfold World.cell?
        simp only [h6])
      have HIF := Lib.hid (IndexFuncP_any A c rb C r wr (RR.out.more (by have := KR.out.2.2.2.1; have := S1.out; have := HS1.out; omega)) (by omega) cr)
      clear h1 h2 h3 h4
      rcases ixP_fst C r with ⟨hi, hf⟩ | ⟨k, s, hi, hk, hf, hp⟩
      · rw [hi] at HIF
        have HST := Lib.hid (cmd_stop hf)
        clear hi hf
        go_wp2_with fail
        refine HIF.out.mono ?_
        rintro e w' ⟨rfl, rfl⟩
        go_wp2_with fail
        go_quiet (fail)
        go_wp2_with fail
        go_ret3
        have hcm := HCM.out
        rw [HST.out, List.append_nil] at hcm
        have hP : cmL C t = P := by rw [HL.out, hcm]
        have hR : cmR C t = r := by
          rw [HRR.out, hcm]
          exact bl_inj (bl_ofL _)
        refine ⟨A', c', by rw [hP, hR, HE.out]; rfl, by rw [hP]; exact (Rd.of_own OW.out).drewN _, HLE.out, bdN ?_ _⟩
        exact B1.out.trans ((KR.out.below' (Nat.le_of_lt S1.out)).mono HS1.out)
      · rw [hi] at HIF
        have HSP := Lib.hid (cmd_step HC.out hf)
        have hs1 := HC.out s (fst_mem hf)
        have hpl := pfx_le hp
        obtain ⟨b2, o2, hA2, hb2, hc2⟩ := RR.out.at_ (txts_at hk)
        have HA2 := Lib.hid hA2
        have hkl := (List.getElem?_eq_some_iff.1 hk).1
        have b0 : (0 : Int) ≤ (k : Int) := by omega
        have b1 : (k : Int) < (C.length : Int) := by omega
        have b2' : (s.size : Int) ≤ (r.size : Int) := by omega
        have b3 : decide ((k : Int) < 0) = false := by simp
        have HPL := Lib.hid (show (P ++ [s]).length = P.length + 1 by simp)
        have KS : W.heap.size ≤ wr.heap.size := KR.out.2.2.2.1
        have hDR := bl_drp r s.size
        have HDS := Lib.hid (drp_size r s.size)
        have HCN := Lib.hid (show cmd C t.size (bl t) = ((P ++ [s]) ++ (cmd C (bl (drp r s.size)).length (bl (drp r s.size))).1, (cmd C (bl (drp r s.size)).length (bl (drp r s.size))).2) by
          rw [HCM.out, HSP.out, hDR, List.append_assoc]
          rfl)
        have HP5 := Lib.hid h5
        clear hi hf hk hp hDR
        subst hA2
        go_wp2_with fail
        refine HIF.out.mono ?_
        rintro e w' ⟨rfl, rfl⟩
        go_wp2_with ((with_reducible show wpList _ _ _ (⟨some 31, _, _, _, _, _⟩ :: _) _ _); refine app eStr rfl (.tmp 25) (.tmp 30) rfl rfl (OW.out.alloc _) ((Below.refl W.heap.size wr).alloc KS (.cells #[.string s] 9)) (size_alloc' KS _) rfl (Rd.one wr (.string s) 9 (Nat.lt_succ_self _)) (by simp) (txts_one [s]) (P ++ [s]).length (by simp) (by rw [HPL.out]; omega) ?_; intro A3 c3 w3 o3 b3 _ _; have O3 := Lib.hid (show w3.ownsRow W.heap.size 9 1 (.slice A3 (P ++ [s]).length c3) (P ++ [s]).length (txts (P ++ [s])) by rw [txts_append]; exact o3); have BB3 := Lib.hid b3; have G3 := Lib.hid ((b3.block rb S1.out).trans GR.out); clear o3 b3)
        have cr3 := (blk_cell (j := 0) G3.out).trans (show _ = some (.string r) from rfl)
        have fr3 := blk_free G3.out 0
        have hc3 := (BB3.out.cell (p := ⟨b2, o2 + k, none⟩) (by have := S1.out; have := HS1.out; show b2 < W.heap.size; omega)).trans hc2
        have G4 := Lib.hid (blk_set G3.out 0 (.string (drp r s.size)))
        have K4 := Lib.hid ((KR.out.then_below BB3.out).step (Kp.grown (lb := rb) (mb := rb) (grown_setC w3 rb 0 (.string (drp r s.size))) (.inr (.inl rfl))))
        have O4 := Lib.hid (show (w3.setCell ⟨rb, 0, none⟩ (.string (drp r s.size))).ownsRow W.heap.size 9 1 (.slice A3 (P ++ [s]).length c3) (P ++ [s]).length (txts (P ++ [s])) from own_keepB O3.out fun q hq => (grown_setC w3 rb 0 (.string (drp r s.size))).block q (own_ge O3.out q hq).2 fun e => by
          injection e with e
          have := (own_ge O3.out q hq).1
          have := S1.out
          omega)
        clear cr hc2
        go_region
        go_wp2_with fail
        go_roundw
        case rel => exact ⟨P ++ [s], A3, c3, drp r s.size, by rw [HPL.out], O4.out, G4.out, K4.out, HCN.out, by rw [HPL.out, HDS.out]; omega⟩
        case measure =>
          rw [restOf_eq GR.out]
          have e9 := restOf_eq (r := drp r s.size) (G4.out.trans rfl)
          rw [HDS.out] at e9
          refine Nat.lt_of_le_of_lt (Nat.le_of_eq e9) ?_
          omega
  · have e1 : (txE C t != 0) = true := by simpa using hz
    have HL := Lib.hid (show cmL C t = [] from if_neg hz)
    have HRR := Lib.hid (show cmR C t = ⟨#[]⟩ from if_neg hz)
    clear hz
    go_enter Try.func28, Try.ntmps28
    go_wp2_with fail
    refine HCK.out.mono ?_
    rintro e w1 ⟨rfl, hb⟩
    have B1 := Lib.hid hb
    clear hb
    go_wp2_with fail
    go_ret3
    exact ⟨none, 0, by rw [HL.out, HRR.out]; rfl, by rw [HL.out]; exact Rd.nil_, by rw [HL.out]; exact Nat.zero_le _, B1.out⟩
end Go.Proofs.Ytjongjndoaojnaa
