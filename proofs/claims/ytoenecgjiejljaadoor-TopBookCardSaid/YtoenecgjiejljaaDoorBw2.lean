/-
  Write of the program: the walk. Conditions: the list can be read; the tables that a row lists.
-/
import Derived.Test.YtoenecgjiejljaaDoorBw1
import Derived.Test.YtoenecgjiejljaaDoorBdc
namespace Go.Proofs.YtoenecgjiejljaaDoor
open Go.RowKit
set_option linter.unusedVariables false

theorem bd_up {B b : Nat} {bs : List Value} {w w' : World} (h : IsBd B b bs w) (hb : Below w.heap.size w w') : IsBd B b bs w' := by
  have key : ∀ p, BdAt B b p bs w → BdAt B b p bs w' := by
    rintro p ⟨hBb, v, hbk, hown, hne⟩
    exact ⟨hBb, v, (hb.block b (lt_of_block hbk)).trans hbk, own_below hown hb, hne⟩
  rcases h with h | h
  · exact .inl (key _ h)
  · exact .inr (key _ h)
set_option maxRecDepth 8000 in
set_option maxHeartbeats 4000000 in
theorem Write_any (A : Option Addr) (c : Nat) (l : List ByteArray) (w : World) (hr : Rd w w.heap.size A (txts l)) (hs : Sz l) (hl : l.length ≤ 9223372036854775807) (hT : Tb w) :
    Calls Tryd.prog 38 #[.slice A l.length c] w fun e w' => e = .returned (.tuple #[.string (sL (wrS l)), .int .i64 (vpE l)]) ∧ Below w.heap.size w w' := by
  have H1 := Lib.hid (Validate_any A c l w hr hs hl)
  have HR := Lib.hid hr
  have HS := Lib.hid hs
  have HT := Lib.hid hT
  clear hr hs hT
  by_cases hv : vpE l = 0
  case neg =>
    have HW := Lib.hid (show wrS l = [] from if_neg hv)
    have z1 : (vpE l != 0) = true := by simpa using hv
    rw [HW.out]
    clear hv HW HR HS HT
    generalize vpE l = E at *
    go_enter Tryd.func38, Tryd.ntmps38
    go_wp2_with fail
    refine (H1.out).mono ?_
    rintro e w' ⟨rfl, rfl⟩
    go_wp2_with fail
    go_ret2
    exact ⟨rfl, Below.refl _ _⟩
  have hlen := (vpE_ok hv).1
  have hsm := rt_sm (smsL_sm l)
  have HW := Lib.hid (show wrS l = wrL l from if_pos hv)
  have e2 : rt (smsL l) = ((rt (smsL l)).toNat : Int) := by rw [Int.toNat_of_nonneg hsm.1]
  rw [hv] at H1
  rw [hv]
  have H2 := Lib.hid (fun w h => sumsOf_any A c l w h HS.out hlen)
  have H3 := Lib.hid (fun A' c' w hc h => rootOf_any l.length (smsL l) A' c' w (by unfold smsL; rw [List.length_map]) hlen (smsL_sm l) hc h)
  rw [e2] at H3
  have H4 := Lib.hid (fun w h => text_any l.length (rt (smsL l)).toNat w (by omega) (by have := hsm.2; omega) h)
  have H60 := Lib.hid (show ∀ s ∈ l, s.size ≤ 60 from fun s hs => by
    have h := (vpE_ok hv).2 s hs
    unfold pgB at h
    simp only [Bool.and_eq_true, decide_eq_true_eq] at h
    exact h.1.2)
  have HL := Lib.hid (hdL_len (n := l.length) (x := (rt (smsL l)).toNat) (by omega) (by have := hsm.2; omega))
  have HE := Lib.hid (show wrL l = hdL l.length (rt (smsL l)).toNat ++ wrB (l.take l.length) by rw [List.take_length]; rfl)
  have HH := Lib.hid (show sL (canon l.length (rt (smsL l)).toNat) ++ (⟨#[10]⟩ : ByteArray) = sL (hdL l.length (rt (smsL l)).toNat) by
    rw [show (⟨#[10]⟩ : ByteArray) = sL [10] from rfl, sL_app]; rfl)
  have hcz : (sL (canon l.length (rt (smsL l)).toNat)).size ≤ 40 := by
    have := HL.out
    unfold hdL at this
    rw [sL_size]
    rw [List.length_append] at this
    omega
  have HNE := Lib.hid (show hdL l.length (rt (smsL l)).toNat ≠ [] by unfold hdL; simp)
  generalize (rt (smsL l)).toNat = x at *
  generalize hdL l.length x = h at *
  generalize sL (canon l.length x) = cs at *
  obtain ⟨W, hW, hg, hsz, hbw⟩ := one_blk w #[.pointer none, .slice none 0 0] 100
  have HWW := Lib.hid hW
  have HF := Lib.hid (show IsBd w.heap.size w.heap.size (Lib.byteCells []) W by rw [← hW]; exact Lib.fresh_isBuilder _ _ w)
  have BW := Lib.hid hbw
  have RW := Lib.hid ((HR.out.below hbw (Nat.le_refl _)).more hbw.size)
  have TW := Lib.hid (HT.out.up hbw)
  have HSZ := Lib.hid hsz
  clear hW hg hsz hbw hv hsm e2
  go_enter Tryd.func38, Tryd.ntmps38
  go_wp2_with fail
  refine (H1.out).mono ?_
  rintro e w' ⟨rfl, rfl⟩
  go_wp2_with fail
  rw [HWW.out]
  go_wp2_with fail
  refine (H2.out W RW.out).mono ?_
  rintro e w1 ⟨A1, c1, rfl, hc1, hr1, hb⟩
  have R1 := Lib.hid hr1
  have HC1 := Lib.hid hc1
  have X1 := Lib.hid hb
  clear hr1 hc1 hb
  go_wp2_with fail
  refine (H3.out A1 c1 w1 HC1.out R1.out).mono ?_
  rintro e w2 ⟨rfl, m, rfl⟩
  have X2 := Lib.hid (bdDN X1.out m)
  generalize w1.drewN m = w2 at *
  go_wp2_with fail
  refine (H4.out w2 (TW.out.up X2.out)).mono ?_
  rintro e w3 ⟨rfl, hb⟩
  have X3 := Lib.hid (X2.out.trans (hb.mono X2.out.size))
  clear hb
  go_wp2_with fail
  rw [HH.out]
  have F3 := Lib.hid (bd_up HF.out X3.out)
  have B3 := Lib.hid (BW.out.trans (X3.out.mono BW.out.size))
  have HWS := Lib.hid (WriteString_any w.heap.size w.heap.size [] (sL h) w3 F3.out (by have := HL.out; rw [sL_size]; simp; omega) B3.out.size)
  rw [bl_sL, List.nil_append] at HWS
  have HW0 := Lib.hid (show h ++ wrB (l.take 0) = h by simp [wrB])
  refine HWS.out.mono ?_
  rintro e w4 ⟨rfl, hib, hb⟩
  have I4 := Lib.hid hib
  have B4 := Lib.hid (B3.out.trans hb)
  clear hib hb
  go_wp2_with fail
  go_loopw [24] (fun i wr => ∃ k : Nat, k ≤ l.length ∧ i = .int .i64 k ∧ IsBd w.heap.size w.heap.size (Lib.byteCells (h ++ wrB (l.take k))) wr ∧ Below w.heap.size w wr) (fun i _ => l.length - (intOf i).toNat)
  case atStart => exact ⟨0, by omega, rfl, by rw [HW0.out]; exact I4.out, B4.out⟩
  case round =>
    obtain ⟨k, hk, rfl, hib, hb⟩ := hrel
    have IK := Lib.hid hib
    have BK := Lib.hid hb
    clear hib hb
    by_cases hlt : k < l.length
    · obtain ⟨b1, o1, s, hA, hx, hc⟩ := ((HR.out.below BK.out (Nat.le_refl _)).more BK.out.size).txt k hlt
      have hlt' : (k : Int) < (l.length : Int) := by omega
      have s1 : s.size ≤ 60 := H60.out s (List.mem_of_getElem? hx.out)
      have s2 : (h ++ wrB (l.take k)).length ≤ 4000 := by
        rw [List.length_append]
        have h1 := HL.out
        have h2 := wrB_len (l.take k) fun s hs => H60.out s (List.mem_of_mem_take hs)
        rw [List.length_take] at h2
        omega
      have HWS := Lib.hid (WriteString_any w.heap.size w.heap.size (h ++ wrB (l.take k)) (s ++ (⟨#[10]⟩ : ByteArray)) wr IK.out (by rw [ByteArray.size_append]; show _ + (s.size + 1) ≤ _; omega) BK.out.size)
      have hn : (h ++ wrB (l.take k)) ++ bl (s ++ (⟨#[10]⟩ : ByteArray)) = h ++ wrB (l.take (k + 1)) := by
        rw [bl_app, List.take_add_one, hx.out]
        unfold wrB
        simp [bl]
      rw [hn] at HWS
      subst hA
      clear hn s2
      go_wp2_with fail
      refine HWS.out.mono ?_
      rintro e w5 ⟨rfl, hib, hb⟩
      have I5 := Lib.hid hib
      have B5 := Lib.hid (BK.out.trans hb)
      clear hib hb
      go_wp2_with fail
      go_roundw
      case rel => exact ⟨k + 1, by omega, by go_num, I5.out, B5.out⟩
      case measure => simp [intOf]; omega
    · have hks : k = l.length := by omega
      subst hks
      have HST := Lib.hid (BString_any w.heap.size w.heap.size (h ++ wrB (l.take l.length)) wr IK.out (by
        have := HNE.out
        simp [this]))
      have HFF := Lib.hid (show sL (h ++ wrB (l.take l.length)) = sL (wrS l) by rw [HW.out, HE.out])
      go_wp2_with fail
      refine HST.out.mono ?_
      rintro e w5 ⟨rfl, hb⟩
      have B5 := Lib.hid (BK.out.trans hb)
      clear hb
      go_wp2_with fail
      go_ret2
      have hff := HFF.out
      rw [List.take_length] at hff
      exact ⟨by rw [← hff]; rfl, B5.out⟩
end Go.Proofs.YtoenecgjiejljaaDoor
