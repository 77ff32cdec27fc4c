/-
  The walks of Owner of package ring and of the reference. Condition: 'Tabs' where package ring reads its tables.
-/
import Derived.Test.YtojieiplomojnaaDoorTot
namespace Go.Proofs.YtojieiplomojnaaDoor
open Go.RowKit
set_option linter.unusedVariables false

set_option maxHeartbeats 800000 in
theorem Owner_any (A : Option Addr) (c : Nat) (l : List Blk) (s : ByteArray) (w : World) (hr : Rd w w.heap.size A (blks l)) (hsz : ∀ x ∈ l, x.s.size ≤ 9223372036854775807) (hn : l.length ≤ c) (hc : c ≤ 9223372036854775807) (hs : s.size ≤ 1000) (ht : Tabs w) :
    Calls Tryd.prog 48 #[.slice A l.length c, .string s] w fun e w' => e = .returned (.tuple #[.int .i64 (ownI l s), .bool (ownB l s), .int .i64 (ownE l s)]) ∧ Below w.heap.size w w' := by
  have HR := Lib.hid hr
  have HT := Lib.hid ht
  have HV := Lib.hid (ValidateBlocks_any A c l w hr hsz hn hc)
  clear hr ht
  by_cases h0 : blocksE l = 0
  · have H0 := Lib.hid h0
    obtain ⟨h8, _⟩ := blocks_zero h0
    have HP := Lib.hid (fun w ht => Split_any s w hs ht)
    unfold ownE
    rw [if_pos h0]
    rw [h0] at HV
    clear h0
    by_cases h1 : validE s = 0
    · have H1 := Lib.hid h1
      unfold splitS splitN at HP
      rw [if_pos h1, if_pos h1, h1] at HP
      have HY := Lib.hid (fun k x a b c => own_yes (l := l) (s := s) (k := k) (x := x) H0.out h1 a b c)
      have HNo := Lib.hid (fun a => own_no (l := l) (s := s) H0.out h1 a)
      have hin : ∀ x, inB s x = (decide (x.s = headB s) && (decide (x.f ≤ numB s) && decide (numB s ≤ x.t))) := fun x => rfl
      have HI := Lib.hid hin
      clear hin
      rw [h1]
      clear h1
      obtain ⟨H, hH⟩ : ∃ H, headB s = H := ⟨_, rfl⟩
      obtain ⟨N, hN⟩ : ∃ N, numB s = N := ⟨_, rfl⟩
      rw [hH, hN] at HI HP
      clear hH hN
      go_enter Tryd.func48, Tryd.ntmps48
      go_wp2_with fail
      refine HV.out.mono ?_
      rintro e w1 ⟨rfl, hb⟩
      have B1 := Lib.hid hb
      clear hb
      go_wp2_with fail
      refine (HP.out w1 (HT.out.below' B1.out)).mono ?_
      rintro e w2 ⟨rfl, hb⟩
      have B2 := Lib.hid (B1.out.trans (hb.mono B1.out.size))
      clear hb
      go_wp2_with fail
      go_loopw [29] (fun i wr => ∃ k : Nat, k ≤ l.length ∧ i = .int .i64 k ∧ NoneIn l s k ∧ Below w.heap.size w wr) (fun i _ => l.length - (intOf i).toNat)
      case atStart => exact ⟨0, by omega, rfl, fun j x hj => by omega, B2.out⟩
      case round =>
        obtain ⟨k, hk, rfl, hno, hb⟩ := hrel
        have HN := Lib.hid hno
        have B := Lib.hid hb
        clear hno hb
        by_cases hlt : k < l.length
        · obtain ⟨b, o, x, rfl, hx, c0, c1, c2⟩ := (HR.out.below B.out (Nat.le_refl _)).blk k hlt
          have B3 := Lib.hid (B.out.alloc B.out.size (.cells #[.string x.s, .int .i64 x.f, .int .i64 x.t] 84))
          rcases in_cases H N x with ⟨g1, g4⟩ | ⟨g1, g2, g4⟩ | ⟨g1, g2, g3, g4⟩ | ⟨g1, g2, g3, g4⟩
          · have HMM := Lib.hid ((HI.out x).trans g4)
            have g1' : ¬ x.s.toList = H.toList := by simpa using g1
            clear g4 g1
            go_wp2_with fail
            go_roundw
            case rel => exact ⟨k + 1, by omega, by go_num, HN.out.next hx.out HMM.out, B3.out⟩
            case measure => simp [intOf]; omega
          · have HMM := Lib.hid ((HI.out x).trans g4)
            have g1' : x.s.toList = H.toList := by simpa using g1
            clear g4 g1
            go_wp2_with fail
            go_roundw
            case rel => exact ⟨k + 1, by omega, by go_num, HN.out.next hx.out HMM.out, B3.out⟩
            case measure => simp [intOf]; omega
          · have HMM := Lib.hid ((HI.out x).trans g4)
            have g1' : x.s.toList = H.toList := by simpa using g1
            clear g4 g1
            go_wp2_with fail
            go_roundw
            case rel => exact ⟨k + 1, by omega, by go_num, HN.out.next hx.out HMM.out, B3.out⟩
            case measure => simp [intOf]; omega
          · have HMM := Lib.hid ((HI.out x).trans g4)
            have g1' : x.s.toList = H.toList := by simpa using g1
            clear g4 g1
            go_wp2_with fail
            go_ret3
            obtain ⟨q1, q2⟩ := HY.out k x HN.out hx.out HMM.out
            exact ⟨by rw [q1, q2]; rfl, B3.out⟩
        · have hks : k = l.length := by omega
          have HK := Lib.hid hks
          clear hks
          go_wp2_with fail
          go_ret3
          obtain ⟨q1, q2⟩ := HNo.out (by have := HN.out; rw [HK.out] at this; exact this)
          exact ⟨by rw [q1, q2]; rfl, B.out⟩
    · obtain ⟨q1, q2⟩ := own_bad (l := l) (s := s) (fun h => h1 h.2)
      rw [q1, q2]
      unfold splitS splitN at HP
      rw [if_neg h1, if_neg h1] at HP
      generalize validE s = E at *
      have hE : (E == 0) = false := by simpa using h1
      have hE' : (E != 0) = true := by simpa using h1
      clear h1 q1 q2
      go_enter Tryd.func48, Tryd.ntmps48
      go_wp2_with fail
      refine HV.out.mono ?_
      rintro e w1 ⟨rfl, hb⟩
      have B1 := Lib.hid hb
      clear hb
      go_wp2_with fail
      refine (HP.out w1 (HT.out.below' B1.out)).mono ?_
      rintro e w2 ⟨rfl, hb⟩
      go_wp2_with fail
      go_ret3
      exact ⟨rfl, B1.out.trans (hb.mono B1.out.size)⟩
  · obtain ⟨q1, q2⟩ := own_bad (l := l) (s := s) (fun h => h0 h.1)
    rw [q1, q2]
    unfold ownE
    rw [if_neg h0]
    generalize blocksE l = E at *
    have hE : (E == 0) = false := by simpa using h0
    have hE' : (E != 0) = true := by simpa using h0
    clear h0 q1 q2
    go_enter Tryd.func48, Tryd.ntmps48
    go_wp2_with fail
    refine HV.out.mono ?_
    rintro e w1 ⟨rfl, hb⟩
    go_wp2_with fail
    go_ret3
    exact ⟨rfl, hb⟩
set_option maxHeartbeats 800000 in
theorem rOwner_any (A : Option Addr) (c : Nat) (l : List Blk) (s : ByteArray) (w : World) (hr : Rd w w.heap.size A (blks l)) (hsz : ∀ x ∈ l, x.s.size ≤ 9223372036854775807) (hn : l.length ≤ c) (hc : c ≤ 9223372036854775807) (hs : s.size ≤ 1000) :
    Calls Tryd.prog 49 #[.slice A l.length c, .string s] w fun e w' => e = .returned (.tuple #[.int .i64 (ownI l s), .bool (ownB l s), .int .i64 (ownE l s)]) ∧ Below w.heap.size w w' := by
  have HR := Lib.hid hr
  have HV := Lib.hid (rValidateBlocks_any A c l w hr hsz hn hc)
  clear hr
  by_cases h0 : blocksE l = 0
  · have H0 := Lib.hid h0
    obtain ⟨h8, _⟩ := blocks_zero h0
    have HP := Lib.hid (fun w => rValid_any s w hs)
    unfold ownE
    rw [if_pos h0]
    rw [h0] at HV
    clear h0
    by_cases h1 : validE s = 0
    · have H1 := Lib.hid h1
      have hf := valid_form h1
      have hfs := form_size hf
      have HM := Lib.hid (fun w => number_ok s w hf)
      rw [h1] at HP
      have HY := Lib.hid (fun k x a b c => own_yes (l := l) (s := s) (k := k) (x := x) H0.out h1 a b c)
      have HNo := Lib.hid (fun a => own_no (l := l) (s := s) H0.out h1 a)
      obtain ⟨z, hz⟩ : ∃ z, s.size = z + 6 := ⟨s.size - 6, by omega⟩
      have e1 : ((s.size : Int) - 6) = (z : Int) := by omega
      have e2 : s.size - 6 = z := by omega
      have hzs : z ≤ s.size := by omega
      have ew : IntKind.i64.wrap (z : Int) = (z : Int) := IntWalk.i64_in _ (by omega)
      have hin : ∀ x, inB s x = (decide (x.s = s.extract 0 z) && (decide (x.f ≤ numB s) && decide (numB s ≤ x.t))) := fun x => by unfold inB headB; rw [e2]
      have HI := Lib.hid hin
      clear hin
      rw [h1]
      clear h1 hf hfs hz e2
      obtain ⟨N, hN⟩ : ∃ N, numB s = N := ⟨_, rfl⟩
      rw [hN] at HI HM
      clear hN
      go_enter Tryd.func49, Tryd.ntmps49
      go_wp2_with fail
      refine HV.out.mono ?_
      rintro e w1 ⟨rfl, m, rfl⟩
      go_wp2_with fail
      refine (HP.out _).mono ?_
      rintro e w2 ⟨rfl, hb⟩
      have B2 := Lib.hid (show Below w.heap.size w w2 from (below_drewN (Below.refl _ _) m).trans hb)
      clear hb
      go_wp2_with fail
      go_loopw [9] (fun i wr => ∃ k : Nat, k ≤ l.length ∧ i = .int .i64 k ∧ NoneIn l s k ∧ Below w.heap.size w wr) (fun i _ => l.length - (intOf i).toNat)
      case atStart => exact ⟨0, by omega, rfl, fun j x hj => by omega, B2.out⟩
      case round =>
        obtain ⟨k, hk, rfl, hno, hb⟩ := hrel
        have HN := Lib.hid hno
        have B := Lib.hid hb
        clear hno hb
        by_cases hlt : k < l.length
        · have hx0 : l[k]? = some l[k] := List.getElem?_eq_getElem hlt
          rcases in_cases (s.extract 0 z) N l[k] with ⟨g1, g4⟩ | ⟨g1, g2, g4⟩ | ⟨g1, g2, g3, g4⟩ | ⟨g1, g2, g3, g4⟩
          all_goals
            have HMM := Lib.hid ((HI.out _).trans g4)
            have HX := Lib.hid hx0
            generalize l[k] = x at *
            clear g4 hx0
            go_wp2_with fail
            refine (HM.out _).mono ?_
            rintro e w3 ⟨rfl, hb⟩
            have B3 := Lib.hid (B.out.trans (hb.mono B.out.size))
            clear hb
            obtain ⟨b, o, x', rfl, hx, c0, c1, c2⟩ := (HR.out.below B3.out (Nat.le_refl _)).blk k hlt
            have hxx : x' = x := by
              have := hx.out
              rw [HX.out] at this
              exact (Option.some.inj this).symm
            subst hxx
            go_wp2_with fail
            go_quiet (fail)
            go_wp2
          · go_roundw
            case rel => exact ⟨k + 1, by omega, by go_num, HN.out.next hx.out HMM.out, below_drewN B3.out _⟩
            case measure => simp [intOf]; omega
          · go_roundw
            case rel => exact ⟨k + 1, by omega, by go_num, HN.out.next hx.out HMM.out, below_drewN B3.out _⟩
            case measure => simp [intOf]; omega
          · go_roundw
            case rel => exact ⟨k + 1, by omega, by go_num, HN.out.next hx.out HMM.out, below_drewN B3.out _⟩
            case measure => simp [intOf]; omega
          · go_ret3
            obtain ⟨q1, q2⟩ := HY.out k _ HN.out hx.out HMM.out
            exact ⟨by rw [q1, q2]; rfl, below_drewN B3.out _⟩
        · have hks : k = l.length := by omega
          have HK := Lib.hid hks
          clear hks
          go_wp2_with fail
          go_ret3
          obtain ⟨q1, q2⟩ := HNo.out (by have := HN.out; rw [HK.out] at this; exact this)
          exact ⟨by rw [q1, q2]; rfl, B.out⟩
    · obtain ⟨q1, q2⟩ := own_bad (l := l) (s := s) (fun h => h1 h.2)
      rw [q1, q2]
      generalize validE s = E at *
      have hE : (E == 0) = false := by simpa using h1
      have hE' : (E != 0) = true := by simpa using h1
      clear h1 q1 q2
      go_enter Tryd.func49, Tryd.ntmps49
      go_wp2_with fail
      refine HV.out.mono ?_
      rintro e w1 ⟨rfl, m, rfl⟩
      go_wp2_with fail
      refine (HP.out _).mono ?_
      rintro e w2 ⟨rfl, hb⟩
      go_wp2_with fail
      go_ret3
      exact ⟨rfl, (below_drewN (Below.refl _ _) m).trans hb⟩
  · obtain ⟨q1, q2⟩ := own_bad (l := l) (s := s) (fun h => h0 h.1)
    rw [q1, q2]
    unfold ownE
    rw [if_neg h0]
    generalize blocksE l = E at *
    have hE : (E == 0) = false := by simpa using h0
    have hE' : (E != 0) = true := by simpa using h0
    clear h0 q1 q2
    go_enter Tryd.func49, Tryd.ntmps49
    go_wp2_with fail
    refine HV.out.mono ?_
    rintro e w1 ⟨rfl, m, rfl⟩
    go_wp2_with fail
    go_ret3
    exact ⟨rfl, below_drewN (Below.refl _ _) m⟩
end Go.Proofs.YtojieiplomojnaaDoor
