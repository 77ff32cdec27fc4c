/-
  The walks of Split of package ring, of number and Split of the reference. Condition: 'TabsR' where package ring reads its tables.
-/
import Derived.Test.YtoenecgjiejljaaDoorFit
import Derived.Deep.RegionWith
import Derived.IntWalk
namespace Go.Proofs.YtoenecgjiejljaaDoor
open Go.RowKit
set_option linter.unusedVariables false

def numK (s : ByteArray) : Nat → Int
  | 0 => 0
  | k + 1 => 10 * numK s k + (bAt s (s.size - 6 + k) - 48)
def numB (s : ByteArray) : Int := numK s 5
theorem tail_num {s : ByteArray} (h : formB s false = true) {k : Nat} (hk : k < 6) : 48 ≤ bAt s (s.size - 6 + k) ∧ bAt s (s.size - 6 + k) ≤ 57 := by
  have := dig_tail h (bAt s (s.size - 6 + k) - 48) (List.mem_map.2 ⟨k, List.mem_range.2 hk, rfl⟩)
  exact ⟨by have := this.1; omega, by have := this.2; omega⟩
theorem numK_le {s : ByteArray} (h : formB s false = true) : ∀ k, k ≤ 5 → 0 ≤ numK s k ∧ numK s k < (10 : Int) ^ k
  | 0, _ => by simp [numK]
  | k + 1, hk => by
    have := numK_le h k (by omega)
    have := tail_num h (k := k) (by omega)
    simp only [numK, Int.pow_succ]
    omega
theorem numB_le {s : ByteArray} (h : formB s false = true) : 0 ≤ numB s ∧ numB s ≤ 99999 := by
  have := numK_le h 5 (by omega)
  unfold numB
  have e : (10 : Int) ^ 5 = 100000 := by decide
  omega
theorem numK_in {s : ByteArray} (h : formB s false = true) {k : Nat} (hk : k ≤ 5) : 0 ≤ numK s k ∧ numK s k ≤ 99999 := by
  have := numK_le h k hk
  have e : (10 : Int) ^ k ≤ 100000 := by
    have : k = 0 ∨ k = 1 ∨ k = 2 ∨ k = 3 ∨ k = 4 ∨ k = 5 := by omega
    rcases this with rfl | rfl | rfl | rfl | rfl | rfl <;> decide
  omega
theorem tail_at {s : ByteArray} {k : Nat} (hk : k < 6) : (tailD s)[k]? = some (bAt s (s.size - 6 + k) - 48) := by
  unfold tailD tailK
  rw [List.getElem?_map, List.getElem?_range hk]
  rfl
theorem cut5_size {s : ByteArray} (h : 6 ≤ s.size) : ((tailB s).extract 0 5).size = 5 := by simp [tailB]; omega
theorem cut5_at {s : ByteArray} (h : 6 ≤ s.size) {k : Nat} (hk : k < 5) : bAt ((tailB s).extract 0 5) k = bAt s (s.size - 6 + k) := by
  rw [bAt_extract _ _ _ _ (by omega)]
  unfold tailB
  rw [bAt_extract _ _ _ _ (by omega)]
  simp
theorem cut5_num {s : ByteArray} (h : formB s false = true) : allNum ((tailB s).extract 0 5) = true := by
  have hs := form_size h
  refine List.all_eq_true.2 fun i hi => ?_
  have hi := List.mem_range.1 hi
  rw [cut5_size (by omega)] at hi
  rw [cut5_at (by omega) hi, isNum_iff]
  exact tail_num h (by omega)
theorem cut5_dig {s : ByteArray} (h : 6 ≤ s.size) {k : Nat} (hk : k < 5) : (digs ((tailB s).extract 0 5))[k]? = some (bAt s (s.size - 6 + k) - 48) := by
  unfold digs digsK
  rw [List.getElem?_map, List.getElem?_range (by rw [cut5_size h]; exact hk), Option.map_some, cut5_at h hk]
theorem valid_form {s : ByteArray} (h : validE s = 0) : formB s false = true := by
  unfold validE at h
  split at h
  · assumption
  · cases h
def splitS (s : ByteArray) : ByteArray := if validE s = 0 then headB s else ⟨#[]⟩
def splitN (s : ByteArray) : Int := if validE s = 0 then numB s else 0
set_option maxHeartbeats 400000 in
theorem rgSplit_any (s : ByteArray) (w : World) (hsz : s.size ≤ 1000) (ht : TabsR w) :
    Calls Tryd.prog 14 #[.string s] w fun e w' => e = .returned (.tuple #[.string (splitS s), .int .i64 (splitN s), .int .i64 (validE s)]) ∧ Below w.heap.size w w' := by
  have H1 := Lib.hid (Valid_any s w hsz ht)
  clear ht
  unfold splitS splitN
  by_cases h0 : validE s = 0
  · have hf := valid_form h0
    have hs := form_size hf
    have HF := Lib.hid hf
    have H2 := Lib.hid (fun w => cut_any s w (by omega) hsz)
    have H3 := Lib.hid (fun w => digitsOf_any ((tailB s).extract 0 5) w (by rw [cut5_size (by omega)]; omega) (cut5_num hf))
    have HL := Lib.hid (show (digs ((tailB s).extract 0 5)).length = 5 by rw [digs, digsK_length, cut5_size (by omega)])
    have HT6 := Lib.hid (size_tailB (s := s) (by omega))
    have h5 : 5 ≤ (tailB s).size := by have := HT6.out; omega
    have HD := Lib.hid (fun k hk => cut5_dig (s := s) (k := k) (by omega) hk)
    rw [if_pos h0, if_pos h0]
    rw [h0] at H1 ⊢
    clear h0 hf hs
    go_enter Tryd.func14, Tryd.ntmps14
    go_wp2_with fail
    refine H1.out.mono ?_
    rintro e w1 ⟨rfl, hb⟩
    have B1 := Lib.hid hb
    clear hb
    go_wp2_with fail
    refine (H2.out w1).mono ?_
    rintro e w' ⟨rfl, n, rfl⟩
    go_wp2_with fail
    refine (H3.out _).mono ?_
    rintro e w2 ⟨A, c, rfl, hr, hb⟩
    have R2 := Lib.hid hr
    have B2 := Lib.hid (show Below w.heap.size w w2 from B1.out.trans ((below_drewN (Below.refl _ _) n).trans hb |>.mono B1.out.size))
    clear hb hr
    rw [HL.out]
    go_wp2_with fail
    clear h5
    go_loop [8, 25] (fun v i => ∃ k : Nat, k ≤ 5 ∧ i = .int .i64 k ∧ v = .int .i64 (numK s k)) (fun _ i => 5 - (intOf i).toNat)
    case atStart => exact ⟨0, by omega, rfl, rfl⟩
    case round =>
      obtain ⟨k, hk, rfl, rfl⟩ := hrel
      by_cases hlt : k < 5
      · obtain ⟨b, o, d, rfl, hd, hc⟩ := R2.out.int k (by rw [HL.out]; exact hlt)
        have hdd : d = bAt s (s.size - 6 + k) - 48 := by
          have := hd.out
          rw [HD.out k hlt] at this
          exact (Option.some.inj this).symm
        have HDD := Lib.hid hdd
        obtain ⟨n1, n2⟩ := tail_num HF.out (k := k) (by omega)
        obtain ⟨m1, m2⟩ := numK_in HF.out hk
        have d1 : 0 ≤ d := by omega
        have d2 : d ≤ 9 := by omega
        obtain ⟨N, hN⟩ : ∃ N, numK s k = N := ⟨_, rfl⟩
        have HN := Lib.hid hN
        rw [hN] at m1 m2
        rw [hN]
        have hk5 : (k : Int) < 5 := by omega
        clear hdd n1 n2 hN
        go_wp2_with fail
        go_round
        case rel => exact ⟨k + 1, by omega, by go_num, by rw [numK, HN.out, HDD.out]⟩
        case measure => simp [intOf]; omega
      · have hk' : k = 5 := by omega
        subst hk'
        go_wp2_with fail
        go_ret3
        exact ⟨rfl, B2.out⟩
  · rw [if_neg h0, if_neg h0]
    generalize validE s = E at *
    have hE : (E == 0) = false := by simpa using h0
    have hE' : (E != 0) = true := by simpa using h0
    clear h0
    go_enter Tryd.func14, Tryd.ntmps14
    go_wp2_with fail
    refine H1.out.mono ?_
    rintro e w1 ⟨rfl, hb⟩
    go_wp2_with fail
    go_ret3
    exact ⟨rfl, hb⟩
theorem number_ok (s : ByteArray) (w : World) (hf : formB s false = true) :
    Calls Tryd.prog 52 #[.string s] w fun e w' => e = .returned (.int .i64 (numB s)) ∧ Below w.heap.size w w' := by
  have hs := form_size hf
  have HF := Lib.hid hf
  have H3 := Lib.hid (fun w => tail_any s w (by omega) (by omega))
  have HL := Lib.hid (tailK_length s 6)
  clear hf hs
  go_enter Tryd.func52, Tryd.ntmps52
  go_wp2_with fail
  refine (H3.out w).mono ?_
  rintro e w2 ⟨A, c, rfl, hr, hb⟩
  have R2 := Lib.hid hr
  have B2 := Lib.hid hb
  clear hb hr
  rw [show (tailD s).length = 6 from HL.out]
  go_wp2_with fail
  go_loop [3, 5] (fun v i => ∃ k : Nat, k ≤ 5 ∧ i = .int .i64 k ∧ v = .int .i64 (numK s k)) (fun _ i => 5 - (intOf i).toNat)
  case atStart => exact ⟨0, by omega, rfl, rfl⟩
  case round =>
    obtain ⟨k, hk, rfl, rfl⟩ := hrel
    by_cases hlt : k < 5
    · obtain ⟨b, o, d, rfl, hd, hc⟩ := R2.out.int k (by have := HL.out; unfold tailD; omega)
      have hdd : d = bAt s (s.size - 6 + k) - 48 := by
        have := hd.out
        rw [tail_at (by omega)] at this
        exact (Option.some.inj this).symm
      have HDD := Lib.hid hdd
      obtain ⟨n1, n2⟩ := tail_num HF.out (k := k) (by omega)
      obtain ⟨m1, m2⟩ := numK_in HF.out hk
      have d1 : 0 ≤ d := by omega
      have d2 : d ≤ 9 := by omega
      obtain ⟨N, hN⟩ : ∃ N, numK s k = N := ⟨_, rfl⟩
      have HN := Lib.hid hN
      rw [hN] at m1 m2
      rw [hN]
      have hk6 : (k : Int) < 6 := by omega
      clear hdd n1 n2 hN
      go_wp2_with fail
      go_round
      case rel => exact ⟨k + 1, by omega, by go_num, by rw [numK, HN.out, HDD.out]⟩
      case measure => simp [intOf]; omega
    · have hk' : k = 5 := by omega
      subst hk'
      go_wp2_with fail
      go_ret
      exact ⟨rfl, B2.out⟩
theorem rgrSplit_any (s : ByteArray) (w : World) (hsz : s.size ≤ 1000) :
    Calls Tryd.prog 15 #[.string s] w fun e w' => e = .returned (.tuple #[.string (splitS s), .int .i64 (splitN s), .int .i64 (validE s)]) ∧ Below w.heap.size w w' := by
  have H1 := Lib.hid (rValid_any s w hsz)
  unfold splitS splitN
  by_cases h0 : validE s = 0
  · have hf := valid_form h0
    have hs := form_size hf
    have H2 := Lib.hid (fun w => number_ok s w hf)
    obtain ⟨k, hk⟩ : ∃ k, s.size = k + 6 := ⟨s.size - 6, by omega⟩
    have e1 : ((s.size : Int) - 6) = (k : Int) := by omega
    have e2 : s.size - 6 = k := by omega
    have hks : k ≤ s.size := by omega
    have ew : IntKind.i64.wrap (k : Int) = (k : Int) := IntWalk.i64_in _ (by omega)
    unfold headB
    rw [if_pos h0, if_pos h0, e2]
    rw [h0] at H1 ⊢
    clear h0 hf hs hk e2
    go_enter Tryd.func15, Tryd.ntmps15
    go_wp2_with fail
    refine H1.out.mono ?_
    rintro e w1 ⟨rfl, hb⟩
    have B1 := Lib.hid hb
    clear hb
    go_wp2_with fail
    go_region_with ((go_at_call 52; refine (H2.out _).mono ?_; rintro e w2 ⟨rfl, hb2⟩))
    all_goals (
      go_wp2_with fail
      go_ret3
      exact ⟨rfl, B1.out.trans ((((Below.refl w1.heap.size w1).drew).trans (hb2.mono (by simp))).mono B1.out.size)⟩)
  · rw [if_neg h0, if_neg h0]
    generalize validE s = E at *
    have hE : (E == 0) = false := by simpa using h0
    have hE' : (E != 0) = true := by simpa using h0
    clear h0
    go_enter Tryd.func15, Tryd.ntmps15
    go_wp2_with fail
    refine H1.out.mono ?_
    rintro e w1 ⟨rfl, hb⟩
    go_wp2_with fail
    go_ret3
    exact ⟨rfl, hb⟩
end Go.Proofs.YtoenecgjiejljaaDoor
