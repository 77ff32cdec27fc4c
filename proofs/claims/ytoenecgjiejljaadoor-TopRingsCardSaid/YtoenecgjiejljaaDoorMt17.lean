/-
  Texts merged into one (Spl, Blk): contracts of the functions of package lure, what is reckoned of games. Conditions: as each says.
-/
import Derived.Test.YtoenecgjiejljaaDoorMt11
import Derived.Deep.RegionWith
import Derived.IntWalk
namespace Go.Proofs.YtoenecgjiejljaaDoor
open Go.RowKit
set_option linter.unusedVariables false

def numK (s : ByteArray) : Nat → Int
  | 0 => 0
  | k + 1 => 10 * numK s k + (bAt s (s.size - 6 + k) - 48)
def numB (s : ByteArray) : Int := numK s 5
theorem tail_num {s : ByteArray} (h : formB s false = true) {k : Nat} (hk : k < 6) : 48 ≤ bAt s (s.size - 6 + k) ∧ bAt s (s.size - 6 + k) ≤ 57 := by
  have := dig_tail h (bAt s (s.size - 6 + k) - 48) (List.mem_map.2 ⟨k, List.mem_range.2 hk, rfl⟩)
  exact ⟨by have := this.1; omega, by have := this.2; omega⟩
theorem numK_le {s : ByteArray} (h : formB s false = true) : ∀ k, k ≤ 5 → 0 ≤ numK s k ∧ numK s k < (10 : Int) ^ k
  | 0, _ => by simp [numK]
  | k + 1, hk => by
    have := numK_le h k (by omega)
    have := tail_num h (k := k) (by omega)
    simp only [numK, Int.pow_succ]
    omega
theorem numB_le {s : ByteArray} (h : formB s false = true) : 0 ≤ numB s ∧ numB s ≤ 99999 := by
  have := numK_le h 5 (by omega)
  unfold numB
  have e : (10 : Int) ^ 5 = 100000 := by decide
  omega
theorem numK_in {s : ByteArray} (h : formB s false = true) {k : Nat} (hk : k ≤ 5) : 0 ≤ numK s k ∧ numK s k ≤ 99999 := by
  have := numK_le h k hk
  have e : (10 : Int) ^ k ≤ 100000 := by
    have : k = 0 ∨ k = 1 ∨ k = 2 ∨ k = 3 ∨ k = 4 ∨ k = 5 := by omega
    rcases this with rfl | rfl | rfl | rfl | rfl | rfl <;> decide
  omega
theorem tail_at {s : ByteArray} {k : Nat} (hk : k < 6) : (tailD s)[k]? = some (bAt s (s.size - 6 + k) - 48) := by
  unfold tailD tailK
  rw [List.getElem?_map, List.getElem?_range hk]
  rfl
theorem cut5_size {s : ByteArray} (h : 6 ≤ s.size) : ((tailB s).extract 0 5).size = 5 := by simp [tailB]; omega
theorem cut5_at {s : ByteArray} (h : 6 ≤ s.size) {k : Nat} (hk : k < 5) : bAt ((tailB s).extract 0 5) k = bAt s (s.size - 6 + k) := by
  rw [bAt_extract _ _ _ _ (by omega)]
  unfold tailB
  rw [bAt_extract _ _ _ _ (by omega)]
  simp
theorem cut5_num {s : ByteArray} (h : formB s false = true) : allNum ((tailB s).extract 0 5) = true := by
  have hs := form_size h
  refine List.all_eq_true.2 fun i hi => ?_
  have hi := List.mem_range.1 hi
  rw [cut5_size (by omega)] at hi
  rw [cut5_at (by omega) hi, isNum_iff]
  exact tail_num h (by omega)
theorem cut5_dig {s : ByteArray} (h : 6 ≤ s.size) {k : Nat} (hk : k < 5) : (digs ((tailB s).extract 0 5))[k]? = some (bAt s (s.size - 6 + k) - 48) := by
  unfold digs digsK
  rw [List.getElem?_map, List.getElem?_range (by rw [cut5_size h]; exact hk), Option.map_some, cut5_at h hk]
theorem valid_form {s : ByteArray} (h : validE s = 0) : formB s false = true := by
  unfold validE at h
  split at h
  · assumption
  · cases h
def splitS (s : ByteArray) : ByteArray := if validE s = 0 then headB s else ⟨#[]⟩
def splitN (s : ByteArray) : Int := if validE s = 0 then numB s else 0
set_option maxHeartbeats 400000 in
theorem rgSplit_any (s : ByteArray) (w : World) (hsz : s.size ≤ 1000) (ht : TabsR w) :
    Calls Tryd.prog 14 #[.string s] w fun e w' => e = .returned (.tuple #[.string (splitS s), .int .i64 (splitN s), .int .i64 (validE s)]) ∧ Below w.heap.size w w' := by
  have H1 := Lib.hid (Valid_any s w hsz ht)
  clear ht
  unfold splitS splitN
  by_cases h0 : validE s = 0
  · have hf := valid_form h0
    have hs := form_size hf
    have HF := Lib.hid hf
    have H2 := Lib.hid (fun w => cut_any s w (by omega) hsz)
    have H3 := Lib.hid (fun w => digitsOf_any ((tailB s).extract 0 5) w (by rw [cut5_size (by omega)]; omega) (cut5_num hf))
    have HL := Lib.hid (show (digs ((tailB s).extract 0 5)).length = 5 by rw [digs, digsK_length, cut5_size (by omega)])
    have HT6 := Lib.hid (size_tailB (s := s) (by omega))
    have h5 : 5 ≤ (tailB s).size := by have := HT6.out; omega
    have HD := Lib.hid (fun k hk => cut5_dig (s := s) (k := k) (by omega) hk)
    rw [if_pos h0, if_pos h0]
    rw [h0] at H1 ⊢
    clear h0 hf hs
    go_enter Tryd.func14, Tryd.ntmps14
    go_wp2_with fail
    refine H1.out.mono ?_
    rintro e w1 ⟨rfl, hb⟩
    have B1 := Lib.hid hb
    clear hb
    go_wp2_with fail
    refine (H2.out w1).mono ?_
    rintro e w' ⟨rfl, n, rfl⟩
    go_wp2_with fail
    refine (H3.out _).mono ?_
    rintro e w2 ⟨A, c, rfl, hr, hb⟩
    have R2 := Lib.hid hr
    have B2 := Lib.hid (show Below w.heap.size w w2 from B1.out.trans ((below_drewN (Below.refl _ _) n).trans hb |>.mono B1.out.size))
    clear hb hr
    rw [HL.out]
    go_wp2_with fail
    clear h5
    go_loop [8, 25] (fun v i => ∃ k : Nat, k ≤ 5 ∧ i = .int .i64 k ∧ v = .int .i64 (numK s k)) (fun _ i => 5 - (intOf i).toNat)
    case atStart => exact ⟨0, by omega, rfl, rfl⟩
    case round =>
      obtain ⟨k, hk, rfl, rfl⟩ := hrel
      by_cases hlt : k < 5
      · obtain ⟨b, o, d, rfl, hd, hc⟩ := R2.out.int k (by rw [HL.out]; exact hlt)
        have hdd : d = bAt s (s.size - 6 + k) - 48 := by
          have := hd.out
          rw [HD.out k hlt] at this
          exact (Option.some.inj this).symm
        have HDD := Lib.hid hdd
        obtain ⟨n1, n2⟩ := tail_num HF.out (k := k) (by omega)
        obtain ⟨m1, m2⟩ := numK_in HF.out hk
        have d1 : 0 ≤ d := by omega
        have d2 : d ≤ 9 := by omega
        obtain ⟨N, hN⟩ : ∃ N, numK s k = N := ⟨_, rfl⟩
        have HN := Lib.hid hN
        rw [hN] at m1 m2
        rw [hN]
        have hk5 : (k : Int) < 5 := by omega
        clear hdd n1 n2 hN
        go_wp2_with fail
        go_round
        case rel => exact ⟨k + 1, by omega, by go_num, by rw [numK, HN.out, HDD.out]⟩
        case measure => simp [intOf]; omega
      · have hk' : k = 5 := by omega
        subst hk'
        go_wp2_with fail
        go_ret3
        exact ⟨rfl, B2.out⟩
  · rw [if_neg h0, if_neg h0]
    generalize validE s = E at *
    have hE : (E == 0) = false := by simpa using h0
    have hE' : (E != 0) = true := by simpa using h0
    clear h0
    go_enter Tryd.func14, Tryd.ntmps14
    go_wp2_with fail
    refine H1.out.mono ?_
    rintro e w1 ⟨rfl, hb⟩
    go_wp2_with fail
    go_ret3
    exact ⟨rfl, hb⟩
theorem number_ok (s : ByteArray) (w : World) (hf : formB s false = true) :
    Calls Tryd.prog 52 #[.string s] w fun e w' => e = .returned (.int .i64 (numB s)) ∧ Below w.heap.size w w' := by
  have hs := form_size hf
  have HF := Lib.hid hf
  have H3 := Lib.hid (fun w => tail_any s w (by omega) (by omega))
  have HL := Lib.hid (tailK_length s 6)
  clear hf hs
  go_enter Tryd.func52, Tryd.ntmps52
  go_wp2_with fail
  refine (H3.out w).mono ?_
  rintro e w2 ⟨A, c, rfl, hr, hb⟩
  have R2 := Lib.hid hr
  have B2 := Lib.hid hb
  clear hb hr
  rw [show (tailD s).length = 6 from HL.out]
  go_wp2_with fail
  go_loop [3, 5] (fun v i => ∃ k : Nat, k ≤ 5 ∧ i = .int .i64 k ∧ v = .int .i64 (numK s k)) (fun _ i => 5 - (intOf i).toNat)
  case atStart => exact ⟨0, by omega, rfl, rfl⟩
  case round =>
    obtain ⟨k, hk, rfl, rfl⟩ := hrel
    by_cases hlt : k < 5
    · obtain ⟨b, o, d, rfl, hd, hc⟩ := R2.out.int k (by have := HL.out; unfold tailD; omega)
      have hdd : d = bAt s (s.size - 6 + k) - 48 := by
        have := hd.out
        rw [tail_at (by omega)] at this
        exact (Option.some.inj this).symm
      have HDD := Lib.hid hdd
      obtain ⟨n1, n2⟩ := tail_num HF.out (k := k) (by omega)
      obtain ⟨m1, m2⟩ := numK_in HF.out hk
      have d1 : 0 ≤ d := by omega
      have d2 : d ≤ 9 := by omega
      obtain ⟨N, hN⟩ : ∃ N, numK s k = N := ⟨_, rfl⟩
      have HN := Lib.hid hN
      rw [hN] at m1 m2
      rw [hN]
      have hk6 : (k : Int) < 6 := by omega
      clear hdd n1 n2 hN
      go_wp2_with fail
      go_round
      case rel => exact ⟨k + 1, by omega, by go_num, by rw [numK, HN.out, HDD.out]⟩
      case measure => simp [intOf]; omega
    · have hk' : k = 5 := by omega
      subst hk'
      go_wp2_with fail
      go_ret
      exact ⟨rfl, B2.out⟩
theorem rgrSplit_any (s : ByteArray) (w : World) (hsz : s.size ≤ 1000) :
    Calls Tryd.prog 15 #[.string s] w fun e w' => e = .returned (.tuple #[.string (splitS s), .int .i64 (splitN s), .int .i64 (validE s)]) ∧ Below w.heap.size w w' := by
  have H1 := Lib.hid (rValid_any s w hsz)
  unfold splitS splitN
  by_cases h0 : validE s = 0
  · have hf := valid_form h0
    have hs := form_size hf
    have H2 := Lib.hid (fun w => number_ok s w hf)
    obtain ⟨k, hk⟩ : ∃ k, s.size = k + 6 := ⟨s.size - 6, by omega⟩
    have e1 : ((s.size : Int) - 6) = (k : Int) := by omega
    have e2 : s.size - 6 = k := by omega
    have hks : k ≤ s.size := by omega
    have ew : IntKind.i64.wrap (k : Int) = (k : Int) := IntWalk.i64_in _ (by omega)
    unfold headB
    rw [if_pos h0, if_pos h0, e2]
    rw [h0] at H1 ⊢
    clear h0 hf hs hk e2
    go_enter Tryd.func15, Tryd.ntmps15
    go_wp2_with fail
    refine H1.out.mono ?_
    rintro e w1 ⟨rfl, hb⟩
    have B1 := Lib.hid hb
    clear hb
    go_wp2_with fail
    go_region_with ((go_at_call 52; refine (H2.out _).mono ?_; rintro e w2 ⟨rfl, hb2⟩))
    all_goals (
      go_wp2_with fail
      go_ret3
      exact ⟨rfl, B1.out.trans ((((Below.refl w1.heap.size w1).drew).trans (hb2.mono (by simp))).mono B1.out.size)⟩)
  · rw [if_neg h0, if_neg h0]
    generalize validE s = E at *
    have hE : (E == 0) = false := by simpa using h0
    have hE' : (E != 0) = true := by simpa using h0
    clear h0
    go_enter Tryd.func15, Tryd.ntmps15
    go_wp2_with fail
    refine H1.out.mono ?_
    rintro e w1 ⟨rfl, hb⟩
    go_wp2_with fail
    go_ret3
    exact ⟨rfl, hb⟩
end Go.Proofs.YtoenecgjiejljaaDoor
namespace Go.Proofs.YtoenecgjiejljaaDoor
open Go.RowKit
set_option linter.unusedVariables false

def seriesB (s : ByteArray) : Bool := (decide (s.size = 1) || decide (s.size = 2)) && (List.range s.size).all fun i => isUp (bAt s i)
theorem series_bad {s : ByteArray} {k : Nat} (hk : k < s.size) (h : isUp (bAt s k) = false) : seriesB s = false := by
  simp only [seriesB, Bool.and_eq_false_iff]
  right
  rw [List.all_eq_false]
  exact ⟨k, List.mem_range.2 hk, by simp [h]⟩
theorem series_ok {s : ByteArray} (hs : s.size = 1 ∨ s.size = 2) (h : ∀ i, i < s.size → isUp (bAt s i) = true) : seriesB s = true := by
  simp only [seriesB, Bool.and_eq_true, Bool.or_eq_true, decide_eq_true_eq]
  exact ⟨hs, List.all_eq_true.2 fun i hi => h i (List.mem_range.1 hi)⟩
theorem series_size {s : ByteArray} (h1 : s.size ≠ 1) (h2 : s.size ≠ 2) : seriesB s = false := by simp [seriesB, h1, h2]
theorem rune_up (s : ByteArray) (pos : Nat) (h : pos < s.size) :
    isUp ((Utf8.decode s pos).1 : Int) = isUp (bAt s pos) ∧ (isUp (bAt s pos) = true → (Utf8.decode s pos).2 = 1) ∧ (0 : Int) ≤ ((Utf8.decode s pos).1 : Int) := by
  obtain ⟨a, b, c, _⟩ := rune_at s pos h false (pos + 1 : Int)
  unfold okAt at a b
  rw [if_pos (by omega), if_pos (by omega)] at a
  rw [if_pos (by omega)] at b
  simp at a b
  exact ⟨a, b, c⟩
set_option maxHeartbeats 1000000 in
theorem isSeries_any (s : ByteArray) (w : World) (hsz : s.size ≤ 9223372036854775807) :
    Calls Tryd.prog 59 #[.string s] w fun e w' => e = .returned (.bool (seriesB s)) ∧ Below w.heap.size w w' := by
  by_cases hs : s.size = 1 ∨ s.size = 2
  · have HS := Lib.hid hs
    have h1 : decide ((s.size : Int) < 1) = false := by simp; omega
    have h2 : decide (2 < (s.size : Int)) = false := by simp; omega
    clear hs
    go_enter Tryd.func59, Tryd.ntmps59
    go_wp2
    clear h1 h2
    go_loopw [] (fun wr => ∃ pos, pos ≤ s.size ∧ wr = w.iter s pos ∧ ∀ i, i < pos → isUp (bAt s i) = true) (fun wr => s.size - wr.iterPos w.heap.size)
    case atStart => exact ⟨0, by omega, rfl, fun i hi => by omega⟩
    case round =>
      obtain ⟨pos, hpos, rfl, hall⟩ := hrel
      have HA := Lib.hid hall
      clear hall
      by_cases hp : pos < s.size
      · obtain ⟨ho, hn, hr0⟩ := rune_up s pos hp
        have hnx : ∀ ty, (Instr.next (.pointer (some ⟨w.heap.size, 0, none⟩)) true ty).run Tryd.prog (w.iter s pos) = _ := fun ty => run_next_any w s pos ty hp
        generalize ((Utf8.decode s pos).1 : Int) = r at *
        generalize (Utf8.decode s pos).2 = n at *
        have HO := Lib.hid ho
        have HN := Lib.hid hn
        clear ho hn
        cases hu : isUp r
        · have HU := Lib.hid hu
          clear hu
          go_wp2_with (go_at_call 106; refine (isLetter_any r _).mono ?_; rw [HU.out]; rintro e w' ⟨rfl, rfl⟩)
          go_ret
          exact ⟨by rw [series_bad hp (HO.out.symm.trans HU.out)]; rfl, iter_below _ _ _⟩
        · have HU := Lib.hid hu
          clear hu
          obtain rfl : n = 1 := HN.out (HO.out.symm.trans HU.out)
          go_wp2_with (go_at_call 106; refine (isLetter_any r _).mono ?_; rw [HU.out]; rintro e w' ⟨rfl, rfl⟩)
          go_roundw
          case rel => exact ⟨pos + 1, by omega, rfl, fun i hi => by
            rcases Nat.lt_or_ge i pos with h | h
            · exact HA.out i h
            · obtain rfl : i = pos := by omega
              exact HO.out.symm.trans HU.out⟩
          case measure => simp; omega
      · have hnx : ∀ ty, (Instr.next (.pointer (some ⟨w.heap.size, 0, none⟩)) true ty).run Tryd.prog (w.iter s pos) = _ := fun ty => run_next_end w s pos ty hp
        have hps : pos = s.size := by omega
        have HP := Lib.hid hps
        clear hps
        go_wp2
        go_ret
        exact ⟨by rw [series_ok HS.out (fun i hi => HA.out i (by rw [HP.out]; exact hi))]; rfl, iter_below _ _ _⟩
  · rw [series_size (by omega) (by omega)]
    by_cases h0 : s.size = 0
    · have h1 : decide ((s.size : Int) < 1) = true := by simp; omega
      clear hs h0
      go_enter Tryd.func59, Tryd.ntmps59
      go_wp2
      go_ret
      exact ⟨rfl, Below.refl _ _⟩
    · have h1 : decide ((s.size : Int) < 1) = false := by simp; omega
      have h2 : decide (2 < (s.size : Int)) = true := by simp; omega
      clear hs h0
      go_enter Tryd.func59, Tryd.ntmps59
      go_wp2
      go_ret
      exact ⟨rfl, Below.refl _ _⟩

/-! ### The reference's -/
def zeros6 : ByteArray := ⟨#[48, 48, 48, 48, 48, 48]⟩
theorem bAt_app (a b : ByteArray) (i : Nat) : bAt (a ++ b) i = if i < a.size then bAt a i else bAt b (i - a.size) := by
  unfold bAt
  have e : (a ++ b).data.toList = a.data.toList ++ b.data.toList := by simp [ByteArray.data_append]
  rw [e, List.getD_eq_getElem?_getD, List.getElem?_append]
  have : a.data.toList.length = a.size := by simp
  rw [this]
  split <;> simp [List.getD_eq_getElem?_getD]
theorem form_series {s : ByteArray} (hs : s.size = 1 ∨ s.size = 2) : formB (s ++ zeros6) false = seriesB s := by
  have hz : zeros6.size = 6 := rfl
  have hsz : (s ++ zeros6).size = s.size + 6 := by rw [ByteArray.size_append, hz]
  have hz6 : ∀ i : Fin 6, bAt zeros6 i.val = 48 := by decide +kernel
  cases hb : seriesB s
  · obtain ⟨k, hk, hu⟩ : ∃ k, k < s.size ∧ isUp (bAt s k) = false := by
      simp only [seriesB, Bool.and_eq_false_iff] at hb
      rcases hb with hb | hb
      · simp at hb; omega
      · rw [List.all_eq_false] at hb
        obtain ⟨k, hk, h⟩ := hb
        exact ⟨k, List.mem_range.1 hk, by simpa using h⟩
    refine formB_bad (pos := k) (by omega) ?_
    rw [bAt_app, if_pos hk]
    unfold okAt
    rw [if_pos (by omega)]
    simp [hu]
  · have hu : ∀ i, i < s.size → isUp (bAt s i) = true := by
      simp only [seriesB, Bool.and_eq_true] at hb
      exact fun i hi => List.all_eq_true.1 hb.2 i (List.mem_range.2 hi)
    refine formB_ok (by omega) fun i hi => ?_
    rw [bAt_app]
    unfold okAt
    by_cases h : i < s.size
    · rw [if_pos h, if_pos (by omega), hu i h]; rfl
    · rw [if_neg h, if_neg (by omega)]
      have := hz6 ⟨i - s.size, by omega⟩
      simp only at this
      rw [this]; rfl
theorem rIsSeries_any (s : ByteArray) (w : World) (hsz : s.size ≤ 9223372036854775807) :
    Calls Tryd.prog 63 #[.string s] w fun e w' => e = .returned (.bool (seriesB s)) ∧ w = w' := by
  by_cases hs : s.size = 1 ∨ s.size = 2
  · have HF := Lib.hid (form_series hs)
    have HC := Lib.hid (fun w => formed_any (s ++ zeros6) false w (by rw [ByteArray.size_append]; have : zeros6.size = 6 := rfl; omega))
    rw [HF.out] at HC
    unfold zeros6 at HC
    obtain ⟨q, hq⟩ : ∃ q, ((s.size : Int) == 1) = q := ⟨_, rfl⟩
    have h8 : q = false → ((s.size : Int) == 2) = true := by
      intro h; rw [h] at hq; simp at hq ⊢; omega
    have hlen : s.size ≤ 2 := by omega
    cases q
    all_goals
      have h8' := h8
      simp only [forall_const, Bool.true_eq_false, false_implies] at h8'
      clear h8 hs
      go_enter Tryd.func63, Tryd.ntmps63
      go_wp2_with (go_at_call 56; refine (HC.out _).mono ?_; rintro e w' ⟨rfl, rfl⟩)
      go_ret
      exact ⟨rfl, rfl⟩
  · rw [series_size (by omega) (by omega)]
    have h1 : ((s.size : Int) == 1) = false := by simp; omega
    have h2 : ((s.size : Int) == 2) = false := by simp; omega
    clear hs
    go_enter Tryd.func63, Tryd.ntmps63
    go_wp2
    go_ret
    exact ⟨rfl, rfl⟩
end Go.Proofs.YtoenecgjiejljaaDoor
