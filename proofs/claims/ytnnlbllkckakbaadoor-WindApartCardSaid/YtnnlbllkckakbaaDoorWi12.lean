/-
  Lists that are sets, chosen pipes: the walks of isSet, gather, Covers of package wind, of isList, covers, Covers of the reference. No condition.
-/
import Derived.Test.YtnnlbllkckakbaaDoorWi11
namespace Go.Proofs.YtnnlbllkckakbaaDoor
open Go.RowKit
set_option linter.unusedVariables false

def prv (L : List Int) (k : Nat) : Int := if k = 0 then -1 else L.getD (k - 1) 0
def okI (lim : Int) (L : List Int) (k : Nat) : Bool := decide (prv L k < L.getD k 0) && decide (L.getD k 0 < lim)
def setL (lim : Int) (L : List Int) : Bool := (List.range L.length).all (okI lim L)
theorem setL_bad {lim : Int} {L : List Int} {k : Nat} (hk : k < L.length) (h : okI lim L k = false) : setL lim L = false := by
  unfold setL
  rw [List.all_eq_false]
  exact ⟨k, List.mem_range.2 hk, by simp [h]⟩
theorem setL_ok {lim : Int} {L : List Int} (h : ∀ k, k < L.length → okI lim L k = true) : setL lim L = true := by
  unfold setL
  rw [List.all_eq_true]
  exact fun k hk => h k (List.mem_range.1 hk)
theorem setL_at {lim : Int} {L : List Int} (h : setL lim L = true) {k : Nat} (hk : k < L.length) : okI lim L k = true := by
  unfold setL at h
  exact List.all_eq_true.1 h k (List.mem_range.2 hk)
theorem getD_at {L : List Int} {k : Nat} {d : Int} (h : L[k]? = some d) : L.getD k 0 = d := by rw [List.getD_eq_getElem?_getD, h]; rfl
theorem ok_pos {lim : Int} {L : List Int} {k : Nat} (h : ∀ j, j ≤ k → okI lim L j = true) : 0 ≤ L.getD k 0 := by
  induction k with
  | zero =>
    have := h 0 (Nat.le_refl _)
    unfold okI prv at this
    simp at this ⊢
    omega
  | succ k ih =>
    have h1 := h (k + 1) (Nat.le_refl _)
    have h2 := ih fun j hj => h j (by omega)
    unfold okI prv at h1
    simp at h1 h2 ⊢
    omega
theorem set_in {lim : Int} {L : List Int} (h : setL lim L = true) {k : Nat} {d : Int} (hd : L[k]? = some d) : 0 ≤ d ∧ d < lim := by
  have hk := (List.getElem?_eq_some_iff.1 hd).1
  have h1 := ok_pos (lim := lim) (L := L) (k := k) fun j hj => setL_at h (by omega)
  have h2 := setL_at h hk
  unfold okI at h2
  rw [getD_at hd] at h1 h2
  rw [Bool.and_eq_true, decide_eq_true_eq, decide_eq_true_eq] at h2
  exact ⟨h1, h2.2⟩
theorem set_mem {lim : Int} {L : List Int} (h : setL lim L = true) {d : Int} (hd : d ∈ L) : 0 ≤ d ∧ d < lim := by
  obtain ⟨k, hk, he⟩ := List.getElem_of_mem hd
  exact set_in h (k := k) (by rw [← he]; exact List.getElem?_eq_getElem hk)
theorem prv_next {L : List Int} {k : Nat} {d : Int} (h : L[k]? = some d) : prv L (k + 1) = d := by
  unfold prv
  rw [if_neg (by omega), Nat.add_sub_cancel, getD_at h]
set_option maxRecDepth 4000 in
theorem isSet_any (A : Option Addr) (c : Nat) (L : List Int) (lim : Int) (w : World) (hr : Rd w w.heap.size A (ints L)) (hn : L.length ≤ 9223372036854775807) :
    Calls Tryd.prog 79 #[.slice A L.length c, .int .i64 lim] w fun e w' => e = .returned (.bool (setL lim L)) ∧ w = w' := by
  have HR := Lib.hid hr
  clear hr
  go_enter Tryd.func79, Tryd.ntmps79
  go_wp2
  go_loop [5, 10] (fun v i => ∃ k : Nat, k ≤ L.length ∧ i = .int .i64 k ∧ v = .int .i64 (prv L k) ∧ ∀ j, j < k → okI lim L j = true) (fun _ i => L.length - (intOf i).toNat)
  case atStart => exact ⟨0, by omega, rfl, rfl, fun j hj => by omega⟩
  case round =>
    obtain ⟨k, hk, rfl, rfl, hall⟩ := hrel
    have HA := Lib.hid hall
    clear hall
    by_cases hlt : k < L.length
    · obtain ⟨b, o, d, rfl, hd, hc⟩ := HR.out.int k hlt
      have HP := Lib.hid (prv_next hd.out)
      have hok : okI lim L k = (decide (prv L k < d) && decide (d < lim)) := by unfold okI; rw [getD_at hd.out]
      have HB := Lib.hid (fun h => setL_bad (lim := lim) hlt h)
      have HO := Lib.hid (show okI lim L k = true → ∀ j, j < k + 1 → okI lim L j = true from fun h j hj => by
        rcases Nat.lt_or_ge j k with h1 | h1
        · exact HA.out j h1
        · obtain rfl : j = k := by omega
          exact h)
      generalize prv L k = P at *
      by_cases h1 : P < d
      · have e1 : decide (d ≤ P) = false := by simp; omega
        by_cases h2 : d < lim
        · have e2 : decide (lim ≤ d) = false := by simp; omega
          have HN := Lib.hid (HO.out (by rw [hok, decide_eq_true h1, decide_eq_true h2]; rfl))
          clear h1 h2 hok
          go_wp2_with fail
          go_round
          case rel => exact ⟨k + 1, by omega, by go_num, by rw [HP.out], HN.out⟩
          case measure => simp [intOf]; omega
        · have e2 : decide (lim ≤ d) = true := by simp; omega
          have HE := Lib.hid (HB.out (by rw [hok, decide_eq_true h1, decide_eq_false h2]; rfl))
          clear h1 h2 hok
          go_wp2_with fail
          go_ret
          exact ⟨by rw [HE.out]; rfl, rfl⟩
      · have e1 : decide (d ≤ P) = true := by simp; omega
        have HE := Lib.hid (HB.out (by rw [hok, decide_eq_false h1]; rfl))
        clear h1 hok
        go_wp2_with fail
        go_ret
        exact ⟨by rw [HE.out]; rfl, rfl⟩
    · have hks : k = L.length := by omega
      subst hks
      have HE := Lib.hid (setL_ok HA.out)
      go_wp2_with fail
      go_ret
      exact ⟨by rw [HE.out]; rfl, rfl⟩
set_option maxRecDepth 4000 in
set_option maxHeartbeats 800000 in
theorem risList_any (A : Option Addr) (c : Nat) (L : List Int) (lim most : Int) (w : World) (hr : Rd w w.heap.size A (ints L)) (hn : L.length ≤ 9223372036854775807) (hlim : most + 1 = lim) :
    Calls Tryd.prog 81 #[.slice A L.length c, .int .i64 most] w fun e w' => e = .returned (.bool (setL lim L)) ∧ ∃ m, w' = w.drewN m := by
  have HR := Lib.hid hr
  have HLim := Lib.hid hlim
  clear hr hlim
  go_enter Tryd.func81, Tryd.ntmps81
  go_wp2
  go_loopw [5] (fun i wr => ∃ k : Nat, k ≤ L.length ∧ i = .int .i64 k ∧ (∀ j, j < k → okI lim L j = true) ∧ ∃ m, wr = w.drewN m) (fun i _ => L.length - (intOf i).toNat)
  case atStart => exact ⟨0, by omega, rfl, fun j hj => by omega, 0, rfl⟩
  case round =>
    obtain ⟨k, hk, rfl, hall, m, rfl⟩ := hrel
    have HA := Lib.hid hall
    clear hall
    by_cases hlt : k < L.length
    · obtain ⟨b, o, d, rfl, hd, hc⟩ := HR.out.int k hlt
      have hok : okI lim L k = (decide (prv L k < d) && decide (d < lim)) := by unfold okI; rw [getD_at hd.out]
      have HB := Lib.hid (fun h => setL_bad (lim := lim) hlt h)
      have HO := Lib.hid (show okI lim L k = true → ∀ j, j < k + 1 → okI lim L j = true from fun h j hj => by
        rcases Nat.lt_or_ge j k with h1 | h1
        · exact HA.out j h1
        · obtain rfl : j = k := by omega
          exact h)
      have hlm := HLim.out
      have b1 : (k : Int) < (L.length : Int) := by omega
      have b0 : (0 : Int) ≤ (k : Int) := by omega
      rcases Nat.eq_zero_or_pos k with hk0 | hk0
      · subst hk0
        have hp : prv L 0 = -1 := rfl
        rw [hp] at hok
        rw [Nat.add_zero] at hc
        by_cases h1 : d < 0
        · have e1 : decide (d < 0) = true := by simpa using h1
          have HE := Lib.hid (HB.out (by rw [hok, decide_eq_false (show ¬ (-1 : Int) < d by omega)]; rfl))
          clear h1 hok hp hlm
          go_wp2_with fail
          go_quiet (fail)
          go_wp2_with fail
          go_ret
          exact ⟨by rw [HE.out]; rfl, _, World.drewN_drewN _ _ _⟩
        · have e1 : decide (d < 0) = false := by simpa using h1
          by_cases h2 : most < d
          · have e2 : decide (most < d) = true := by simpa using h2
            have HE := Lib.hid (HB.out (by rw [hok, decide_eq_false (show ¬ d < lim by omega), Bool.and_false]))
            clear h1 h2 hok hp hlm
            go_wp2_with fail
            go_quiet (fail)
            go_wp2_with fail
            go_ret
            exact ⟨by rw [HE.out]; rfl, _, World.drewN_drewN _ _ _⟩
          · have e2 : decide (most < d) = false := by simpa using h2
            have HN := Lib.hid (HO.out (by rw [hok, decide_eq_true (show (-1 : Int) < d by omega), decide_eq_true (show d < lim by omega)]; rfl))
            clear h1 h2 hok hp hlm
            go_wp2_with fail
            go_quiet (fail)
            go_wp2_with fail
            go_roundw
            case rel => exact ⟨1, by omega, by go_num, HN.out, _, rfl⟩
            case measure => simp [intOf]; omega
      · obtain ⟨k, rfl⟩ : ∃ j, k = j + 1 := ⟨k - 1, by omega⟩
        obtain ⟨b', o', d0, hbo, hd0, hc0⟩ := HR.out.int k (by omega)
        cases hbo
        have hp : prv L (k + 1) = d0 := prv_next hd0.out
        rw [hp] at hok
        have hpos : 0 ≤ d0 := by
          have := ok_pos (lim := lim) (L := L) (k := k) fun j hj => HA.out j (by omega)
          rw [getD_at hd0.out] at this
          exact this
        have e3 : IntKind.i64.wrap (((k + 1 : Nat) : Int) - 1) = (k : Int) := by rw [IntKind.wrap_i64]; omega
        have b2 : (0 : Int) < ((k + 1 : Nat) : Int) := by omega
        have b3 : (k : Int) < (L.length : Int) := by omega
        by_cases h1 : d < 0
        · have e1 : decide (d < 0) = true := by simpa using h1
          have HE := Lib.hid (HB.out (by rw [hok, decide_eq_false (show ¬ d0 < d by omega)]; rfl))
          clear h1 hok hp hlm hpos
          go_wp2_with fail
          go_quiet (fail)
          go_wp2_with fail
          go_ret
          exact ⟨by rw [HE.out]; rfl, _, World.drewN_drewN _ _ _⟩
        · have e1 : decide (d < 0) = false := by simpa using h1
          by_cases h2 : most < d
          · have e2 : decide (most < d) = true := by simpa using h2
            have HE := Lib.hid (HB.out (by rw [hok, decide_eq_false (show ¬ d < lim by omega), Bool.and_false]))
            clear h1 h2 hok hp hlm hpos
            go_wp2_with fail
            go_quiet (fail)
            go_wp2_with fail
            go_ret
            exact ⟨by rw [HE.out]; rfl, _, World.drewN_drewN _ _ _⟩
          · have e2 : decide (most < d) = false := by simpa using h2
            by_cases h4 : d ≤ d0
            · have e4 : decide (d ≤ d0) = true := by simpa using h4
              have HE := Lib.hid (HB.out (by rw [hok, decide_eq_false (show ¬ d0 < d by omega)]; rfl))
              clear h1 h2 h4 hok hp hlm hpos
              go_wp2_with fail
              go_quiet (fail)
              go_wp2_with fail
              go_ret
              exact ⟨by rw [HE.out]; rfl, _, World.drewN_drewN _ _ _⟩
            · have e4 : decide (d ≤ d0) = false := by simpa using h4
              have HN := Lib.hid (HO.out (by rw [hok, decide_eq_true (show d0 < d by omega), decide_eq_true (show d < lim by omega)]; rfl))
              clear h1 h2 h4 hok hp hlm hpos
              go_wp2_with fail
              go_quiet (fail)
              go_wp2_with fail
              go_roundw
              case rel => exact ⟨k + 1 + 1, by omega, by go_num, HN.out, _, rfl⟩
              case measure => simp [intOf]; omega
    · have hks : k = L.length := by omega
      subst hks
      have HE := Lib.hid (setL_ok HA.out)
      go_wp2_with fail
      go_ret
      exact ⟨by rw [HE.out]; rfl, _, rfl⟩

/-! ### Chosen pipes -/
def memB (L : List Int) (j : Nat) : Bool := L.any fun d => decide (d = (j : Int))
theorem memB_iff {L : List Int} {j : Nat} : memB L j = true ↔ (j : Int) ∈ L := by
  unfold memB
  rw [List.any_eq_true]
  constructor
  · rintro ⟨d, hd, h⟩
    simp at h
    rwa [← h]
  · intro h
    exact ⟨_, h, by simp⟩
theorem memB_next {L : List Int} {k n : Nat} (h : L[k]? = some (n : Int)) (j : Nat) : memB (L.take (k + 1)) j = (memB (L.take k) j || decide (n = j)) := by
  unfold memB
  rw [List.take_add_one, h, List.any_append]
  have e : decide ((n : Int) = (j : Int)) = decide (n = j) := by rw [decide_eq_decide]; omega
  simp [e]
def gatN (L : List Int) : Nat := bitK (memB L) 32
theorem gat_next {L : List Int} {k n : Nat} (h : L[k]? = some (n : Int)) (hn : n < 31) : bits .or .u32 ((gatN (L.take k) : Nat) : Int) ((2 ^ n : Nat) : Int) = ((gatN (L.take (k + 1)) : Nat) : Int) := by
  have h2 : 2 ^ n < 2 ^ 32 := Nat.pow_lt_pow_right (by omega) (by omega)
  have h3 : 2 ^ n < 4294967296 := h2
  have hg : gatN (L.take k) < 4294967296 := bit32 _
  rw [u32_or_nat _ _ hg h3]
  congr 1
  refine ext32 (show _ < 2 ^ 32 from Nat.or_lt_two_pow hg h3) (bit32 _) fun j hj => ?_
  unfold gatN
  rw [Nat.testBit_or, bitK_test _ _ _ hj, bitK_test _ _ _ hj, memB_next h, Nat.testBit_two_pow]
set_option maxRecDepth 4000 in
theorem gather_any (A : Option Addr) (c : Nat) (L : List Int) (lim : Int) (w : World) (hr : Rd w w.heap.size A (ints L)) (hn : L.length ≤ 9223372036854775807) (hs : setL lim L = true) (hlim : lim ≤ 31) :
    Calls Tryd.prog 80 #[.slice A L.length c] w fun e w' => e = .returned (.int .u32 (gatN L : Nat)) ∧ w = w' := by
  have HR := Lib.hid hr
  have HS := Lib.hid hs
  clear hr hs
  go_enter Tryd.func80, Tryd.ntmps80
  go_wp2
  go_loop [3, 8] (fun v i => ∃ k : Nat, k ≤ L.length ∧ i = .int .i64 k ∧ v = .int .u32 (gatN (L.take k) : Nat)) (fun _ i => L.length - (intOf i).toNat)
  case atStart => exact ⟨0, by omega, rfl, by rw [show gatN (L.take 0) = 0 from bitK_zero fun j _ => rfl]; rfl⟩
  case round =>
    obtain ⟨k, hk, rfl, rfl⟩ := hrel
    by_cases hlt : k < L.length
    · obtain ⟨b, o, d, rfl, hd, hc⟩ := HR.out.int k hlt
      have hdl := set_in HS.out hd.out
      obtain ⟨n, rfl⟩ := Int.eq_ofNat_of_zero_le hdl.1
      have HN := Lib.hid (gat_next hd.out (by omega))
      have HSh := Lib.hid (shl_u32 (k := n) (by omega))
      have hgl : gatN (L.take k) < 4294967296 := bit32 _
      generalize gatN (L.take k) = G at *
      have b0 : (0 : Int) ≤ (n : Int) := by omega
      have b1 : (n : Int) < 32 := by omega
      clear hdl
      go_wp2_with fail
      go_round
      case rel => exact ⟨k + 1, by omega, by go_num, by rw [HSh.out, HN.out]⟩
      case measure => simp [intOf]; omega
    · have hks : k = L.length := by omega
      subst hks
      have hl : gatN (L.take L.length) = gatN L := by rw [List.take_length]
      rw [hl]
      clear hl
      go_wp2_with fail
      go_ret
      exact ⟨rfl, rfl⟩
def covE (l : List Pt) (L : List Int) : Int := if pipesE l = 0 then (if setL l.length L then 0 else 1) else pipesE l
def covV (l : List Pt) (L : List Int) : Bool := decide (covE l L = 0) && decide (covN l (memB L) = 4294967295)
theorem covE_zero {l : List Pt} {L : List Int} (h : covE l L = 0) : pipesE l = 0 ∧ setL l.length L = true := by
  unfold covE at h
  split at h
  · rename_i h1
    refine ⟨h1, ?_⟩
    split at h
    · assumption
    · cases h
  · contradiction
theorem cov_gat (l : List Pt) (L : List Int) (h : l.length ≤ 10) : covN l (gatN L).testBit = covN l (memB L) := covN_congr fun i hi => bitK_test _ _ _ (by omega)
set_option maxHeartbeats 400000 in
theorem Covers_any (A1 A2 : Option Addr) (c1 c2 : Nat) (l : List Pt) (L : List Int) (w : World) (hr1 : Rd w w.heap.size A1 (l.flatMap Pt.cells)) (hr2 : Rd w w.heap.size A2 (ints L)) (hn1 : l.length ≤ 9223372036854775807) (hn2 : L.length ≤ 9223372036854775807) :
    Calls Tryd.prog 43 #[.slice A1 l.length c1, .slice A2 L.length c2] w fun e w' => e = .returned (.tuple #[.bool (covV l L), .int .i64 (covE l L)]) ∧ Below w.heap.size w w' := by
  have R1 := Lib.hid hr1
  have R2 := Lib.hid hr2
  have HV := Lib.hid (fun w h => ValidatePipes_any A1 c1 l w h hn1)
  have HS := Lib.hid (fun w h => isSet_any A2 c2 L l.length w h hn2)
  clear hr1 hr2
  by_cases hE : pipesE l = 0
  · obtain ⟨h10, _⟩ := pipesE_zero hE
    by_cases hs : setL l.length L = true
    · have e1 : covE l L = 0 := by unfold covE; rw [if_pos hE, if_pos hs]
      have e2 : covV l L = decide (covN l (memB L) = 4294967295) := by unfold covV; rw [e1]; simp
      have HG := Lib.hid (fun w h => gather_any A2 c2 L l.length w h hn2 hs (by omega))
      have HC := Lib.hid (fun w h => covered_any A1 c1 l (gatN L) w h hE (bit32 _))
      rw [cov_gat l L h10] at HC
      have e3 : (((covN l (memB L) : Nat) : Int) == 4294967295) = decide (covN l (memB L) = 4294967295) := by
        cases hb : decide (covN l (memB L) = 4294967295)
        · have : ¬ covN l (memB L) = 4294967295 := of_decide_eq_false hb
          exact beq_eq_false_iff_ne.2 (by omega)
        · have : covN l (memB L) = 4294967295 := of_decide_eq_true hb
          exact beq_iff_eq.2 (by omega)
      have hl := covN_lt l (memB L)
      rw [e1, e2]
      rw [hE] at HV
      rw [hs] at HS
      clear hE hs e1 e2
      generalize decide (covN l (memB L) = 4294967295) = B at *
      generalize covN l (memB L) = C at *
      generalize gatN L = G at *
      go_enter Tryd.func43, Tryd.ntmps43
      go_wp2_with fail
      refine (HV.out w R1.out).mono ?_
      rintro e w1 ⟨rfl, hb⟩
      have B1 := Lib.hid hb
      have S1 := Lib.hid ((R1.out.below hb (Nat.le_refl _)).more hb.size)
      have S2 := Lib.hid ((R2.out.below hb (Nat.le_refl _)).more hb.size)
      clear hb
      go_wp2_with fail
      refine (HS.out w1 S2.out).mono ?_
      rintro e w' ⟨rfl, rfl⟩
      go_wp2_with fail
      refine (HG.out w1 S2.out).mono ?_
      rintro e w' ⟨rfl, rfl⟩
      go_wp2_with fail
      refine (HC.out w1 S1.out).mono ?_
      rintro e w2 ⟨rfl, hb⟩
      have B2 := Lib.hid (B1.out.trans (hb.mono B1.out.size))
      clear hb
      go_wp2_with fail
      go_ret2
      exact ⟨rfl, B2.out⟩
    · have e1 : covE l L = 1 := by unfold covE; rw [if_pos hE, if_neg hs]
      have e2 : covV l L = false := by unfold covV; rw [e1]; rfl
      rw [Bool.not_eq_true] at hs
      rw [e1, e2]
      rw [hE] at HV
      rw [hs] at HS
      clear hE hs e1 e2
      go_enter Tryd.func43, Tryd.ntmps43
      go_wp2_with fail
      refine (HV.out w R1.out).mono ?_
      rintro e w1 ⟨rfl, hb⟩
      have B1 := Lib.hid hb
      have S2 := Lib.hid ((R2.out.below hb (Nat.le_refl _)).more hb.size)
      clear hb
      go_wp2_with fail
      refine (HS.out w1 S2.out).mono ?_
      rintro e w' ⟨rfl, rfl⟩
      go_wp2_with fail
      go_ret2
      exact ⟨rfl, B1.out⟩
  · have e1 : covE l L = pipesE l := if_neg hE
    have e2 : covV l L = false := by unfold covV; rw [e1, decide_eq_false hE]; rfl
    rw [e1, e2]
    generalize pipesE l = E at *
    have hb1 : (E == 0) = false := by simpa using hE
    have hb2 : (E != 0) = true := by simpa using hE
    clear hE e1 e2
    go_enter Tryd.func43, Tryd.ntmps43
    go_wp2_with fail
    refine (HV.out w R1.out).mono ?_
    rintro e w1 ⟨rfl, hb⟩
    have B1 := Lib.hid hb
    clear hb
    go_wp2_with fail
    go_ret2
    exact ⟨rfl, B1.out⟩

/-! ### The document's side -/
def chK (l : List Pt) (L : List Int) (p k : Nat) : Bool := (L.take k).any fun d => workB l p d.toNat
theorem chK_next {l : List Pt} {L : List Int} {p k : Nat} {d : Int} (h : L[k]? = some d) : chK l L p (k + 1) = (chK l L p k || workB l p d.toNat) := by
  unfold chK
  rw [List.take_add_one, h, List.any_append]
  simp
theorem chK_all {l : List Pt} {L : List Int} (hs : setL l.length L = true) (p : Nat) : chK l L p L.length = covB l (memB L) p := by
  unfold chK covB covK
  rw [List.take_length, Bool.eq_iff_iff, List.any_eq_true, List.any_eq_true]
  constructor
  · rintro ⟨d, hd, h⟩
    have h1 := set_mem hs hd
    refine ⟨d.toNat, List.mem_range.2 (by omega), ?_⟩
    rw [h, Bool.and_true, memB_iff]
    rwa [show ((d.toNat : Nat) : Int) = d by omega]
  · rintro ⟨i, hi, h⟩
    rw [Bool.and_eq_true, memB_iff] at h
    exact ⟨(i : Int), h.1, by rw [Int.toNat_natCast]; exact h.2⟩
theorem cov_full {l : List Pt} {f : Nat → Bool} (h : ∀ p, p < 32 → covB l f p = true) : covN l f = 4294967295 := by
  rw [← all32]
  exact bitK_congr fun p hp => h p hp
theorem cov_lack {l : List Pt} {f : Nat → Bool} {p : Nat} (hp : p < 32) (h : covB l f p = false) : ¬ covN l f = 4294967295 := by
  intro e
  have := bitK_full e hp
  rw [h] at this
  cases this
set_option maxRecDepth 4000 in
set_option maxHeartbeats 800000 in
theorem rcovers_any (A1 A2 : Option Addr) (c1 c2 : Nat) (l : List Pt) (L : List Int) (w : World) (hr1 : Rd w w.heap.size A1 (l.flatMap Pt.cells)) (hr2 : Rd w w.heap.size A2 (ints L)) (hn : pipesE l = 0) (hs : setL l.length L = true) (hn2 : L.length ≤ 9223372036854775807) :
    Calls Tryd.prog 82 #[.slice A1 l.length c1, .slice A2 L.length c2] w fun e w' => e = .returned (.bool (decide (covN l (memB L) = 4294967295))) ∧ Below w.heap.size w w' := by
  have R1 := Lib.hid hr1
  have R2 := Lib.hid hr2
  obtain ⟨h10, hok⟩ := pipesE_zero hn
  have HO := Lib.hid hok
  have HS := Lib.hid hs
  have HAll := Lib.hid (fun p => chK_all hs p)
  have HF := Lib.hid (fun h => cov_full (l := l) (f := memB L) h)
  have HLk := Lib.hid (fun p (hp : p < 32) h => cov_lack (l := l) (f := memB L) hp h)
  clear hr1 hr2 hok hn hs
  go_enter Tryd.func82, Tryd.ntmps82
  go_wp2_with fail
  go_loopw [5] (fun i wr => ∃ p : Nat, p ≤ 32 ∧ i = .int .i64 p ∧ (∀ j, j < p → covB l (memB L) j = true) ∧ Below w.heap.size w wr) (fun i _ => 32 - (intOf i).toNat)
  case atStart => exact ⟨0, by omega, rfl, fun j hj => by omega, Below.refl _ _⟩
  case round =>
    obtain ⟨p, hp, rfl, hall, hb⟩ := hrel
    have HA := Lib.hid hall
    have BW := Lib.hid hb
    clear hall hb
    obtain ⟨wo, rfl⟩ : ∃ wo : World, wo = wr := ⟨_, rfl⟩
    by_cases hlt : p < 32
    · have HH := Lib.hid (fun (a : Pt) w (h : okA a = true) => rhas_int a p w h hlt)
      have ep : decide ((p : Int) < 32) = true := by simp; omega
      go_wp2_with fail
      clear ep
      go_loopw [6, 7] (fun v i wr => ∃ k : Nat, k ≤ L.length ∧ i = .int .i64 k ∧ v = .bool (chK l L p k) ∧ Below w.heap.size w wr) (fun _ i _ => L.length - (intOf i).toNat)
      case atStart => exact ⟨0, by omega, rfl, rfl, BW.out⟩
      case round =>
        obtain ⟨k, hk, rfl, rfl, hb⟩ := hrel
        have BV := Lib.hid hb
        clear hb
        by_cases hlt2 : k < L.length
        · obtain ⟨b, o, d, rfl, hd, hc⟩ := (R2.out.below BV.out (Nat.le_refl _)).int k hlt2
          have hdl := set_in HS.out hd.out
          obtain ⟨n, rfl⟩ := Int.eq_ofNat_of_zero_le hdl.1
          have hnl : n < l.length := by omega
          have HN := Lib.hid (chK_next (l := l) (p := p) hd.out)
          rw [Int.toNat_natCast] at HN
          obtain ⟨b', o', a, rfl, ha, d0, d1⟩ := (R1.out.below BV.out (Nat.le_refl _)).pt n hnl
          have hw := workB_at (p := p) ha.out
          have HQ := Lib.hid (fun w => HH.out a w (HO.out a (List.mem_of_getElem? ha.out)))
          have b0 : (0 : Int) ≤ (n : Int) := by omega
          have b1 : (n : Int) < (l.length : Int) := by omega
          rw [hw] at HN
          clear hw hdl
          cases hq : chK l L p k
          · rw [hq] at HN
            generalize hasN a p = B at *
            obtain ⟨x, y⟩ := a
            unfold Pt.v at HQ
            simp only at d0 d1 HQ
            clear hq
            go_wp2_with fail
            refine (HQ.out wr).mono ?_
            rintro e w2 ⟨rfl, hb⟩
            have B2 := Lib.hid (BV.out.trans (hb.mono BV.out.size))
            clear hb
            go_wp2_with fail
            go_roundw
            case rel => exact ⟨k + 1, by omega, by go_num, by rw [HN.out]; rfl, B2.out⟩
            case measure => simp [intOf]; omega
          · rw [hq] at HN
            clear hq
            go_wp2_with fail
            go_roundw
            case rel => exact ⟨k + 1, by omega, by go_num, by rw [HN.out]; rfl, BV.out⟩
            case measure => simp [intOf]; omega
        · have hks : k = L.length := by omega
          subst hks
          have hcv := HAll.out p
          rw [hcv]
          cases hq : covB l (memB L) p
          · have HE := Lib.hid (HLk.out p hlt hq)
            clear hcv hq
            go_wp2_with fail
            go_ret
            exact ⟨by rw [decide_eq_false HE.out]; rfl, BV.out⟩
          · have HN := Lib.hid (show ∀ j, j < p + 1 → covB l (memB L) j = true from fun j hj => by
              rcases Nat.lt_or_ge j p with h | h
              · exact HA.out j h
              · obtain rfl : j = p := by omega
                exact hq)
            clear hcv hq
            go_wp2_with fail
            go_roundw
            case rel => exact ⟨p + 1, by omega, by go_num, HN.out, BV.out⟩
            case measure => simp [intOf]; omega
    · obtain rfl : p = 32 := by omega
      have HE := Lib.hid (HF.out HA.out)
      go_wp2_with fail
      go_ret
      exact ⟨by rw [decide_eq_true HE.out]; rfl, BW.out⟩
set_option maxHeartbeats 400000 in
theorem rCovers_any (A1 A2 : Option Addr) (c1 c2 : Nat) (l : List Pt) (L : List Int) (w : World) (hr1 : Rd w w.heap.size A1 (l.flatMap Pt.cells)) (hr2 : Rd w w.heap.size A2 (ints L)) (hn1 : l.length ≤ 9223372036854775807) (hn2 : L.length ≤ 9223372036854775807) :
    Calls Tryd.prog 44 #[.slice A1 l.length c1, .slice A2 L.length c2] w fun e w' => e = .returned (.tuple #[.bool (covV l L), .int .i64 (covE l L)]) ∧ Below w.heap.size w w' := by
  have R1 := Lib.hid hr1
  have R2 := Lib.hid hr2
  have HV := Lib.hid (fun w h => rValidatePipes_any A1 c1 l w h hn1)
  have HS := Lib.hid (fun w h => risList_any A2 c2 L l.length ((l.length : Int) - 1) w h hn2 (by omega))
  clear hr1 hr2
  by_cases hE : pipesE l = 0
  · obtain ⟨h10, _⟩ := pipesE_zero hE
    by_cases hs : setL l.length L = true
    · have e1 : covE l L = 0 := by unfold covE; rw [if_pos hE, if_pos hs]
      have e2 : covV l L = decide (covN l (memB L) = 4294967295) := by unfold covV; rw [e1]; simp
      have HC := Lib.hid (fun w h g => rcovers_any A1 A2 c1 c2 l L w h g hE hs hn2)
      rw [e1, e2]
      rw [hE] at HV
      rw [hs] at HS
      clear hE hs e1 e2
      generalize decide (covN l (memB L) = 4294967295) = B at *
      go_enter Tryd.func44, Tryd.ntmps44
      go_wp2_with fail
      refine (HV.out w R1.out).mono ?_
      rintro e w1 ⟨rfl, hb⟩
      have B1 := Lib.hid hb
      have S1 := Lib.hid ((R1.out.below hb (Nat.le_refl _)).more hb.size)
      have S2 := Lib.hid ((R2.out.below hb (Nat.le_refl _)).more hb.size)
      clear hb
      go_wp2_with fail
      refine (HS.out w1 S2.out).mono ?_
      rintro e w' ⟨rfl, m, rfl⟩
      go_wp2_with fail
      refine (HC.out (w1.drewN m) S1.out S2.out).mono ?_
      rintro e w2 ⟨rfl, hb⟩
      have B2 := Lib.hid hb
      go_wp2_with fail
      go_ret2
      exact ⟨rfl, B1.out.trans ((below_drewN (Below.refl _ _) m).trans hb |>.mono B1.out.size)⟩
    · have e1 : covE l L = 1 := by unfold covE; rw [if_pos hE, if_neg hs]
      have e2 : covV l L = false := by unfold covV; rw [e1]; rfl
      rw [Bool.not_eq_true] at hs
      rw [e1, e2]
      rw [hE] at HV
      rw [hs] at HS
      clear hE hs e1 e2
      go_enter Tryd.func44, Tryd.ntmps44
      go_wp2_with fail
      refine (HV.out w R1.out).mono ?_
      rintro e w1 ⟨rfl, hb⟩
      have B1 := Lib.hid hb
      have S2 := Lib.hid ((R2.out.below hb (Nat.le_refl _)).more hb.size)
      clear hb
      go_wp2_with fail
      refine (HS.out w1 S2.out).mono ?_
      rintro e w' ⟨rfl, m, rfl⟩
      go_wp2_with fail
      go_ret2
      exact ⟨rfl, below_drewN B1.out m⟩
  · have e1 : covE l L = pipesE l := if_neg hE
    have e2 : covV l L = false := by unfold covV; rw [e1, decide_eq_false hE]; rfl
    rw [e1, e2]
    generalize pipesE l = E at *
    have hb1 : (E == 0) = false := by simpa using hE
    have hb2 : (E != 0) = true := by simpa using hE
    clear hE e1 e2
    go_enter Tryd.func44, Tryd.ntmps44
    go_wp2_with fail
    refine (HV.out w R1.out).mono ?_
    rintro e w1 ⟨rfl, hb⟩
    have B1 := Lib.hid hb
    clear hb
    go_wp2_with fail
    go_ret2
    exact ⟨rfl, B1.out⟩
end Go.Proofs.YtnnlbllkckakbaaDoor
