/-
  Lists that are sets, chosen pipes: the walks of isSet, gather, Covers of package wind, of isList, covers, Covers of the reference. No condition.
-/
import Derived.Test.YtfokmgogbjifbaaWi11
namespace Go.Proofs.Ytfokmgogbjifbaa
open Go.RowKit
set_option linter.unusedVariables false

def prv (L : List Int) (k : Nat) : Int := if k = 0 then -1 else L.getD (k - 1) 0
def okI (lim : Int) (L : List Int) (k : Nat) : Bool := decide (prv L k < L.getD k 0) && decide (L.getD k 0 < lim)
def setL (lim : Int) (L : List Int) : Bool := (List.range L.length).all (okI lim L)
theorem setL_bad {lim : Int} {L : List Int} {k : Nat} (hk : k < L.length) (h : okI lim L k = false) : setL lim L = false := by
  unfold setL
  rw [List.all_eq_false]
  exact ⟨k, List.mem_range.2 hk, by simp [h]⟩
theorem setL_ok {lim : Int} {L : List Int} (h : ∀ k, k < L.length → okI lim L k = true) : setL lim L = true := by
  unfold setL
  rw [List.all_eq_true]
  exact fun k hk => h k (List.mem_range.1 hk)
theorem setL_at {lim : Int} {L : List Int} (h : setL lim L = true) {k : Nat} (hk : k < L.length) : okI lim L k = true := by
  unfold setL at h
  exact List.all_eq_true.1 h k (List.mem_range.2 hk)
theorem getD_at {L : List Int} {k : Nat} {d : Int} (h : L[k]? = some d) : L.getD k 0 = d := by rw [List.getD_eq_getElem?_getD, h]; rfl
theorem ok_pos {lim : Int} {L : List Int} {k : Nat} (h : ∀ j, j ≤ k → okI lim L j = true) : 0 ≤ L.getD k 0 := by
  induction k with
  | zero =>
    have := h 0 (Nat.le_refl _)
    unfold okI prv at this
    simp at this ⊢
    omega
  | succ k ih =>
    have h1 := h (k + 1) (Nat.le_refl _)
    have h2 := ih fun j hj => h j (by omega)
    unfold okI prv at h1
    simp at h1 h2 ⊢
    omega
theorem set_in {lim : Int} {L : List Int} (h : setL lim L = true) {k : Nat} {d : Int} (hd : L[k]? = some d) : 0 ≤ d ∧ d < lim := by
  have hk := (List.getElem?_eq_some_iff.1 hd).1
  have h1 := ok_pos (lim := lim) (L := L) (k := k) fun j hj => setL_at h (by omega)
  have h2 := setL_at h hk
  unfold okI at h2
  rw [getD_at hd] at h1 h2
  rw [Bool.and_eq_true, decide_eq_true_eq, decide_eq_true_eq] at h2
  exact ⟨h1, h2.2⟩
theorem set_mem {lim : Int} {L : List Int} (h : setL lim L = true) {d : Int} (hd : d ∈ L) : 0 ≤ d ∧ d < lim := by
  obtain ⟨k, hk, he⟩ := List.getElem_of_mem hd
  exact set_in h (k := k) (by rw [← he]; exact List.getElem?_eq_getElem hk)
theorem prv_next {L : List Int} {k : Nat} {d : Int} (h : L[k]? = some d) : prv L (k + 1) = d := by
  unfold prv
  rw [if_neg (by omega), Nat.add_sub_cancel, getD_at h]
set_option maxRecDepth 4000 in
theorem isSet_any (A : Option Addr) (c : Nat) (L : List Int) (lim : Int) (w : World) (hr : Rd w w.heap.size A (ints L)) (hn : L.length ≤ 9223372036854775807) :
    Calls Try.prog 23 #[.slice A L.length c, .int .i64 lim] w fun e w' => e = .returned (.bool (setL lim L)) ∧ w = w' := by
  have HR := Lib.hid hr
  clear hr
  go_enter Try.func23, Try.ntmps23
  go_wp2
  go_loop [5, 10] (fun v i => ∃ k : Nat, k ≤ L.length ∧ i = .int .i64 k ∧ v = .int .i64 (prv L k) ∧ ∀ j, j < k → okI lim L j = true) (fun _ i => L.length - (intOf i).toNat)
  case atStart => exact ⟨0, by omega, rfl, rfl, fun j hj => by omega⟩
  case round =>
    obtain ⟨k, hk, rfl, rfl, hall⟩ := hrel
    have HA := Lib.hid hall
    clear hall
    by_cases hlt : k < L.length
    · obtain ⟨b, o, d, rfl, hd, hc⟩ := HR.out.int k hlt
      have HP := Lib.hid (prv_next hd.out)
      have hok : okI lim L k = (decide (prv L k < d) && decide (d < lim)) := by unfold okI; rw [getD_at hd.out]
      have HB := Lib.hid (fun h => setL_bad (lim := lim) hlt h)
      have HO := Lib.hid (show okI lim L k = true → ∀ j, j < k + 1 → okI lim L j = true from fun h j hj => by
        rcases Nat.lt_or_ge j k with h1 | h1
        · exact HA.out j h1
        · obtain rfl : j = k := by omega
          exact h)
      generalize prv L k = P at *
      by_cases h1 : P < d
      · have e1 : decide (d ≤ P) = false := by simp; omega
        by_cases h2 : d < lim
        · have e2 : decide (lim ≤ d) = false := by simp; omega
          have HN := Lib.hid (HO.out (by rw [hok, decide_eq_true h1, decide_eq_true h2]; rfl))
          clear h1 h2 hok
          go_wp2_with fail
          go_round
          case rel => exact ⟨k + 1, by omega, by go_num, by rw [HP.out], HN.out⟩
          case measure => simp [intOf]; omega
        · have e2 : decide (lim ≤ d) = true := by simp; omega
          have HE := Lib.hid (HB.out (by rw [hok, decide_eq_true h1, decide_eq_false h2]; rfl))
          clear h1 h2 hok
          go_wp2_with fail
          go_ret
          exact ⟨by rw [HE.out]; rfl, rfl⟩
      · have e1 : decide (d ≤ P) = true := by simp; omega
        have HE := Lib.hid (HB.out (by rw [hok, decide_eq_false h1]; rfl))
        clear h1 hok
        go_wp2_with fail
        go_ret
        exact ⟨by rw [HE.out]; rfl, rfl⟩
    · have hks : k = L.length := by omega
      subst hks
      have HE := Lib.hid (setL_ok HA.out)
      go_wp2_with fail
      go_ret
      exact ⟨by rw [HE.out]; rfl, rfl⟩
/-! ### Chosen pipes -/
def memB (L : List Int) (j : Nat) : Bool := L.any fun d => decide (d = (j : Int))
theorem memB_iff {L : List Int} {j : Nat} : memB L j = true ↔ (j : Int) ∈ L := by
  unfold memB
  rw [List.any_eq_true]
  constructor
  · rintro ⟨d, hd, h⟩
    simp at h
    rwa [← h]
  · intro h
    exact ⟨_, h, by simp⟩
theorem memB_next {L : List Int} {k n : Nat} (h : L[k]? = some (n : Int)) (j : Nat) : memB (L.take (k + 1)) j = (memB (L.take k) j || decide (n = j)) := by
  unfold memB
  rw [List.take_add_one, h, List.any_append]
  have e : decide ((n : Int) = (j : Int)) = decide (n = j) := by rw [decide_eq_decide]; omega
  simp [e]
def gatN (L : List Int) : Nat := bitK (memB L) 32
theorem gat_next {L : List Int} {k n : Nat} (h : L[k]? = some (n : Int)) (hn : n < 31) : bits .or .u32 ((gatN (L.take k) : Nat) : Int) ((2 ^ n : Nat) : Int) = ((gatN (L.take (k + 1)) : Nat) : Int) := by
  have h2 : 2 ^ n < 2 ^ 32 := Nat.pow_lt_pow_right (by omega) (by omega)
  have h3 : 2 ^ n < 4294967296 := h2
  have hg : gatN (L.take k) < 4294967296 := bit32 _
  rw [u32_or_nat _ _ hg h3]
  congr 1
  refine ext32 (show _ < 2 ^ 32 from Nat.or_lt_two_pow hg h3) (bit32 _) fun j hj => ?_
  unfold gatN
  rw [Nat.testBit_or, bitK_test _ _ _ hj, bitK_test _ _ _ hj, memB_next h, Nat.testBit_two_pow]
set_option maxRecDepth 4000 in
theorem gather_any (A : Option Addr) (c : Nat) (L : List Int) (lim : Int) (w : World) (hr : Rd w w.heap.size A (ints L)) (hn : L.length ≤ 9223372036854775807) (hs : setL lim L = true) (hlim : lim ≤ 31) :
    Calls Try.prog 24 #[.slice A L.length c] w fun e w' => e = .returned (.int .u32 (gatN L : Nat)) ∧ w = w' := by
  have HR := Lib.hid hr
  have HS := Lib.hid hs
  clear hr hs
  go_enter Try.func24, Try.ntmps24
  go_wp2
  go_loop [3, 8] (fun v i => ∃ k : Nat, k ≤ L.length ∧ i = .int .i64 k ∧ v = .int .u32 (gatN (L.take k) : Nat)) (fun _ i => L.length - (intOf i).toNat)
  case atStart => exact ⟨0, by omega, rfl, by rw [show gatN (L.take 0) = 0 from bitK_zero fun j _ => rfl]; rfl⟩
  case round =>
    obtain ⟨k, hk, rfl, rfl⟩ := hrel
    by_cases hlt : k < L.length
    · obtain ⟨b, o, d, rfl, hd, hc⟩ := HR.out.int k hlt
      have hdl := set_in HS.out hd.out
      obtain ⟨n, rfl⟩ := Int.eq_ofNat_of_zero_le hdl.1
      have HN := Lib.hid (gat_next hd.out (by omega))
      have HSh := Lib.hid (shl_u32 (k := n) (by omega))
      have hgl : gatN (L.take k) < 4294967296 := bit32 _
      generalize gatN (L.take k) = G at *
      have b0 : (0 : Int) ≤ (n : Int) := by omega
      have b1 : (n : Int) < 32 := by omega
      clear hdl
      go_wp2_with fail
      go_round
      case rel => exact ⟨k + 1, by omega, by go_num, by rw [HSh.out, HN.out]⟩
      case measure => simp [intOf]; omega
    · have hks : k = L.length := by omega
      subst hks
      have hl : gatN (L.take L.length) = gatN L := by rw [List.take_length]
      rw [hl]
      clear hl
      go_wp2_with fail
      go_ret
      exact ⟨rfl, rfl⟩
def covE (l : List Pt) (L : List Int) : Int := if pipesE l = 0 then (if setL l.length L then 0 else 1) else pipesE l
def covV (l : List Pt) (L : List Int) : Bool := decide (covE l L = 0) && decide (covN l (memB L) = 4294967295)
theorem covE_zero {l : List Pt} {L : List Int} (h : covE l L = 0) : pipesE l = 0 ∧ setL l.length L = true := by
  unfold covE at h
  split at h
  · rename_i h1
    refine ⟨h1, ?_⟩
    split at h
    · assumption
    · cases h
  · contradiction
theorem cov_gat (l : List Pt) (L : List Int) (h : l.length ≤ 10) : covN l (gatN L).testBit = covN l (memB L) := covN_congr fun i hi => bitK_test _ _ _ (by omega)
set_option maxHeartbeats 400000 in
theorem Covers_any (A1 A2 : Option Addr) (c1 c2 : Nat) (l : List Pt) (L : List Int) (w : World) (hr1 : Rd w w.heap.size A1 (l.flatMap Pt.cells)) (hr2 : Rd w w.heap.size A2 (ints L)) (hn1 : l.length ≤ 9223372036854775807) (hn2 : L.length ≤ 9223372036854775807) :
    Calls Try.prog 10 #[.slice A1 l.length c1, .slice A2 L.length c2] w fun e w' => e = .returned (.tuple #[.bool (covV l L), .int .i64 (covE l L)]) ∧ Below w.heap.size w w' := by
  have R1 := Lib.hid hr1
  have R2 := Lib.hid hr2
  have HV := Lib.hid (fun w h => ValidatePipes_any A1 c1 l w h hn1)
  have HS := Lib.hid (fun w h => isSet_any A2 c2 L l.length w h hn2)
  clear hr1 hr2
  by_cases hE : pipesE l = 0
  · obtain ⟨h10, _⟩ := pipesE_zero hE
    by_cases hs : setL l.length L = true
    · have e1 : covE l L = 0 := by unfold covE; rw [if_pos hE, if_pos hs]
      have e2 : covV l L = decide (covN l (memB L) = 4294967295) := by unfold covV; rw [e1]; simp
      have HG := Lib.hid (fun w h => gather_any A2 c2 L l.length w h hn2 hs (by omega))
      have HC := Lib.hid (fun w h => covered_any A1 c1 l (gatN L) w h hE (bit32 _))
      rw [cov_gat l L h10] at HC
      have e3 : (((covN l (memB L) : Nat) : Int) == 4294967295) = decide (covN l (memB L) = 4294967295) := by
        cases hb : decide (covN l (memB L) = 4294967295)
        · have : ¬ covN l (memB L) = 4294967295 := of_decide_eq_false hb
          exact beq_eq_false_iff_ne.2 (by omega)
        · have : covN l (memB L) = 4294967295 := of_decide_eq_true hb
          exact beq_iff_eq.2 (by omega)
      have hl := covN_lt l (memB L)
      rw [e1, e2]
      rw [hE] at HV
      rw [hs] at HS
      clear hE hs e1 e2
      generalize decide (covN l (memB L) = 4294967295) = B at *
      generalize covN l (memB L) = C at *
      generalize gatN L = G at *
      go_enter Try.func10, Try.ntmps10
      go_wp2_with fail
      refine (HV.out w R1.out).mono ?_
      rintro e w1 ⟨rfl, hb⟩
      have B1 := Lib.hid hb
      have S1 := Lib.hid ((R1.out.below hb (Nat.le_refl _)).more hb.size)
      have S2 := Lib.hid ((R2.out.below hb (Nat.le_refl _)).more hb.size)
      clear hb
      go_wp2_with fail
      refine (HS.out w1 S2.out).mono ?_
      rintro e w' ⟨rfl, rfl⟩
      go_wp2_with fail
      refine (HG.out w1 S2.out).mono ?_
      rintro e w' ⟨rfl, rfl⟩
      go_wp2_with fail
      refine (HC.out w1 S1.out).mono ?_
      rintro e w2 ⟨rfl, hb⟩
      have B2 := Lib.hid (B1.out.trans (hb.mono B1.out.size))
      clear hb
      go_wp2_with fail
      go_ret2
      exact ⟨rfl, B2.out⟩
    · have e1 : covE l L = 1 := by unfold covE; rw [if_pos hE, if_neg hs]
      have e2 : covV l L = false := by unfold covV; rw [e1]; rfl
      rw [Bool.not_eq_true] at hs
      rw [e1, e2]
      rw [hE] at HV
      rw [hs] at HS
      clear hE hs e1 e2
      go_enter Try.func10, Try.ntmps10
      go_wp2_with fail
      refine (HV.out w R1.out).mono ?_
      rintro e w1 ⟨rfl, hb⟩
      have B1 := Lib.hid hb
      have S2 := Lib.hid ((R2.out.below hb (Nat.le_refl _)).more hb.size)
      clear hb
      go_wp2_with fail
      refine (HS.out w1 S2.out).mono ?_
      rintro e w' ⟨rfl, rfl⟩
      go_wp2_with fail
      go_ret2
      exact ⟨rfl, B1.out⟩
  · have e1 : covE l L = pipesE l := if_neg hE
    have e2 : covV l L = false := by unfold covV; rw [e1, decide_eq_false hE]; rfl
    rw [e1, e2]
    generalize pipesE l = E at *
    have hb1 : (E == 0) = false := by simpa using hE
    have hb2 : (E != 0) = true := by simpa using hE
    clear hE e1 e2
    go_enter Try.func10, Try.ntmps10
    go_wp2_with fail
    refine (HV.out w R1.out).mono ?_
    rintro e w1 ⟨rfl, hb⟩
    have B1 := Lib.hid hb
    clear hb
    go_wp2_with fail
    go_ret2
    exact ⟨rfl, B1.out⟩

/-! ### The document's side -/
def chK (l : List Pt) (L : List Int) (p k : Nat) : Bool := (L.take k).any fun d => workB l p d.toNat
theorem chK_next {l : List Pt} {L : List Int} {p k : Nat} {d : Int} (h : L[k]? = some d) : chK l L p (k + 1) = (chK l L p k || workB l p d.toNat) := by
  unfold chK
  rw [List.take_add_one, h, List.any_append]
  simp
theorem chK_all {l : List Pt} {L : List Int} (hs : setL l.length L = true) (p : Nat) : chK l L p L.length = covB l (memB L) p := by
  unfold chK covB covK
  rw [List.take_length, Bool.eq_iff_iff, List.any_eq_true, List.any_eq_true]
  constructor
  · rintro ⟨d, hd, h⟩
    have h1 := set_mem hs hd
    refine ⟨d.toNat, List.mem_range.2 (by omega), ?_⟩
    rw [h, Bool.and_true, memB_iff]
    rwa [show ((d.toNat : Nat) : Int) = d by omega]
  · rintro ⟨i, hi, h⟩
    rw [Bool.and_eq_true, memB_iff] at h
    exact ⟨(i : Int), h.1, by rw [Int.toNat_natCast]; exact h.2⟩
theorem cov_full {l : List Pt} {f : Nat → Bool} (h : ∀ p, p < 32 → covB l f p = true) : covN l f = 4294967295 := by
  rw [← all32]
  exact bitK_congr fun p hp => h p hp
theorem cov_lack {l : List Pt} {f : Nat → Bool} {p : Nat} (hp : p < 32) (h : covB l f p = false) : ¬ covN l f = 4294967295 := by
  intro e
  have := bitK_full e hp
  rw [h] at this
  cases this
end Go.Proofs.Ytfokmgogbjifbaa
