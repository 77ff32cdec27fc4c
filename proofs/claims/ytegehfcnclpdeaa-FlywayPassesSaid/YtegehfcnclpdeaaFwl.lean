/-
  Where a place leads: the walk of chain.leads. Condition: the chain can be read; rows as long as there are rows, at most 100.
-/
import Derived.Test.YtegehfcnclpdeaaFwt
namespace Go.Proofs.Ytegehfcnclpdeaa
open Go.RowKit
set_option linter.unusedVariables false

def wkB (L : List (List Int)) (n : Nat) : Nat → Nat → Nat → Bool
  | 0, i, j => decide (i = j)
  | k + 1, i, j => (List.range n).any fun m => wkB L n k i m && decide (j < n) && decide (0 < wt L m j)
theorem wkB_iff {L : List (List Int)} {n : Nat} : ∀ {k i j : Nat}, wkB L n k i j = true ↔ wk L n k i j
  | 0, i, j => by unfold wkB wk; exact decide_eq_true_iff
  | k + 1, i, j => by
    unfold wkB wk
    rw [List.any_eq_true]
    constructor
    · rintro ⟨m, hm, h⟩
      rw [Bool.and_eq_true, Bool.and_eq_true, decide_eq_true_iff, decide_eq_true_iff] at h
      exact ⟨m, wkB_iff.1 h.1.1, List.mem_range.1 hm, h.1.2, h.2⟩
    · rintro ⟨m, h1, h2, h3, h4⟩
      refine ⟨m, List.mem_range.2 h2, ?_⟩
      rw [Bool.and_eq_true, Bool.and_eq_true, decide_eq_true_iff, decide_eq_true_iff]
      exact ⟨⟨wkB_iff.2 h1, h3⟩, h4⟩
/-- Does i lead to j? -/
def ldB (L : List (List Int)) (n i j : Nat) : Bool := (List.range n).any fun k => wkB L n k i j
def ldL (L : List (List Int)) (n i : Nat) : List Nat := (List.range n).filter fun j => ldB L n i j
theorem stP_ld {L : List (List Int)} {n i : Nat} {F : Nat → Int} (h : StP L n i F) {j : Nat} (hj : j < n) : ldB L n i j = decide (F j ≠ -1) := by
  rcases h j hj with ⟨h1, h2⟩ | ⟨k, h1, h2, h3⟩
  · rw [h1]
    cases hc : ldB L n i j
    · rfl
    · obtain ⟨k, _, hk⟩ := List.any_eq_true.1 hc
      exact absurd (wkB_iff.1 hk) (h2 k)
  · have e : F j ≠ -1 := by omega
    rw [decide_eq_true e]
    exact List.any_eq_true.2 ⟨k, List.mem_range.2 h1, wkB_iff.2 h3⟩
theorem ld_iff {L : List (List Int)} {n i : Nat} {F : Nat → Int} (h : StP L n i F) {j : Nat} (hj : j < n) : ldB L n i j = true ↔ ∃ k, wk L n k i j := by
  constructor
  · intro hc
    obtain ⟨k, _, hk⟩ := List.any_eq_true.1 hc
    exact ⟨k, wkB_iff.1 hk⟩
  · rintro ⟨k, hk⟩
    rcases h j hj with ⟨_, h2⟩ | ⟨k', h1, _, h3⟩
    · exact absurd hk (h2 k)
    · exact List.any_eq_true.2 ⟨k', List.mem_range.2 h1, wkB_iff.2 h3⟩
def ldU (F : Nat → Int) (k : Nat) : List Nat := (List.range k).filter fun j => decide (F j ≠ -1)
theorem ldU_next (F : Nat → Int) (k : Nat) : ldU F (k + 1) = if F k = -1 then ldU F k else ldU F k ++ [k] := by
  unfold ldU
  rw [List.range_succ, List.filter_append]
  by_cases h : F k = -1
  · rw [if_pos h]
    simp [h]
  · rw [if_neg h]
    simp [h]
theorem ldU_len (F : Nat → Int) (k : Nat) : (ldU F k).length ≤ k := by
  have := List.length_filter_le (fun j => decide (F j ≠ -1)) (List.range k)
  rwa [List.length_range] at this
theorem ldU_all {L : List (List Int)} {n i : Nat} {F : Nat → Int} (h : StP L n i F) : ldU F n = ldL L n i := by
  unfold ldU ldL
  exact List.filter_congr fun j hj => (stP_ld h (List.mem_range.1 hj)).symm
theorem ldL_len (L : List (List Int)) (n i : Nat) : (ldL L n i).length ≤ n := by
  have := List.length_filter_le (fun j => ldB L n i j) (List.range n)
  rwa [List.length_range] at this
def nats (q : List Nat) : List Int := q.map fun j : Nat => (j : Int)
theorem nats_len (q : List Nat) : (nats q).length = q.length := by simp [nats]
def LdPost (q : List Nat) (w : World) (e : Ending) (w' : World) : Prop := ∃ A' c', e = .returned (.slice A' q.length c') ∧ Rd w' w'.heap.size A' (ints (nats q)) ∧ Below w.heap.size w w'
set_option maxRecDepth 8000 in
set_option maxHeartbeats 2000000 in
theorem leads_any (A : Option Addr) (rs : List Rw) (c i : Nat) (h100 : rs.length ≤ 100) (hlen : ∀ r ∈ rs, r.l.length = rs.length) (hi : i < rs.length) (w : World) (hr : RdR w w.heap.size A rs) :
    Calls Try.prog 64 #[.slice A rs.length c, .int .i64 i] w fun e w' => LdPost (ldL (rowsL rs) rs.length i) w e w' := by
  have HS := Lib.hid (steps_any A rs c i h100 hlen hi w hr)
  unfold StPost at HS
  obtain ⟨n, hn⟩ : ∃ n, rs.length = n := ⟨_, rfl⟩
  rw [hn] at HS h100 ⊢
  generalize rowsL rs = L at *
  clear hr hlen hi hn
  go_enter Try.func64, Try.ntmps64
  go_wp2_with fail
  refine HS.out.mono ?_
  rintro e w1 ⟨A1, c1, F, rfl, hrd, hst, hb⟩
  have R1 := Lib.hid hrd
  have B1 := Lib.hid hb
  have HL := Lib.hid (ldU_all hst)
  have HK := Lib.hid (show ∀ j, j < n → (-1 : Int) ≤ F j from fun j hj => by rcases hst j hj with ⟨h, _⟩ | ⟨k, _, h, _⟩ <;> omega)
  clear hrd hst hb
  go_wp2_with fail
  go_loopw [5, 12] (fun v z wr => ∃ (k : Nat) (Aq : Option Addr) (cq : Nat), k ≤ n ∧ v = .slice Aq (ldU F k).length cq ∧ z = .int .i64 k ∧ wr.ownsRow w1.heap.size 3 1 (.slice Aq (ldU F k).length cq) (ldU F k).length (ints (nats (ldU F k))) ∧ Below w1.heap.size w1 wr) (fun _ z _ => n - (intOf z).toNat)
  case atStart => exact ⟨0, none, 0, by omega, rfl, rfl, ⟨rfl, .inl ⟨rfl, rfl⟩⟩, Below.refl _ _⟩
  case round =>
    obtain ⟨k, Aq, cq, hk, rfl, rfl, h1, h2⟩ := hrel
    have OW := Lib.hid h1
    have B2 := Lib.hid h2
    by_cases hlt : k < n
    · obtain ⟨b, o, d, rfl, hd, hc⟩ := (R1.out.below h2 (Nat.le_refl _)).int k (by rw [rowF_len]; exact hlt)
      have hd2 : d = F k := by
        have h3 := hd.out
        rw [rowF_get hlt] at h3
        injection h3 with h3
        exact h3.symm
      subst hd2
      have b0 : (0 : Int) ≤ (k : Int) := by omega
      have b1 : (k : Int) < (n : Int) := by omega
      have hnx := ldU_next F k
      have hln := ldU_len F k
      have HNX := Lib.hid hnx
      clear hd h1 h2 hnx
      by_cases hF : F k = -1
      · have e1 : (F k != -1) = false := by simpa using hF
        have HN := Lib.hid (show ldU F (k + 1) = ldU F k by rw [HNX.out, if_pos hF])
        clear hF
        go_wp2_with fail
        go_roundw
        case rel => exact ⟨k + 1, Aq, cq, by omega, by rw [HN.out], by go_num, by rw [HN.out]; exact OW.out, B2.out⟩
        case measure => simp [intOf]; omega
      · have e1 : (F k != -1) = true := by simpa using hF
        have HN := Lib.hid (show ldU F (k + 1) = ldU F k ++ [k] by rw [HNX.out, if_neg hF])
        clear hF
        generalize ldU F k = q at *
        go_wp2_with ((with_reducible show wpList _ _ _ (⟨some 22, _, _, _, _, _⟩ :: _) _ _); refine app eInts rfl (.tmp 19) (.tmp 21) rfl rfl (OW.out.alloc _) (B2.out.alloc B2.out.size (.cells #[.int .i64 (k : Int)] 3)) (size_alloc' B2.out.size _) rfl (Rd.one wr (.int .i64 (k : Int)) 3 (Nat.lt_succ_self _)) (by simp) (ints_one [(k : Int)]) (q.length + 1) rfl (by omega) ?_; intro A2 c2 w11 o2 b2 _ _; have O2 := Lib.hid o2; have B11 := Lib.hid b2; clear o2 b2)
        go_roundw
        case rel => exact ⟨k + 1, A2, c2, by omega, by rw [HN.out]; simp, by go_num, by rw [HN.out]; simpa [ints, nats] using O2.out, B11.out⟩
        case measure => simp [intOf]; omega
    · have hkn : k = n := by omega
      subst hkn
      rw [HL.out]
      have OW' := Lib.hid (show wr.ownsRow w1.heap.size 3 1 (.slice Aq (ldL L k i).length cq) (ldL L k i).length (ints (nats (ldL L k i))) by rw [← HL.out]; exact OW.out)
      clear hlt h1 h2
      go_wp2_with fail
      go_ret
      exact ⟨Aq, cq, rfl, Rd.of_own OW'.out, B1.out.trans (B2.out.mono B1.out.size)⟩
end Go.Proofs.Ytegehfcnclpdeaa
