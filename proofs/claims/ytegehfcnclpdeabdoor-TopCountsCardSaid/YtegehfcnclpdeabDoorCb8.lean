/-
  The recaptures up to again, and their ways together: the walks of upToAgain, sum, withBirds. Condition: numbers of birds.
-/
import Derived.Test.YtegehfcnclpdeabDoorCb7
namespace Go.Proofs.YtegehfcnclpdeabDoor
open Go.RowKit
set_option linter.unusedVariables false

theorem eRc : Elem Tryd.prog 49 47 (.agg #[.int .i64 0, .int .i64 0, .int .i64 0, .int .i64 0]) 4 32 := ⟨Tryd.underlying49, by kernel_rfl, rfl, by decide, by decide⟩
/-- One recapture's cells. -/
def rcC (b m c a : Int) : List Value := [.int .i64 b, .int .i64 m, .int .i64 c, .int .i64 a]
/-- The recaptures with 0 .. k - 1 again. -/
def upC (b m c k : Nat) : List Value := (List.range k).flatMap fun (i : Nat) => rcC b m c i
theorem upC_next (b m c k : Nat) : upC b m c (k + 1) = upC b m c k ++ rcC b m c k := by
  unfold upC
  rw [List.range_succ, List.flatMap_append]
  simp
/-- The recaptures of n, n + 1 .. birds. -/
def wbC (n m c a k : Nat) : List Value := (List.range k).flatMap fun (i : Nat) => rcC ((n + i : Nat) : Int) m c a
theorem wbC_next (n m c a k : Nat) : wbC n m c a (k + 1) = wbC n m c a k ++ rcC ((n + k : Nat) : Int) m c a := by
  unfold wbC
  rw [List.range_succ, List.flatMap_append]
  simp
theorem range_at {k i : Nat} (h : i < k) : (List.range k)[i]? = some i := by simp [h]
theorem Rd.rcs {w : World} {B : Nat} {A : Option Addr} {f : Nat → List Value} {k : Nat} (hf : ∀ i, (f i).length = 4) (h : Rd w B A ((List.range k).flatMap f)) (i : Nat) (hi : i < k) :
    ∃ b o, A = some ⟨b, o, none⟩ ∧ b < B ∧ ∀ j u, (f i)[j]? = some u → w.cell? ⟨b, o + (i * 4 + j), none⟩ = some u := by
  obtain ⟨b, o, p, ha, hb, hx, hc⟩ := h.rec hf (by decide) i (by simpa using hi)
  have : p = i := by have := hx.out; rw [range_at hi] at this; exact (Option.some.inj this).symm
  subst this
  exact ⟨b, o, ha, hb, hc⟩
set_option maxRecDepth 4000 in
set_option maxHeartbeats 1000000 in
theorem upToAgain_any (b m c k : Nat) (hk : k ≤ 61) (w : World) :
    Calls Tryd.prog 35 #[.agg (rc b m c ((k : Int) - 1))] w fun e w' => ∃ A' c', e = .returned (.slice A' k c') ∧ Rd w' w'.heap.size A' (upC b m c k) ∧ Below w.heap.size w w' := by
  obtain ⟨c0, c1, c2, c3, hb0⟩ := box_rc w b m c ((k : Int) - 1) 47
  have hs : w.heap.size < (w.alloc (.cells (rc b m c ((k : Int) - 1)) 47)).heap.size := by simp
  obtain ⟨q, hq⟩ : ∃ q : Int, q = (k : Int) - 1 := ⟨_, rfl⟩
  have HQ := Lib.hid hq
  have b0 : (-1 : Int) ≤ q := by omega
  have b1 : q ≤ 60 := by omega
  rw [← hq] at c0 c1 c2 c3 hb0 hs ⊢
  clear hq
  go_enter Tryd.func35, Tryd.ntmps35
  go_wp2_with fail
  generalize w.alloc (Obj.cells (rc b m c q) 47) = W at *
  have HB0 := Lib.hid hb0
  have HS := Lib.hid hs
  have C0 := Lib.hid c0
  have C1 := Lib.hid c1
  have C2 := Lib.hid c2
  clear c0 c1 c2 hb0 hs
  go_loopw [3, 8] (fun v i wr => ∃ (j : Nat) (A' : Option Addr) (c' : Nat), j ≤ k ∧ v = .slice A' j c' ∧ i = .int .i64 j ∧ wr.ownsRow W.heap.size 47 4 (.slice A' j c') j (upC b m c j) ∧ Below W.heap.size W wr) (fun _ i _ => k - (intOf i).toNat)
  case atStart => exact ⟨0, none, 0, by omega, rfl, rfl, ⟨rfl, .inl ⟨rfl, rfl⟩⟩, Below.refl _ _⟩
  case round =>
    obtain ⟨j, A', c', hj, rfl, rfl, h1, h2⟩ := hrel
    have OW := Lib.hid h1
    have B2 := Lib.hid h2
    have k0 := cell_keep C0.out h2 HS.out
    have k1 := cell_keep C1.out h2 HS.out
    have k2 := cell_keep C2.out h2 HS.out
    clear h1 h2
    by_cases hlt : j < k
    · have e1 : decide ((j : Int) < q + 1) = true := by simp; have := HQ.out; omega
      have HX := Lib.hid (upC_next b m c j)
      go_wp2_with ((with_reducible show wpList _ _ _ (⟨some 21, _, _, _, _, _⟩ :: _) _ _); refine app eRc rfl (.tmp 11) (.tmp 20) rfl rfl (OW.out.alloc _) (B2.out.alloc B2.out.size (.cells #[.int .i64 (b : Int), .int .i64 (m : Int), .int .i64 (c : Int), .int .i64 (j : Int)] 47)) (size_alloc' B2.out.size _) rfl (Rd.lit wr (rcC b m c j) 47) rfl (by simp [rcC, Value.oneCell']) (j + 1) rfl (by omega) ?_; intro A2 c2 w3 o2 b2 _ _; have O2 := Lib.hid (show w3.ownsRow W.heap.size 47 4 (.slice A2 (j + 1) c2) (j + 1) (upC b m c (j + 1)) by rw [HX.out]; exact o2); have B4 := Lib.hid b2; clear o2 b2)
      go_roundw
      case rel => exact ⟨j + 1, A2, c2, by omega, rfl, by go_num, O2.out, B4.out⟩
      case measure => simp [intOf]; omega
    · have e1 : decide ((j : Int) < q + 1) = false := by simp; have := HQ.out; omega
      have hjk : j = k := by omega
      subst hjk
      go_wp2_with fail
      go_ret
      exact ⟨A', c', rfl, Rd.of_own OW.out, HB0.out.trans (B2.out.mono HB0.out.size)⟩
set_option maxRecDepth 4000 in
set_option maxHeartbeats 1000000 in
theorem withBirds_any (b : Int) (m c a n : Nat) (hn : n + a = m + c) (h60 : n ≤ 120) (hm : m ≤ 60) (hc : c ≤ 60) (ha : a ≤ 60) (w : World) :
    Calls Tryd.prog 15 #[.agg (rc b m c a)] w fun e w' => ∃ A' c', e = .returned (.slice A' (61 - n : Nat) c') ∧ Rd w' w'.heap.size A' (wbC n m c a (61 - n)) ∧ Below w.heap.size w w' := by
  obtain ⟨c0, c1, c2, c3, hb0⟩ := box_rc w b m c a 47
  have hs : w.heap.size < (w.alloc (.cells (rc b m c a) 47)).heap.size := by simp
  have HQ := Lib.hid (show ((m : Int) + (c : Int)) - (a : Int) = (n : Int) by omega)
  obtain ⟨k, hk⟩ : ∃ k, k = 61 - n := ⟨_, rfl⟩
  have HK := Lib.hid hk
  rw [← hk]
  clear hk
  go_enter Tryd.func15, Tryd.ntmps15
  go_wp2_with fail
  generalize w.alloc (Obj.cells (rc b m c a) 47) = W at *
  have HB0 := Lib.hid hb0
  have HS := Lib.hid hs
  have C1 := Lib.hid c1
  have C2 := Lib.hid c2
  have C3 := Lib.hid c3
  clear c0 c1 c2 c3 hb0 hs
  go_loopw [3, 4] (fun v i wr => ∃ (j : Nat) (A' : Option Addr) (c' : Nat), j ≤ k ∧ v = .slice A' j c' ∧ i = .int .i64 ((n + j : Nat) : Int) ∧ wr.ownsRow W.heap.size 47 4 (.slice A' j c') j (wbC n m c a j) ∧ Below W.heap.size W wr) (fun _ i _ => 61 - (intOf i).toNat)
  case atStart => exact ⟨0, none, 0, by omega, rfl, by rw [HQ.out]; rfl, ⟨rfl, .inl ⟨rfl, rfl⟩⟩, Below.refl _ _⟩
  case round =>
    obtain ⟨j, A', c', hj, rfl, rfl, h1, h2⟩ := hrel
    have OW := Lib.hid h1
    have B2 := Lib.hid h2
    have k1 := cell_keep C1.out h2 HS.out
    have k2 := cell_keep C2.out h2 HS.out
    have k3 := cell_keep C3.out h2 HS.out
    clear h1 h2
    by_cases hlt : j < k
    · have hle : n + j ≤ 60 := by have := HK.out; omega
      have e1 : decide (((n + j : Nat) : Int) ≤ 60) = true := by simp; omega
      have HX := Lib.hid (wbC_next n m c a j)
      obtain ⟨q, hq⟩ : ∃ q, q = n + j := ⟨_, rfl⟩
      have HQQ := Lib.hid hq
      rw [← hq] at hle e1 HX ⊢
      have hj61 : j ≤ 61 := by omega
      clear hq
      go_wp2_with ((with_reducible show wpList _ _ _ (⟨some 27, _, _, _, _, _⟩ :: _) _ _); refine app eRc rfl (.tmp 17) (.tmp 26) rfl rfl (OW.out.alloc _) (B2.out.alloc B2.out.size (.cells #[.int .i64 (q : Int), .int .i64 (m : Int), .int .i64 (c : Int), .int .i64 (a : Int)] 47)) (size_alloc' B2.out.size _) rfl (Rd.lit wr (rcC q m c a) 47) rfl (by simp [rcC, Value.oneCell']) (j + 1) rfl (by omega) ?_; intro A2 c2 w3 o2 b2 _ _; have O2 := Lib.hid (show w3.ownsRow W.heap.size 47 4 (.slice A2 (j + 1) c2) (j + 1) (wbC n m c a (j + 1)) by rw [HX.out]; exact o2); have B4 := Lib.hid b2; clear o2 b2)
      go_roundw
      case rel => exact ⟨j + 1, A2, c2, by omega, rfl, by rw [show n + (j + 1) = q + 1 by have := HQQ.out; omega]; go_num, O2.out, B4.out⟩
      case measure => simp [intOf]; omega
    · have hjk : j = k := by omega
      subst hjk
      obtain ⟨q, hq⟩ : ∃ q, q = n + j := ⟨_, rfl⟩
      have e1 : decide ((q : Int) ≤ 60) = false := by simp; have := HK.out; omega
      rw [← hq]
      clear hq hlt
      go_wp2_with fail
      go_ret
      exact ⟨A', c', rfl, Rd.of_own OW.out, HB0.out.trans (B2.out.mono HB0.out.size)⟩
theorem sumTo_le {n m c k : Nat} (hm : m ≤ n) (hc : c ≤ n) : sumTo (wN n m c) k ≤ ch n c := by
  rw [sumTo_congr (g := wy n m c) k (fun i _ => wN_fit hm hc)]
  exact upW_le hm k
theorem sumTo_up {n m c k : Nat} (hm : m ≤ n) (hc : c ≤ n) : sumTo (wN n m c) k = upW n m c k := sumTo_congr _ fun i _ => wN_fit hm hc
def waysV : Value := .func (.func 18) #[] #[]
set_option maxRecDepth 4000 in
set_option maxHeartbeats 1000000 in
theorem sumRc_any (b m c k : Nat) (hb : b ≤ 60) (hm : m ≤ b) (hc : c ≤ b) (hk : k ≤ 61) (A : Option Addr) (cp : Nat) (w : World) (hr : Rd w w.heap.size A (upC b m c k)) :
    Calls Tryd.prog 34 #[.slice A k cp, waysV] w fun e w' => e = .returned (.int .i64 (upW b m c k : Nat)) ∧ Below w.heap.size w w' := by
  have HR := Lib.hid hr
  rw [← sumTo_up hm hc]
  have HL := Lib.hid (fun j => Nat.le_trans (sumTo_le (k := j) hm hc) (ch_small hb c))
  clear hr
  unfold waysV
  go_enter Tryd.func34, Tryd.ntmps34
  go_wp2_with fail
  go_loopw [5, 10] (fun v i wr => ∃ (j : Nat), j ≤ k ∧ v = .int .i64 (sumTo (wN b m c) j : Nat) ∧ i = .int .i64 j ∧ Below w.heap.size w wr) (fun _ i _ => k - (intOf i).toNat)
  case atStart => exact ⟨0, by omega, rfl, rfl, Below.refl _ _⟩
  case round =>
    obtain ⟨j, hj, rfl, rfl, h2⟩ := hrel
    have B2 := Lib.hid h2
    by_cases hlt : j < k
    · obtain ⟨bb, o, rfl, hbb, hcells⟩ := (HR.out.below h2 (Nat.le_refl _)).rcs (fun i => rfl) j hlt
      have k0 : wr.cell? ⟨bb, o + j * 4, none⟩ = some (.int .i64 (b : Int)) := hcells 0 _ rfl
      have k1 : wr.cell? ⟨bb, o + j * 4 + 1, none⟩ = some (.int .i64 (m : Int)) := hcells 1 _ rfl
      have k2 : wr.cell? ⟨bb, o + j * 4 + 2, none⟩ = some (.int .i64 (c : Int)) := hcells 2 _ rfl
      have k3 : wr.cell? ⟨bb, o + j * 4 + 3, none⟩ = some (.int .i64 (j : Int)) := hcells 3 _ rfl
      have HWy := Lib.hid (fun w => ways_any b m c j hb (by omega) (by omega) (by omega) w)
      have g1 := HL.out j
      have g2 := HL.out (j + 1)
      have HN := Lib.hid (show sumTo (wN b m c) (j + 1) = sumTo (wN b m c) j + wN b m c j from rfl)
      rw [HN.out] at g2
      generalize sumTo (wN b m c) j = s at *
      generalize wN b m c j = x at *
      clear h2 hcells
      go_wp2_with fail
      refine (HWy.out _).mono ?_
      rintro e w3 ⟨rfl, hb3⟩
      have B3 := Lib.hid ((B2.out.alloc B2.out.size _).trans (hb3.mono (size_alloc' B2.out.size _)))
      clear hb3
      go_wp2_with fail
      go_roundw
      case rel => exact ⟨j + 1, by omega, by rw [HN.out]; go_num, by go_num, B3.out⟩
      case measure => simp [intOf]; omega
    · have hjk : j = k := by omega
      subst hjk
      clear h2
      go_wp2_with fail
      go_ret
      exact ⟨rfl, B2.out⟩
end Go.Proofs.YtegehfcnclpdeabDoor
