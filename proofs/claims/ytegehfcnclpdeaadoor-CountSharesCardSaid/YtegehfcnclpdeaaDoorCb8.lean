/-
  The recaptures up to again, and their ways together: the walks of upToAgain, sum, withBirds. Condition: numbers of birds.
-/
import Derived.Test.YtegehfcnclpdeaaDoorCb7
namespace Go.Proofs.YtegehfcnclpdeaaDoor
open Go.RowKit
set_option linter.unusedVariables false

theorem eRc : Elem Tryd.prog 51 47 (.agg #[.int .i64 0, .int .i64 0, .int .i64 0, .int .i64 0]) 4 32 := ⟨Tryd.underlying51, by kernel_rfl, rfl, by decide, by decide⟩
/-- One recapture's cells. -/
def rcC (b m c a : Int) : List Value := [.int .i64 b, .int .i64 m, .int .i64 c, .int .i64 a]
/-- The recaptures with 0 .. k - 1 again. -/
def upC (b m c k : Nat) : List Value := (List.range k).flatMap fun (i : Nat) => rcC b m c i
theorem upC_next (b m c k : Nat) : upC b m c (k + 1) = upC b m c k ++ rcC b m c k := by
  unfold upC
  rw [List.range_succ, List.flatMap_append]
  simp
/-- The recaptures of n, n + 1 .. birds. -/
def wbC (n m c a k : Nat) : List Value := (List.range k).flatMap fun (i : Nat) => rcC ((n + i : Nat) : Int) m c a
theorem wbC_next (n m c a k : Nat) : wbC n m c a (k + 1) = wbC n m c a k ++ rcC ((n + k : Nat) : Int) m c a := by
  unfold wbC
  rw [List.range_succ, List.flatMap_append]
  simp
theorem range_at {k i : Nat} (h : i < k) : (List.range k)[i]? = some i := by simp [h]
theorem Rd.rcs {w : World} {B : Nat} {A : Option Addr} {f : Nat → List Value} {k : Nat} (hf : ∀ i, (f i).length = 4) (h : Rd w B A ((List.range k).flatMap f)) (i : Nat) (hi : i < k) :
    ∃ b o, A = some ⟨b, o, none⟩ ∧ b < B ∧ ∀ j u, (f i)[j]? = some u → w.cell? ⟨b, o + (i * 4 + j), none⟩ = some u := by
  obtain ⟨b, o, p, ha, hb, hx, hc⟩ := h.rec hf (by decide) i (by simpa using hi)
  have : p = i := by have := hx.out; rw [range_at hi] at this; exact (Option.some.inj this).symm
  subst this
  exact ⟨b, o, ha, hb, hc⟩
set_option maxRecDepth 4000 in
set_option maxHeartbeats 1000000 in
theorem withBirds_any (b : Int) (m c a n : Nat) (hn : n + a = m + c) (h60 : n ≤ 120) (hm : m ≤ 60) (hc : c ≤ 60) (ha : a ≤ 60) (w : World) :
    Calls Tryd.prog 27 #[.agg (rc b m c a)] w fun e w' => ∃ A' c', e = .returned (.slice A' (61 - n : Nat) c') ∧ Rd w' w'.heap.size A' (wbC n m c a (61 - n)) ∧ Below w.heap.size w w' := by
  obtain ⟨c0, c1, c2, c3, hb0⟩ := box_rc w b m c a 47
  have hs : w.heap.size < (w.alloc (.cells (rc b m c a) 47)).heap.size := by simp
  have HQ := Lib.hid (show ((m : Int) + (c : Int)) - (a : Int) = (n : Int) by omega)
  obtain ⟨k, hk⟩ : ∃ k, k = 61 - n := ⟨_, rfl⟩
  have HK := Lib.hid hk
  rw [← hk]
  clear hk
  go_enter Tryd.func27, Tryd.ntmps27
  go_wp2_with fail
  generalize w.alloc (Obj.cells (rc b m c a) 47) = W at *
  have HB0 := Lib.hid hb0
  have HS := Lib.hid hs
  have C1 := Lib.hid c1
  have C2 := Lib.hid c2
  have C3 := Lib.hid c3
  clear c0 c1 c2 c3 hb0 hs
  go_loopw [3, 4] (fun v i wr => ∃ (j : Nat) (A' : Option Addr) (c' : Nat), j ≤ k ∧ v = .slice A' j c' ∧ i = .int .i64 ((n + j : Nat) : Int) ∧ wr.ownsRow W.heap.size 47 4 (.slice A' j c') j (wbC n m c a j) ∧ Below W.heap.size W wr) (fun _ i _ => 61 - (intOf i).toNat)
  case atStart => exact ⟨0, none, 0, by omega, rfl, by rw [HQ.out]; rfl, ⟨rfl, .inl ⟨rfl, rfl⟩⟩, Below.refl _ _⟩
  case round =>
    obtain ⟨j, A', c', hj, rfl, rfl, h1, h2⟩ := hrel
    have OW := Lib.hid h1
    have B2 := Lib.hid h2
    have k1 := cell_keep C1.out h2 HS.out
    have k2 := cell_keep C2.out h2 HS.out
    have k3 := cell_keep C3.out h2 HS.out
    clear h1 h2
    by_cases hlt : j < k
    · have hle : n + j ≤ 60 := by have := HK.out; omega
      have e1 : decide (((n + j : Nat) : Int) ≤ 60) = true := by simp; omega
      have HX := Lib.hid (wbC_next n m c a j)
      obtain ⟨q, hq⟩ : ∃ q, q = n + j := ⟨_, rfl⟩
      have HQQ := Lib.hid hq
      rw [← hq] at hle e1 HX ⊢
      have hj61 : j ≤ 61 := by omega
      clear hq
      go_wp2_with ((with_reducible show wpList _ _ _ (⟨some 27, _, _, _, _, _⟩ :: _) _ _); refine app eRc rfl (.tmp 17) (.tmp 26) rfl rfl (OW.out.alloc _) (B2.out.alloc B2.out.size (.cells #[.int .i64 (q : Int), .int .i64 (m : Int), .int .i64 (c : Int), .int .i64 (a : Int)] 47)) (size_alloc' B2.out.size _) rfl (Rd.lit wr (rcC q m c a) 47) rfl (by simp [rcC, Value.oneCell']) (j + 1) rfl (by omega) ?_; intro A2 c2 w3 o2 b2 _ _; have O2 := Lib.hid (show w3.ownsRow W.heap.size 47 4 (.slice A2 (j + 1) c2) (j + 1) (wbC n m c a (j + 1)) by rw [HX.out]; exact o2); have B4 := Lib.hid b2; clear o2 b2)
      go_roundw
      case rel => exact ⟨j + 1, A2, c2, by omega, rfl, by rw [show n + (j + 1) = q + 1 by have := HQQ.out; omega]; go_num, O2.out, B4.out⟩
      case measure => simp [intOf]; omega
    · have hjk : j = k := by omega
      subst hjk
      obtain ⟨q, hq⟩ : ∃ q, q = n + j := ⟨_, rfl⟩
      have e1 : decide ((q : Int) ≤ 60) = false := by simp; have := HK.out; omega
      rw [← hq]
      clear hq hlt
      go_wp2_with fail
      go_ret
      exact ⟨A', c', rfl, Rd.of_own OW.out, HB0.out.trans (B2.out.mono HB0.out.size)⟩
theorem sumTo_le {n m c k : Nat} (hm : m ≤ n) (hc : c ≤ n) : sumTo (wN n m c) k ≤ ch n c := by
  rw [sumTo_congr (g := wy n m c) k (fun i _ => wN_fit hm hc)]
  exact upW_le hm k
theorem sumTo_up {n m c k : Nat} (hm : m ≤ n) (hc : c ≤ n) : sumTo (wN n m c) k = upW n m c k := sumTo_congr _ fun i _ => wN_fit hm hc
def waysV : Value := .func (.func 23) #[] #[]
end Go.Proofs.YtegehfcnclpdeaaDoor
