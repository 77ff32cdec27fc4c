/-
  Sets that shrink: the walks of shrink over its two functions, of kept, Keeps, Again of both sides. Conditions: the game and the set can be read.
-/
import Derived.Test.YtldepjpalhmpnaaLu15
import Derived.Test.YtldepjpalhmpnaaLb5
namespace Go.Proofs.Ytldepjpalhmpnaa
open Go.RowKit
set_option linter.unusedVariables false

theorem sbl {P : Program} {f : FuncId} {args : Array Value} {w : World} {v : Value} (h : Calls P f args w fun e w' => e = .returned v ∧ w = w') : Calls P f args w fun e w' => e = .returned v ∧ Below w.heap.size w w' := h.mono fun _ _ ⟨he, hw⟩ => ⟨he, by subst hw; exact Below.refl _ _⟩
theorem p16 {n : Nat} (h : n ≤ 16) : 2 ^ n ≤ 65536 := show 2 ^ n ≤ 2 ^ 16 from Nat.pow_le_pow_right (by omega) h
set_option maxRecDepth 4000 in
set_option maxHeartbeats 800000 in
theorem keep1_any (g : Gv) (b X : Nat) (w : World) (hr : RdG w w.heap.size g) (hf : Gfit g) (hE : gE g.G = 0) (q0 : w.cell? ⟨b, 0, none⟩ = some (.slice g.A0 g.own.length g.c0)) (q1 : w.cell? ⟨b, 1, none⟩ = some (.slice g.A1 g.rs.length g.c1)) (hX : X < 65536) :
    Calls Try.prog 25 #[.int .u32 X, .pointer (some ⟨b, 0, none⟩)] w fun e w' => e = .returned (.int .u32 (kpF g.G X : Nat)) ∧ Below w.heap.size w w' := by
  have RG := Lib.hid hr
  have HF := Lib.hid (fun w h => forced_any g 0 X w h hf hE (by omega))
  have hx : fcN g.G 0 X < 4294967296 := Nat.lt_of_lt_of_le (fcN_lt g.G 0 X) (Nat.le_trans (p16 (gE_zero hE).le) (by omega))
  have hand : bits .and .u32 (X : Int) ((fcN g.G 0 X : Nat) : Int) = ((kpF g.G X : Nat) : Int) := u32_and_nat _ _ (by omega) hx
  clear hr hf hE
  unfold Gv.v at HF
  generalize kpF g.G X = K at *
  generalize fcN g.G 0 X = Y at *
  obtain ⟨A0, c0, own, A1, c1, rs⟩ := g
  simp only at q0 q1 HF
  go_enter Try.func25, Try.ntmps25
  go_wp2_with fail
  refine (HF.out w RG.out).mono ?_
  rintro e w1 ⟨rfl, hb⟩
  have B1 := Lib.hid hb
  clear hb
  go_wp2_with fail
  go_ret
  exact ⟨by first | rfl | rw [hand], B1.out⟩
set_option maxRecDepth 4000 in
set_option maxHeartbeats 800000 in
theorem shrinkK_any (g : Gv) (b : Nat) (S : Nat) (w : World) (hr : RdG w w.heap.size g) (hf : Gfit g) (hE : gE g.G = 0) (z0 : w.cell? ⟨b, 0, none⟩ = some (.slice g.A0 g.own.length g.c0)) (z1 : w.cell? ⟨b, 1, none⟩ = some (.slice g.A1 g.rs.length g.c1)) (lt_b : b < w.heap.size) (hm : Mono (kpF g.G)) (hs : sub (kpF g.G S) S) (hS : S < 2 ^ g.own.length) :
    Calls Try.prog 24 #[.int .u32 S, .func (.func 25) #[] #[.pointer (some ⟨b, 0, none⟩)]] w fun e w' => e = .returned (.int .u32 (itr (kpF g.G) S g.own.length : Nat)) ∧ Below w.heap.size w w' := by
  have RG := Lib.hid hr
  have h16 : g.own.length ≤ 16 := (gE_zero hE).le
  have hp := p16 h16
  have HLt := Lib.hid (fun k => itr_lt (n := g.own.length) hm hs hS k)
  have HEn := Lib.hid (fun k h => itr_end (n := g.own.length) (k := k) hm hs hS h)
  have HLs := Lib.hid (fun k h => sub_less (n := g.own.length) (itr_lt hm hs hS k) (itr_down hm hs k) h)
  have HC := Lib.hid (fun X w h y0 y1 hX => keep1_any g b X w h hf hE y0 y1 hX)
  have HN := Lib.hid (fun k => (show (kpF g.G) (itr (kpF g.G) S k) = itr (kpF g.G) S (k + 1) from rfl))
  have HCn := Lib.hid (fun X => cntK_le (Nat.testBit X) g.own.length)
  clear hr hf hE
  generalize kpF g.G = F at *
  go_enter Try.func24, Try.ntmps24
  go_wp2_with fail
  go_loopw [0] (fun v wr => ∃ k : Nat, v = .int .u32 (itr F S k : Nat) ∧ Below w.heap.size w wr) (fun v _ => cntK (intOf v).toNat.testBit g.own.length)
  case atStart => exact ⟨0, rfl, Below.refl _ _⟩
  case round =>
    obtain ⟨k, rfl, hb⟩ := hrel
    have BW := Lib.hid hb
    have RG1 := Lib.hid (RG.out.up hb)
    have y0 := cell_keep z0 hb lt_b
    have y1 := cell_keep z1 hb lt_b
    have hlt := HLt.out k
    have HQ := Lib.hid (HC.out (itr F S k) wr RG1.out y0 y1 (by omega))
    have HNk := Lib.hid (HN.out k)
    rw [HN.out k] at HQ
    have HLk := Lib.hid (HLs.out k)
    have HEk := Lib.hid (HEn.out k)
    clear hb hlt
    by_cases he : itr F S (k + 1) = itr F S k
    · have e1 : (((itr F S (k + 1) : Nat) : Int) == ((itr F S k : Nat) : Int)) = true := by rw [he]; simp
      have HE := Lib.hid (HEk.out (by rw [HNk.out]; exact he))
      have e2 : (itr F S (k + 1) == itr F S k) = true := by rw [he]; simp
      clear he
      generalize itr F S (k + 1) = I1 at *
      generalize itr F S k = I0 at *
      go_wp2_with (go_at_call 25; refine HQ.out.mono ?_; rintro e w2 ⟨rfl, hb⟩; have B2 := Lib.hid (BW.out.trans (hb.mono BW.out.size)); clear hb)
      go_ret
      exact ⟨by rw [← HE.out]; rfl, B2.out⟩
    · have e1 : (((itr F S (k + 1) : Nat) : Int) == ((itr F S k : Nat) : Int)) = false := by rw [beq_eq_false_iff_ne]; intro h; exact he (by exact_mod_cast h)
      have e2 : (itr F S (k + 1) == itr F S k) = false := by rw [beq_eq_false_iff_ne]; exact he
      have HM := Lib.hid (HLk.out he)
      clear he
      go_wp2_with (go_at_call 25; refine HQ.out.mono ?_; rintro e w2 ⟨rfl, hb⟩; have B2 := Lib.hid (BW.out.trans (hb.mono BW.out.size)); clear hb)
      go_roundw
      case rel => exact ⟨k + 1, rfl, B2.out⟩
      case measure => simp [intOf]; exact HM.out
end Go.Proofs.Ytldepjpalhmpnaa
