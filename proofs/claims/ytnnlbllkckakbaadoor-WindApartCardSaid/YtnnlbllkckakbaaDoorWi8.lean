/-
  The walks of Arcs of package wind and of the reference, of SameArcs. No condition.
-/
import Derived.Test.YtnnlbllkckakbaaDoorWi7
namespace Go.Proofs.YtnnlbllkckakbaaDoor
open Go.RowKit
set_option linter.unusedVariables false

def arcsV (n : Int) : List Pt := if setB n then arcsL n.toNat else []
theorem listB_start {x : Nat} (hx : x < 4294967296) : listB (startN x).testBit = listB (startB x) := listK_congr fun j hj => startN_test hx hj
theorem starts_print {x : Nat} (hx : x < 4294967296) : bits .andNot .u32 (x : Int) ((rotN x (byN 1) : Nat) : Int) = ((startN x : Nat) : Int) := by
  have e : byN 1 = 1 := by decide
  rw [e, u32_andNot_nat x _ hx (rot_lt hx)]
  rfl
theorem take_arcs {x k p : Nat} (h : (listB (startB x))[k]? = some (p : Int)) : ((arcsN x).take (k + 1)).flatMap Pt.cells = ((arcsN x).take k).flatMap Pt.cells ++ [.int .i64 p, .int .i64 (runN x p : Nat)] := by
  have e : (arcsN x)[k]? = some ⟨p, (runN x p : Nat)⟩ := by
    unfold arcsN
    rw [List.getElem?_map, h]
    simp
  rw [List.take_add_one, e, List.flatMap_append]
  rfl
theorem pt_one (a b : Int) : ∀ u ∈ [Value.int .i64 a, Value.int .i64 b], u.oneCell' = true := by
  intro u hu
  simp at hu
  rcases hu with rfl | rfl <;> rfl
theorem Rd.two (w : World) (u v : Value) (e : TypeId) : Rd (w.alloc (.cells #[u, v] e)) (w.alloc (.cells #[u, v] e)).heap.size (some ⟨w.heap.size, 0, none⟩) [u, v] := Rd.of_block (heap_alloc_new w _)
set_option maxRecDepth 4000 in
set_option maxHeartbeats 800000 in
theorem Arcs_any (n : Int) (w : World) : Calls Tryd.prog 19 #[.int .i64 n] w (MadePE w (arcsV n) (setE n)) := by
  unfold arcsV
  by_cases h : setB n = true
  · rw [if_pos h, setE_zero.2 h]
    obtain ⟨x, rfl, hx⟩ := set_nat h
    rw [Int.toNat_natCast]
    clear h
    unfold arcsL
    by_cases hf : x = 4294967295
    · rw [if_pos hf]
      have hb : ((x : Int) == 4294967295) = true := by rw [hf]; rfl
      have R2 := Lib.hid (Rd.two w (.int .i64 0) (.int .i64 32) 23)
      clear hf
      go_enter Tryd.func19, Tryd.ntmps19
      go_wp2_with fail
      refine (setOf_yes x w hx).mono ?_
      rintro e w' ⟨rfl, rfl⟩
      go_wp2_with fail
      go_ret2
      exact ⟨_, 1, rfl, by decide, fresh_at w (Nat.le_refl _), R2.out, (Below.refl _ _).alloc (Nat.le_refl _) _⟩
    · rw [if_neg hf]
      have hb : ((x : Int) == 4294967295) = false := by simp; omega
      have hz := not_full hx hf
      have hst := starts_print hx
      have HT := Lib.hid (fun w => turn_any x 1 w hx)
      have HL := Lib.hid (fun w => list_any (startN x) w (startN_lt hx))
      rw [listB_start hx] at HL
      have HR := Lib.hid (fun p w hp => runFrom_any x p w hx hp hz)
      have HM := Lib.hid (fun d (h : d ∈ listB (startB x)) => listK_mem h)
      have HK := Lib.hid (fun k p h => take_arcs (x := x) (k := k) (p := p) h)
      have HLen := Lib.hid (show (arcsN x).length = (listB (startB x)).length by simp [arcsN])
      have h32 := listB_le (startB x)
      generalize listB (startB x) = L at *
      generalize startN x = S at *
      generalize arcsN x = Q at *
      clear hf hz
      unfold hasV at HL
      go_enter Tryd.func19, Tryd.ntmps19
      go_wp2_with fail
      refine (setOf_yes x w hx).mono ?_
      rintro e w' ⟨rfl, rfl⟩
      go_wp2_with fail
      refine (HT.out w).mono ?_
      rintro e w' ⟨rfl, rfl⟩
      go_wp2_with fail
      refine (HL.out w).mono ?_
      rintro e w1 ⟨A1, c1, rfl, hc1, hr1, hb1⟩
      have R1 := Lib.hid hr1
      have B1 := Lib.hid hb1
      clear hr1 hb1 hst
      go_wp2_with fail
      go_loopw [6, 29] (fun v i wr => ∃ (k : Nat) (A9 : Option Addr) (c9 : Nat), k ≤ L.length ∧ i = .int .i64 k ∧ v = .slice A9 k c9 ∧ wr.ownsRow w1.heap.size 23 2 v k ((Q.take k).flatMap Pt.cells) ∧ Below w1.heap.size w1 wr) (fun _ i _ => L.length - (intOf i).toNat)
      case atStart => exact ⟨0, none, 0, by omega, rfl, rfl, World.ownsRow_nil _ _ _ _, Below.refl _ _⟩
      case round =>
        obtain ⟨k, A9, c9, hk, rfl, rfl, hown, hb1⟩ := hrel
        have O := Lib.hid hown
        have BW := Lib.hid hb1
        clear hown hb1
        by_cases hlt : k < L.length
        · obtain ⟨b, o, d, rfl, hd, hc⟩ := (R1.out.below BW.out (Nat.le_refl _)).int k hlt
          obtain ⟨p, hp1, hp, _⟩ := HM.out d (List.mem_of_getElem? hd.out)
          have hd' := hd.out
          rw [hp1] at hd' hc
          have HQ := Lib.hid (HK.out k p hd')
          have HR2 := Lib.hid (fun w => HR.out p w hp)
          generalize runN x p = r at *
          clear hp1 hd'
          go_wp2_with fail
          refine (HR2.out wr).mono ?_
          rintro e w' ⟨rfl, rfl⟩
          go_wp2_with (at_builtin; refine app Tryd.eArc rfl _ _ rfl rfl (O.out.alloc _) (BW.out.alloc BW.out.size _) (size_alloc' BW.out.size _) rfl (Rd.two wr (.int .i64 p) (.int .i64 r) 23) (by simp) (pt_one _ _) (k + 1) rfl (by omega) ?_; intro A4 c4 w4 o4 b4 _ _; have O4 := Lib.hid o4; have B4 := Lib.hid b4; clear o4 b4)
          go_roundw
          case rel => exact ⟨k + 1, A4, c4, by omega, by go_num, rfl, by rw [HQ.out]; exact O4.out, B4.out⟩
          case measure => simp [intOf]; omega
        · have hks : k = L.length := by omega
          subst hks
          have hown := O.out
          obtain ⟨A8, c8, he, hc8⟩ := own_form hown
          have hc : L.length ≤ c9 := by injection he with h1 h2 h3; omega
          clear hown he
          go_wp2_with fail
          go_ret2
          exact ⟨A9, c9, by rw [HLen.out]; rfl, by rw [HLen.out]; exact hc, own_fresh O.out B1.out.size, by have := Rd.of_own O.out; rw [← HLen.out, List.take_length] at this; exact this, B1.out.trans (BW.out.mono B1.out.size)⟩
  · rw [if_neg h, show setE n = 1 from if_neg h]
    rw [Bool.not_eq_true] at h
    have H := Lib.hid (fun w => setOf_no n w h)
    clear h
    go_enter Tryd.func19, Tryd.ntmps19
    go_wp2_with fail
    refine (H.out w).mono ?_
    rintro e w' ⟨⟨y, rfl⟩, rfl⟩
    go_wp2_with fail
    go_ret2
    exact ⟨none, 0, rfl, by decide, fresh_nil w, .inl rfl, Below.refl _ _⟩
end Go.Proofs.YtnnlbllkckakbaaDoor
