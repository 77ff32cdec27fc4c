/-
  The walks of Arcs of the reference, of SameArcs. No condition.
-/
import Derived.Test.YtnnlbllkckakbaaDoorWi8
import Derived.Deep.QuietTactic
import Derived.BigQuiet
namespace Go.Proofs.YtnnlbllkckakbaaDoor
open Go.RowKit
set_option linter.unusedVariables false

def eqP (a b : Pt) : Bool := a.x == b.x && a.y == b.y
theorem fields_arc : ∃ f0 f1 : Field, Tryd.prog.fieldsOf 23 = #[f0, f1] ∧ f0.type = 3 ∧ f1.type = 3 ∧ f0.offset = 0 ∧ f1.offset = 1 ∧ f0.name = "From" ∧ f1.name = "Width" := by
  have ht : Tryd.prog.underlying 23 = some (.struct (Tryd.prog.fieldsOf 23)) := by kernel_rfl
  have h := Tryd.underlying23.symm.trans ht
  injection h with h
  injection h with h
  exact ⟨_, _, h.symm, rfl, rfl, rfl, rfl, rfl, rfl⟩
theorem eq_in (a b : Pt) (W : World) : (Op.equalIn 10000 23 (.agg #[.int .i64 a.x, .int .i64 a.y]) (.agg #[.int .i64 b.x, .int .i64 b.y])).run Tryd.prog W = .ok (eqP a b) W := by
  have ht : Tryd.prog.underlying 23 = some (.struct (Tryd.prog.fieldsOf 23)) := by kernel_rfl
  have hp : Tryd.prog.stoodInHeld 23 = false := by kernel_rfl
  rw [run_equalIn_struct _ _ _ _ _ ht hp]
  obtain ⟨f0, f1, hf, t0, t1, o0, o1, n0, n1⟩ := fields_arc
  rw [hf]
  have hi := Tryd.underlying3
  simp [Op.eqFields, t0, t1, o0, o1, n0, n1, go_sem, hi]
  by_cases h1 : a.x = b.x <;> by_cases h2 : a.y = b.y <;> simp [eqP, h1, h2]
theorem ne_pts (a b : Pt) (W : World) : (binOp .neq 23 (.agg #[.int .i64 a.x, .int .i64 a.y]) (.agg #[.int .i64 b.x, .int .i64 b.y])).run Tryd.prog W = .ok (.bool (!eqP a b)) W := by
  rw [run_neq_struct, eq_in]
  rfl
theorem guard_arc : Tryd.prog.eqGuardType Tryd.prog.depth 23 = false := by kernel_rfl
/-- Two lists of arcs that hold the same. -/
theorem SameArcs_same (A1 A2 : Option Addr) (c1 c2 : Nat) (L : List Pt) (n1 n2 : Nat) (w : World) (h1 : n1 = L.length) (h2 : n2 = L.length) (hr1 : Rd w w.heap.size A1 (L.flatMap Pt.cells)) (hr2 : Rd w w.heap.size A2 (L.flatMap Pt.cells)) (hn : L.length ≤ 1000) :
    Calls Tryd.prog 21 #[.slice A1 n1 c1, .slice A2 n2 c2] w fun e w' => e = .returned (.bool true) ∧ ∃ m, w' = w.drewN m := by
  subst h1 h2
  have R1 := Lib.hid hr1
  have R2 := Lib.hid hr2
  clear hr1 hr2
  have e3 := guard_arc
  go_enter Tryd.func21, Tryd.ntmps21
  go_wp2_with fail
  go_loopw [5] (fun i wr => ∃ k : Nat, k ≤ L.length ∧ i = .int .i64 k ∧ ∃ m, wr = w.drewN m) (fun i _ => L.length - (intOf i).toNat)
  case atStart => exact ⟨0, by omega, rfl, 0, rfl⟩
  case round =>
    obtain ⟨k, hk, rfl, m, rfl⟩ := hrel
    by_cases hlt : k < L.length
    · obtain ⟨b, o, ⟨x, y⟩, rfl, hx, c0, c1'⟩ := R1.out.pt k hlt
      obtain ⟨b', o', q, rfl, hq, d0, d1⟩ := R2.out.pt k hlt
      obtain rfl := Option.some.inj (hx.out.symm.trans hq.out)
      simp only at c0 c1' d0 d1
      have e1 := fun W => eq_in ⟨x, y⟩ ⟨x, y⟩ W
      have e2 := fun W => ne_pts ⟨x, y⟩ ⟨x, y⟩ W
      have e4 : eqP ⟨x, y⟩ ⟨x, y⟩ = true := by simp [eqP]
      simp only [e4] at e1 e2
      clear e4
      go_wp2_with fail
      go_quiet (fail)
      go_wp2_with fail
      go_roundw
      case rel => exact ⟨k + 1, by omega, by go_num, _, rfl⟩
      case measure => simp [intOf]; omega
    · have hks : k = L.length := by omega
      have HK := Lib.hid hks
      clear hks
      go_wp2_with fail
      go_ret
      exact ⟨rfl, _, rfl⟩
/-! ### The document's side -/
set_option maxRecDepth 4000 in
set_option maxHeartbeats 1600000 in
theorem rArcs_any (n : Int) (w : World) : Calls Tryd.prog 22 #[.int .i64 n] w (MadePE w (arcsV n) (setE n)) := by
  have HI := Lib.hid (fun w => risSet_any n w)
  unfold arcsV
  by_cases h : setB n = true
  · rw [if_pos h, setE_zero.2 h]
    rw [h] at HI
    obtain ⟨x, rfl, hx⟩ := set_nat h
    rw [Int.toNat_natCast]
    clear h
    unfold arcsL
    by_cases hf : x = 4294967295
    · rw [if_pos hf]
      have hb : ((x : Int) == 4294967295) = true := by rw [hf]; rfl
      have R2 := Lib.hid (Rd.two w (.int .i64 0) (.int .i64 32) 23)
      clear hf
      go_enter Tryd.func22, Tryd.ntmps22
      go_wp2_with fail
      refine (HI.out w).mono ?_
      rintro e w' ⟨rfl, rfl⟩
      go_wp2_with fail
      go_ret2
      exact ⟨_, 1, rfl, by decide, fresh_at w (Nat.le_refl _), R2.out, (Below.refl _ _).alloc (Nat.le_refl _) _⟩
    · rw [if_neg hf]
      have hb : ((x : Int) == 4294967295) = false := by simp; omega
      have hz := not_full hx hf
      have HO := Lib.hid (fun w => ropen_any x w hx)
      have HZ := Lib.hid hz
      have HK := Lib.hid (fun k p h => take_arcs (x := x) (k := k) (p := p) h)
      have HY := Lib.hid (fun k h => listK_yes (f := startB x) (k := k) h)
      have HN := Lib.hid (fun k h => listK_no (f := startB x) (k := k) h)
      have HLE := Lib.hid (fun k => listK_le (startB x) k)
      have HLen := Lib.hid (show (arcsN x).length = (listK (startB x) 32).length by simp [arcsN, listB])
      clear hf hz
      go_enter Tryd.func22, Tryd.ntmps22
      go_wp2_with fail
      refine (HI.out w).mono ?_
      rintro e w' ⟨rfl, rfl⟩
      go_wp2_with fail
      refine (HO.out w).mono ?_
      rintro e w1 ⟨rfl, hb⟩
      have B1 := Lib.hid hb
      clear hb
      obtain ⟨W1, hW1, hblk1, hs1, hb1⟩ := one_arr x.testBit w1 70
      have R1 := Lib.hid hblk1
      have R0 := Lib.hid (setRow_heap W1 _ _ (bools x.testBit).toArray _ _ hblk1)
      have B2 := Lib.hid (B1.out.trans ((below_setRow hb1 (Nat.le_refl _) (bools x.testBit).toArray).mono B1.out.size))
      have hsz : w1.heap.size < (W1.setRow w1.heap.size (bools x.testBit).toArray).heap.size := by rw [size_setRow]; exact hs1
      clear hblk1 hb1 hs1
      go_wp2_with (refine wpList_store_row rfl 70 (.tmp 4) (.tmp 16) rfl w1.heap.size _ rfl rfl _ _ R1.out (size_bools _) (by simp [bools]) (by simp [bools, Value.oneCell']) ?_)
      clear hW1 R1
      generalize W1.setRow w1.heap.size (bools x.testBit).toArray = W2 at *
      go_loopw [5, 6] (fun v i wr => ∃ (k : Nat) (A9 : Option Addr) (c9 : Nat), k ≤ 32 ∧ i = .int .i64 k ∧ v = .slice A9 (listK (startB x) k).length c9 ∧ wr.ownsRow W2.heap.size 23 2 v (listK (startB x) k).length (((listK (startB x) k).map fun p => (⟨p, (runN x p.toNat : Nat)⟩ : Pt)).flatMap Pt.cells) ∧ Below W2.heap.size W2 wr) (fun _ i _ => 32 - (intOf i).toNat)
      case atStart => exact ⟨0, none, 0, by omega, rfl, rfl, World.ownsRow_nil _ _ _ _, Below.refl _ _⟩
      case round =>
        obtain ⟨k, A9, c9, hk, rfl, rfl, hown, hb2⟩ := hrel
        have O := Lib.hid hown
        have BW := Lib.hid hb2
        have RK := Lib.hid ((hb2.block _ hsz).trans R0.out)
        clear hown hb2
        have cellAt := Lib.hid (fun j (hj : j < 32) => show wr.cell? ⟨w1.heap.size, j, none⟩ = some (.bool (x.testBit j)) by rw [blk_cell RK.out, List.getElem?_toArray]; exact bools_at hj)
        by_cases hlt : k < 32
        · have c0 := cellAt.out k hlt
          have hle := HLE.out k
          obtain ⟨t, ht, ht2⟩ : ∃ t : Nat, ((k : Int) - 1) % 32 = (t : Int) ∧ t = (k + 31) % 32 := ⟨(k + 31) % 32, by omega, rfl⟩
          have htl : t < 32 := by omega
          have c1 := cellAt.out t htl
          have e1 : IntKind.i64.wrap ((k : Int) - 1) = (k : Int) - 1 := by rw [IntKind.wrap_i64]; omega
          have HT := Lib.hid ht2
          have hsb : startB x k = (x.testBit k && !x.testBit t) := by rw [ht2]; rfl
          have HR := Lib.hid (fun (w : World) => (around_any ((k : Int) - 1) w))
          rw [ht] at HR
          clear ht ht2
          cases hq : x.testBit k
          · have HS := Lib.hid (HN.out k (by rw [hsb, hq]; rfl))
            rw [hq] at c0
            clear hq hsb c1
            go_wp2_with fail
            go_roundw
            case rel => exact ⟨k + 1, A9, c9, by omega, by go_num, by rw [HS.out], by rw [HS.out]; exact O.out, BW.out⟩
            case measure => simp [intOf]; omega
          · cases hq2 : x.testBit t
            · have HS := Lib.hid (HY.out k (by rw [hsb, hq, hq2]; rfl))
              have HQ := Lib.hid hq
              rw [hq] at c0
              rw [hq2] at c1
              clear hq hq2 hsb
              go_wp2_with fail
              refine (HR.out wr).mono ?_
              rintro e w' ⟨rfl, rfl⟩
              go_wp2_with fail
              obtain ⟨wo, rfl⟩ : ∃ wo : World, wo = wr := ⟨_, rfl⟩
              clear c0 c1 e1
              go_loop [7] (fun i => ∃ j : Nat, j < 32 ∧ i = .int .i64 j ∧ ∀ e, e < j → x.testBit ((k + e) % 32) = true) (fun i => 32 - (intOf i).toNat)
              case atStart => exact ⟨1, by omega, rfl, fun e he => by
                obtain rfl : e = 0 := by omega
                rw [show (k + 0) % 32 = k by omega]; exact HQ.out⟩
              case round =>
                obtain ⟨j, hj, rfl, hall⟩ := hrel
                have HA := Lib.hid hall
                clear hall
                have e2 : IntKind.i64.wrap ((k : Int) + (j : Int)) = (k : Int) + (j : Int) := by rw [IntKind.wrap_i64]; omega
                obtain ⟨u, hu, hu2⟩ : ∃ u : Nat, ((k : Int) + (j : Int)) % 32 = (u : Int) ∧ u = (k + j) % 32 := ⟨(k + j) % 32, by omega, rfl⟩
                have hul : u < 32 := by omega
                have c2 := cellAt.out u hul
                have HRu := Lib.hid (fun (w : World) => (around_any ((k : Int) + (j : Int)) w))
                rw [hu] at HRu
                have HU := Lib.hid hu2
                clear hu hu2
                cases hq3 : x.testBit u
                · have HRun := Lib.hid (run_is (x := x) (p := k) hj HA.out (by rw [← HU.out]; exact hq3))
                  have HSm : Hid (((listK (startB x) (k + 1)).map fun p => (⟨p, (runN x p.toNat : Nat)⟩ : Pt)).flatMap Pt.cells = ((listK (startB x) k).map fun p => (⟨p, (runN x p.toNat : Nat)⟩ : Pt)).flatMap Pt.cells ++ [.int .i64 k, .int .i64 j]) := by
                    rw [HS.out, List.map_append, List.flatMap_append]
                    simp only [List.map_cons, List.map_nil, Int.toNat_natCast, HRun.out]
                    rfl
                  rw [hq3] at c2
                  clear hq3
                  generalize ((listK (startB x) k).map fun p => (⟨p, (runN x p.toNat : Nat)⟩ : Pt)).flatMap Pt.cells = C at *
                  generalize listK (startB x) k = L at *
                  go_wp2_with fail
                  refine (HRu.out wo).mono ?_
                  rintro e w' ⟨rfl, rfl⟩
                  go_wp2_with (at_builtin; refine app Tryd.eArc rfl _ _ rfl rfl (O.out.alloc _) (BW.out.alloc BW.out.size _) (size_alloc' BW.out.size _) rfl (Rd.two wo (.int .i64 k) (.int .i64 j) 23) (by simp) (pt_one _ _) (L.length + 1) rfl (by omega) ?_; intro A4 c4 w4 o4 b4 _ _; have O4 := Lib.hid o4; have B4 := Lib.hid b4; clear o4 b4)
                  go_roundw
                  case rel => exact ⟨k + 1, A4, c4, by omega, by go_num, by rw [HS.out, List.length_append]; rfl, by rw [HSm.out, HS.out, List.length_append]; exact O4.out, B4.out⟩
                  case measure => simp [intOf]; omega
                · have HN2 := Lib.hid (show ∀ e, e < j + 1 → x.testBit ((k + e) % 32) = true from fun e he => by
                    rcases Nat.lt_or_ge e j with h | h
                    · exact HA.out e h
                    · obtain rfl : e = j := by omega
                      rw [← HU.out]; exact hq3)
                  have hj1 : j + 1 < 32 := by
                    rcases Nat.lt_or_ge (j + 1) 32 with h | h
                    · exact h
                    · obtain ⟨i, hi, hbi⟩ := HZ.out
                      have := HN2.out ((i + 32 - k) % 32) (by omega)
                      rw [show (k + (i + 32 - k) % 32) % 32 = i by omega, hbi] at this
                      cases this
                  rw [hq3] at c2
                  clear hq3
                  go_wp2_with fail
                  refine (HRu.out wo).mono ?_
                  rintro e w' ⟨rfl, rfl⟩
                  go_wp2_with fail
                  go_round
                  case rel => exact ⟨j + 1, hj1, by go_num, HN2.out⟩
                  case measure => simp [intOf]; omega
            · have HS := Lib.hid (HN.out k (by rw [hsb, hq, hq2]; rfl))
              rw [hq] at c0
              rw [hq2] at c1
              clear hq hq2 hsb
              go_wp2_with fail
              refine (HR.out wr).mono ?_
              rintro e w' ⟨rfl, rfl⟩
              go_wp2_with fail
              go_roundw
              case rel => exact ⟨k + 1, A9, c9, by omega, by go_num, by rw [HS.out], by rw [HS.out]; exact O.out, BW.out⟩
              case measure => simp [intOf]; omega
        · obtain rfl : k = 32 := by omega
          have hown := O.out
          obtain ⟨A8, c8, he, hc8⟩ := own_form hown
          have hc : (listK (startB x) 32).length ≤ c9 := by injection he with h1 h2 h3; omega
          clear hown he cellAt
          go_wp2_with fail
          go_ret2
          exact ⟨A9, c9, by rw [HLen.out]; rfl, by rw [HLen.out]; exact hc, own_fresh O.out B2.out.size, Rd.of_own O.out, B2.out.trans (BW.out.mono B2.out.size)⟩
  · rw [if_neg h, show setE n = 1 from if_neg h]
    rw [Bool.not_eq_true] at h
    rw [h] at HI
    clear h
    go_enter Tryd.func22, Tryd.ntmps22
    go_wp2_with fail
    refine (HI.out w).mono ?_
    rintro e w' ⟨rfl, rfl⟩
    go_wp2_with fail
    go_ret2
    exact ⟨none, 0, rfl, by decide, fresh_nil w, .inl rfl, Below.refl _ _⟩
end Go.Proofs.YtnnlbllkckakbaaDoor
