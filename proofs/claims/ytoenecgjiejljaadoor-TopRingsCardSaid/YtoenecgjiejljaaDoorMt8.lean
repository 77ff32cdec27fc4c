/-
  Texts merged into one (Rn2, Tab): contracts of the functions of package lure, what is reckoned of games. Conditions: as each says.
-/
import Derived.Test.YtoenecgjiejljaaDoorMt2
import Derived.Test.YtoenecgjiejljaaDoorMt5
import Derived.Test.YtoenecgjiejljaaDoorMt7
import Derived.Deep.RegionHeld3
import Derived.Test.YtoenecgjiejljaaDoorProg
import Derived.Test.YtoenecgjiejljaaDoorMt6
import Derived.WalkKit
import Derived.WalkLawsBesides
import Derived.WalkSpells
import Derived.Deep.QuietTactic
import Derived.BigQuiet
import Derived.Handy
import Derived.Lib.Hide
namespace Go.Proofs.YtoenecgjiejljaaDoor
open Go.RowKit
set_option linter.unusedVariables false

def TrvN (w : World) : Prop := w.heap.size = w.heap.size
theorem trvN (w : World) : TrvN w := rfl
/-- Lists of bytes as cells. -/
def tsl (ws : List (List UInt8)) : List Value := txts (ws.map sL)
theorem tsl_app (a b : List (List UInt8)) : tsl (a ++ b) = tsl a ++ tsl b := by simp [tsl, txts]
theorem tsl_len (a : List (List UInt8)) : (tsl a).length = a.length := by simp [tsl, txts]
theorem eTx : Elem Tryd.prog 32 9 (.string ⟨#[]⟩) 1 16 := ⟨Tryd.underlying32, by kernel_rfl, rfl, by decide, by decide⟩
def digB : ByteArray := ⟨#[48, 49, 50, 51, 52, 53, 54, 55, 56, 57]⟩
theorem digB_at {k : Nat} (h : k < digB.size) : (digB[k]'h).toNat = 48 + k := by
  have : ∀ i : Fin 10, ((digB[i.val]'i.isLt).toNat) = 48 + i.val := by decide
  exact this ⟨k, h⟩
theorem bdDNr {B : Nat} {w w' : World} (h : Below B w w') (m : Nat) : Below B w (w'.drewN m) := ⟨h.os, h.tape, h.output, h.size, h.block⟩
theorem cgP_next {u : List UInt8} {p k : Nat} : cgP u p (k + 1) = cgP u p k ++ if cgO u p k = true then [cg u p k] else [] := by
  unfold cgP
  rw [List.range_succ, List.filter_append, List.map_append]
  cases h : cgO u p k <;> simp [h]
theorem cgL_next {u : List UInt8} {h k : Nat} : cgL u h (k + 1) = cgL u h k ++ cgP u (h + k) 10 := by
  unfold cgL
  rw [List.range_succ, List.flatMap_append]
  simp
theorem xgL_next {u : List UInt8} {h k : Nat} : xgL u h (k + 1) = xgL u h k ++ if xgO u (h + k) = true then [xg u (h + k)] else [] := by
  unfold xgL
  rw [List.range_succ, List.filter_append, List.map_append]
  cases hh : xgO u (h + k) <;> simp [hh]
theorem cgP_len (u : List UInt8) (p k : Nat) : (cgP u p k).length ≤ k := by
  unfold cgP
  rw [List.length_map]
  exact Nat.le_trans (List.length_filter_le ..) (by simp)
theorem cgL_len (u : List UInt8) (h : Nat) : ∀ k, (cgL u h k).length ≤ 10 * k
  | 0 => by simp [cgL]
  | k + 1 => by
    rw [cgL_next, List.length_append]
    have := cgL_len u h k
    have := cgP_len u (h + k) 10
    omega
theorem xgL_len (u : List UInt8) (h k : Nat) : (xgL u h k).length ≤ k := by
  unfold xgL
  rw [List.length_map]
  exact Nat.le_trans (List.length_filter_le ..) (by simp)
theorem byte_D {s : ByteArray} {p : Nat} (hp : p < s.size) : (bl s).getD p 0 = s[p]'hp := by
  rw [List.getD_eq_getElem?_getD, List.getElem?_eq_getElem (by rw [bl_len]; exact hp)]
  rfl
theorem cgO_nat {s : ByteArray} {p d : Nat} (hp : p < s.size) (hd : d < 10) : cgO (bl s) p d = !decide (48 + d = (s[p]'hp).toNat) := by
  unfold cgO
  rw [byte_D hp]
  congr 1
  rw [decide_eq_decide]
  constructor
  · intro e
    rw [← e]
    simp
    omega
  · intro e
    apply UInt8.toNat_inj.1
    rw [← e]
    simp
    omega
theorem xgO_nat {s : ByteArray} {p : Nat} (hp : p + 1 < s.size) : xgO (bl s) p = !decide ((s[p]'(by omega)).toNat = (s[p + 1]'hp).toNat) := by
  unfold xgO
  rw [byte_D (by omega), byte_D hp]
  congr 1
  rw [decide_eq_decide]
  exact ⟨fun e => by rw [e], fun e => UInt8.toNat_inj.1 e⟩
set_option maxRecDepth 8000 in
set_option maxHeartbeats 4000000 in
theorem changes_own (s : ByteArray) (h : Nat) (w : World) (hs : s.size = h + 6) (hh : h ≤ 2) :
    Calls Tryd.prog 64 #[.string s] w fun e w' => ∃ A c, e = .returned (.slice A (cgL (bl s) h 6).length c) ∧ w'.ownsRow w.heap.size 9 1 (.slice A (cgL (bl s) h 6).length c) (cgL (bl s) h 6).length (tsl (cgL (bl s) h 6)) ∧ Below w.heap.size w w' := by
  have q1 : ((s.size : Int) - 6) = (h : Int) := by omega
  have HH := Lib.hid hs
  have hsz : s.size ≤ 8 := by omega
  have HRp := Lib.hid (fun (i : Nat) (b : UInt8) w hi => replace_any s i b w hi (by omega))
  have HO := Lib.hid (fun p d hp hd => cgO_nat (s := s) (p := p) (d := d) hp hd)
  have HPl := Lib.hid (fun p k => cgP_len (bl s) p k)
  have HLl := Lib.hid (fun k => cgL_len (bl s) h k)
  have HPn := Lib.hid (fun p k => cgP_next (u := bl s) (p := p) (k := k))
  have HLn := Lib.hid (fun k => cgL_next (u := bl s) (h := h) (k := k))
  have HCG := Lib.hid (show ∀ p d : Nat, sL ((bl s).set p (UInt8.ofNat (48 + d))) = sL (cg (bl s) p d) from fun p d => rfl)
  clear hs
  generalize bl s = u at *
  go_enter Tryd.func64, Tryd.ntmps64
  go_wp2_with fail
  go_loopw [3, 4] (fun v i wr => ∃ (k : Nat) (A : Option Addr) (c : Nat), k ≤ 6 ∧ i = .int .i64 ((h : Int) + k) ∧ v = .slice A (cgL u h k).length c ∧ wr.ownsRow w.heap.size 9 1 v (cgL u h k).length (tsl (cgL u h k)) ∧ Below w.heap.size w wr) (fun _ i _ => (s.size - intOf i).toNat)
  case atStart => exact ⟨0, none, 0, by omega, by simp, rfl, World.ownsRow_nil _ _ _ _, Below.refl _ _⟩
  case round =>
    obtain ⟨k, A, c, hk, rfl, rfl, hown, hb⟩ := hrel
    have O := Lib.hid hown
    have BB := Lib.hid hb
    clear hown hb
    by_cases hlt : k < 6
    · have hp : h + k < s.size := by have := HH.out; omega
      have i1 : (h : Int) + (k : Int) < (s.size : Int) := by omega
      have hl1 := HLl.out k
      obtain ⟨p, hpe⟩ : ∃ p, h + k = p := ⟨_, rfl⟩
      have q2 : (h : Int) + (k : Int) = (p : Int) := by omega
      have HN := Lib.hid (HLn.out k)
      rw [hpe] at HN hp
      have p0 : (0 : Int) ≤ (p : Int) := by omega
      have p1 : (p : Int) < (s.size : Int) := by omega
      obtain ⟨wo, hwo⟩ : ∃ wo : World, wo = wr := ⟨_, rfl⟩
      rw [← hwo] at O BB ⊢
      have HPE := Lib.hid hpe
      rw [q2] at i1 ⊢
      clear hwo hpe q2
      generalize cgL u h k = L at *
      go_wp2_with fail
      go_loopw [3] (fun v wr => ∃ (d : Nat) (A : Option Addr) (c : Nat), d ≤ 10 ∧ v = .slice A (L ++ cgP u p d).length c ∧ wr.heap[wo.heap.size]? = some (.stringIter digB d) ∧ wr.ownsRow w.heap.size 9 1 v (L ++ cgP u p d).length (tsl (L ++ cgP u p d)) ∧ Below w.heap.size w wr) (fun _ wr => 10 - wr.iterPos wo.heap.size)
      case atStart => exact ⟨0, A, c, by omega, by simp [cgP], World.iter_heap wo digB 0, by
        have h1 := O.out.alloc (.stringIter digB 0)
        have e : L ++ cgP u p 0 = L := by simp [cgP]
        rw [e]
        exact h1, BB.out.alloc BB.out.size _⟩
      case round =>
        obtain ⟨d, A, c, hd, rfl, hit, hown, hb⟩ := hrel
        have hpos0 := iterPos_of hit
        by_cases hd10 : d < 10
        · have hpd : d < digB.size := hd10
          have hnx : ∀ ty, (Instr.next (.pointer (some ⟨wo.heap.size, 0, none⟩)) true ty).run Tryd.prog wr = _ := fun ty => Lib.run_next_ascii_at wr wo.heap.size digB d ty hit hpd (by rw [digB_at hpd]; omega)
          simp only [digB_at hpd] at hnx
          have hit2 := Lib.iterAt_heap wr wo.heap.size digB d (d + 1) hit
          have hb2 := Lib.below_iterAt hb (k := wo.heap.size) BB.out.size digB (d + 1)
          have hown2 := own_iterAt hown hit (d + 1)
          generalize hW1 : wr.iterAt wo.heap.size digB (d + 1) = W1 at *
          have P0 := Lib.hid hpos0
          have IT := Lib.hid hit2
          have B2 := Lib.hid hb2
          have O2 := Lib.hid hown2
          have hgl := lt_of_block hit2
          clear hW1 hpos0 hit2 hb2 hown2 hit hown hb
          have hO := HO.out p d hp hd10
          have HPn1 := Lib.hid (HPn.out p d)
          have hPl := HPl.out p d
          have hRp := HRp.out p (UInt8.ofNat (48 + d)) 
          rw [HCG.out] at hRp
          rw [show ((UInt8.ofNat (48 + d)).toNat : Int) = 48 + (d : Int) by simp; omega] at hRp
          have HR := Lib.hid (fun w => hRp w hp)
          clear hRp
          by_cases he : 48 + d = (s[p]'hp).toNat
          · have x1 : ((48 : Int) + (d : Int) == (((s[p]'hp).toNat : Nat) : Int)) = true := by rw [beq_iff_eq]; omega
            have x2 : (48 + d == (s[p]'hp).toNat) = true := by rw [beq_iff_eq]; exact he
            rw [decide_eq_true he] at hO
            have HX := Lib.hid (show cgP u p (d + 1) = cgP u p d by rw [HPn1.out, hO]; simp)
            clear he hO
            go_wp2_with fail
            go_roundw
            case rel => exact ⟨d + 1, A, c, by omega, by rw [HX.out], IT.out, by rw [HX.out]; exact O2.out, B2.out⟩
            case measure => rw [iterPos_of IT.out, P0.out]; omega
          · have x1 : ((48 : Int) + (d : Int) == (((s[p]'hp).toNat : Nat) : Int)) = false := by rw [beq_eq_false_iff_ne]; omega
            have x2 : (48 + d == (s[p]'hp).toNat) = false := by rw [beq_eq_false_iff_ne]; exact he
            rw [decide_eq_false he] at hO
            have HX := Lib.hid (show L ++ cgP u p (d + 1) = (L ++ cgP u p d) ++ [cg u p d] by rw [HPn1.out, hO]; simp)
            have HXl := Lib.hid (show (L ++ cgP u p (d + 1)).length = (L ++ cgP u p d).length + 1 by rw [HX.out, List.length_append]; rfl)
            have hln : (L ++ cgP u p d).length ≤ 70 := by rw [List.length_append]; omega
            have HT := Lib.hid (show tsl (L ++ cgP u p (d + 1)) = tsl (L ++ cgP u p d) ++ [.string (sL (cg u p d))] by rw [HX.out, tsl_app]; rfl)
            generalize (L ++ cgP u p d).length = n at *
            generalize tsl (L ++ cgP u p d) = T at *
            clear he hO
            go_wp2_with fail
            refine (HR.out W1).mono ?_
            rintro e w2 ⟨rfl, hb⟩
            have I3 := Lib.hid ((hb.block _ hgl).trans IT.out)
            have B3 := Lib.hid (B2.out.trans (hb.mono B2.out.size))
            have O3 := Lib.hid (own_below O2.out hb)
            clear hb
            go_wp2_with (at_builtin; refine app eTx rfl _ _ rfl rfl (O3.out.alloc _) (B3.out.alloc B3.out.size _) (size_alloc' B3.out.size _) rfl (Rd.one w2 (.string (sL (cg u p d))) 9 (Nat.lt_succ_self _)) (by simp) (txts_one [sL (cg u p d)]) (n + 1) rfl (by omega) ?_; intro A4 c4 w4 o4 b4 g4 _; have I4 := Lib.hid (iter_grown (O3.out.alloc _) (iter_alloc I3.out _) g4); have O4 := Lib.hid o4; have B4 := Lib.hid b4; clear o4 b4 g4)
            go_roundw
            case rel => exact ⟨d + 1, A4, c4, by omega, by rw [HXl.out], I4.out, by rw [HXl.out, HT.out]; exact O4.out, B4.out⟩
            case measure => rw [iterPos_of I4.out, P0.out]; omega
        · obtain rfl : d = 10 := by omega
          have hnx : ∀ ty, (Instr.next (.pointer (some ⟨wo.heap.size, 0, none⟩)) true ty).run Tryd.prog wr = _ := fun ty => Lib.run_next_end_at wr wo.heap.size digB 10 ty hit (by decide)
          have O2 := Lib.hid hown
          have B2 := Lib.hid hb
          clear hit hown hb hpos0
          go_wp2_with fail
          go_roundw
          case rel => exact ⟨k + 1, A, c, by omega, by have := HPE.out; congr 1; omega, by rw [HN.out], by rw [HN.out]; exact O2.out, B2.out⟩
          case measure => have := HPE.out; simp [intOf]; omega
    · obtain rfl : k = 6 := by omega
      have i1 : decide ((h : Int) + 6 < (s.size : Int)) = false := decide_eq_false (by have := HH.out; omega)
      have i2 : (h : Int) + 6 = (s.size : Int) := by have := HH.out; omega
      go_wp2_with fail
      go_ret
      exact ⟨A, c, rfl, O.out, BB.out⟩
/-- text[i+1] put at i, and text[i] at i+1. -/
theorem xg_is (s : ByteArray) {p : Nat} (hp : p + 1 < s.size) : (sL ((bl (sL ((bl s).set p (s[p + 1]'hp)))).set (p + 1) (s[p]'(Nat.lt_of_succ_lt hp)))) = sL (xg (bl s) p) := by
  rw [bl_sL]
  unfold xg
  rw [byte_D hp, byte_D (show p < s.size by omega)]
set_option maxRecDepth 8000 in
set_option maxHeartbeats 4000000 in
theorem exchanges_any (s : ByteArray) (h : Nat) (w : World) (hs : s.size = h + 6) (hh : h ≤ 2) :
    Calls Tryd.prog 65 #[.string s] w fun e w' => ∃ A c, e = .returned (.slice A (xgL (bl s) h 5).length c) ∧ Rd w' w'.heap.size A (tsl (xgL (bl s) h 5)) ∧ Below w.heap.size w w' := by
  have q1 : ((s.size : Int) - 6) = (h : Int) := by omega
  have HH := Lib.hid hs
  have hsz : s.size ≤ 8 := by omega
  have HO := Lib.hid (fun p hp => xgO_nat (s := s) (p := p) hp)
  have HLl := Lib.hid (fun k => xgL_len (bl s) h k)
  have HLn := Lib.hid (fun k => xgL_next (u := bl s) (h := h) (k := k))
  have HR1 := Lib.hid (fun (p : Nat) (hp : p + 1 < s.size) w => replace_any s p (s[p + 1]'hp) w (by omega) (by omega))
  have HR2 := Lib.hid (fun (p : Nat) (hp : p + 1 < s.size) w => replace_any (sL ((bl s).set p (s[p + 1]'hp))) (p + 1) (s[p]'(Nat.lt_of_succ_lt hp)) w (by rw [sL_size, List.length_set, bl_len]; exact hp) (by rw [sL_size, List.length_set, bl_len]; omega))
  have HXG := Lib.hid (fun p hp => xg_is s (p := p) hp)
  simp only [HXG.out] at HR2
  clear hs
  generalize hu : bl s = u at *
  have HU := Lib.hid hu
  clear hu
  go_enter Tryd.func65, Tryd.ntmps65
  go_wp2_with fail
  go_loopw [3, 4] (fun v i wr => ∃ (k : Nat) (A : Option Addr) (c : Nat), k ≤ 5 ∧ i = .int .i64 ((h : Int) + k) ∧ v = .slice A (xgL u h k).length c ∧ wr.ownsRow w.heap.size 9 1 v (xgL u h k).length (tsl (xgL u h k)) ∧ Below w.heap.size w wr) (fun _ i _ => (s.size - intOf i).toNat)
  case atStart => exact ⟨0, none, 0, by omega, by simp, rfl, World.ownsRow_nil _ _ _ _, Below.refl _ _⟩
  case round =>
    obtain ⟨k, A, c, hk, rfl, rfl, hown, hb⟩ := hrel
    have O := Lib.hid hown
    have BB := Lib.hid hb
    clear hown hb
    by_cases hlt : k < 5
    · obtain ⟨p, hpe⟩ : ∃ p, h + k = p := ⟨_, rfl⟩
      have q2 : (h : Int) + (k : Int) = (p : Int) := by omega
      have hp1 : p + 1 < s.size := by have := HH.out; omega
      have hp : p < s.size := by omega
      have hl1 := HLl.out k
      have HN := Lib.hid (HLn.out k)
      rw [hpe] at HN
      have hO := HO.out p hp1
      have hR1 := Lib.hid (fun w => HR1.out p hp1 w)
      have hR2 := Lib.hid (fun w => HR2.out p hp1 w)
      have p0 : (0 : Int) ≤ (p : Int) := by omega
      have p1 : (p : Int) < (s.size : Int) := by omega
      have p2 : (p : Int) + 1 < (s.size : Int) := by omega
      have p3 : (0 : Int) ≤ (p : Int) + 1 := by omega
      have p4 : ((p : Int) + 1).toNat = p + 1 := by omega
      have p5 : (p : Int) ≤ 8 := by omega
      have ew : IntKind.i64.wrap ((p : Int) + 1) = (p : Int) + 1 := by rw [IntKind.wrap_i64]; omega
      have HPE := Lib.hid hpe
      rw [q2]
      clear hpe q2
      generalize sL (u.set p (s[p + 1]'hp1)) = r1 at *
      by_cases he : (s[p]'hp).toNat = (s[p + 1]'hp1).toNat
      · have x1 : ((((s[p]'hp).toNat : Nat) : Int) == (((s[p + 1]'hp1).toNat : Nat) : Int)) = true := by rw [beq_iff_eq]; omega
        have x2 : ((s[p]'hp).toNat == (s[p + 1]'hp1).toNat) = true := by rw [beq_iff_eq]; exact he
        rw [decide_eq_true he] at hO
        have HX := Lib.hid (show xgL u h (k + 1) = xgL u h k by rw [HN.out, hO]; simp)
        clear he hO
        go_wp2_with fail
        go_quiet (fail)
        go_wp2_with fail
        go_roundw
        case rel => exact ⟨k + 1, A, c, by omega, by have := HPE.out; congr 1; omega, by rw [HX.out], by rw [HX.out]; exact own_drewN O.out _, bdDNr BB.out _⟩
        case measure => have := HPE.out; simp [intOf]; omega
      · have x1 : ((((s[p]'hp).toNat : Nat) : Int) == (((s[p + 1]'hp1).toNat : Nat) : Int)) = false := by rw [beq_eq_false_iff_ne]; omega
        have x2 : ((s[p]'hp).toNat == (s[p + 1]'hp1).toNat) = false := by rw [beq_eq_false_iff_ne]; exact he
        rw [decide_eq_false he] at hO
        have HX := Lib.hid (show xgL u h (k + 1) = xgL u h k ++ [xg u p] by rw [HN.out, hO]; simp)
        have HXl := Lib.hid (show (xgL u h (k + 1)).length = (xgL u h k).length + 1 by rw [HX.out, List.length_append]; rfl)
        have HT := Lib.hid (show tsl (xgL u h (k + 1)) = tsl (xgL u h k) ++ [.string (sL (xg u p))] by rw [HX.out, tsl_app]; rfl)
        have q3 : (((p + 1 : Nat) : Nat) : Int) = (p : Int) + 1 := by omega
        simp only [q3] at hR2
        generalize sL (xg u p) = r2 at *
        generalize (xgL u h k).length = n at *
        generalize tsl (xgL u h k) = T at *
        clear he hO q3
        go_wp2_with fail
        go_quiet (fail)
        go_wp2_with fail
        go_region_held3 (fun w' => TrvN w') (exact trvN _) ((first
          | (have hO1' := O1.out; clear hO1'; go_at_call 77; refine (hR2.out _).mono ?_; rintro e w2 ⟨rfl, hb⟩; have O2 := Lib.hid (own_below O1.out hb); have B2 := Lib.hid (B1.out.trans (hb.mono B1.out.size)); clear hb)
          | (go_at_call 77; refine (hR1.out _).mono ?_; rintro e w1 ⟨rfl, hb⟩; have O1 := Lib.hid (own_below (own_drewN O.out _) hb); have B1 := Lib.hid ((bdDNr BB.out _).trans (hb.mono BB.out.size)); clear hb)
          | ((refine step_app eTx rfl (.tmp 23) (.tmp 37) rfl rfl (w0 := w) (O2.out.alloc _) (B2.out.alloc B2.out.size (.cells #[.string r2] 9)) (size_alloc' B2.out.size _) rfl (Rd.one w2 (.string r2) 9 (Nat.lt_succ_self _)) (by simp) (txts_one [r2]) (n + 1) rfl (by omega) ?_); intro A8 c8 w8 o8 b8 g8 h8; have HB8 := Lib.hid b8; have HO8 := Lib.hid o8; clear o8 b8 g8 h8)
          | fail))
        all_goals (
          go_wp2_with fail
          go_roundw
          case rel => exact ⟨k + 1, A8, c8, by omega, by have := HPE.out; congr 1; omega, by rw [HXl.out], by rw [HXl.out, HT.out]; exact HO8.out, HB8.out⟩
          case measure => have := HPE.out; simp [intOf]; omega)
    · obtain rfl : k = 5 := by omega
      have i1 : decide ((h : Int) + 5 + 1 < (s.size : Int)) = false := decide_eq_false (by have := HH.out; omega)
      have i2 : (h : Int) + 5 + 1 = (s.size : Int) := by have := HH.out; omega
      go_wp2_with fail
      go_ret
      exact ⟨A, c, rfl, Rd.of_own O.out, BB.out⟩
end Go.Proofs.YtoenecgjiejljaaDoor
namespace Go.Proofs.YtoenecgjiejljaaDoor
open Go.RowKit
set_option linter.unusedVariables false

/-- The tables of package ring, as the walks read them. -/
structure TabsR (w : World) : Prop where
  prod : ∀ x y : Int, 0 ≤ x → x ≤ 9 → 0 ≤ y → y ≤ 9 → w.cell? ⟨0, x.toNat * 10 + y.toNat, none⟩ = some (.int .i64 (mulD x y))
  turn : ∀ x : Int, 0 ≤ x → x ≤ 9 → w.cell? ⟨1, x.toNat, none⟩ = some (.int .i64 (trnD x))
  size : 2 ≤ w.heap.size

theorem TabsR.below {B : Nat} {w w' : World} (h : TabsR w) (hb : Below B w w') (h2 : 2 ≤ B) : TabsR w' :=
  ⟨fun x y a b c d => (hb.cell (p := ⟨0, _, none⟩) (by show 0 < B; omega)).trans (h.prod x y a b c d),
   fun x a b => (hb.cell (p := ⟨1, _, none⟩) (by show 1 < B; omega)).trans (h.turn x a b), Nat.le_trans h.size hb.size⟩
theorem TabsR.below' {w w' : World} (h : TabsR w) (hb : Below w.heap.size w w') : TabsR w' := h.below hb h.size

theorem isDigit_yes (x : Int) (w : World) (h : Dig x) :
    Calls Tryd.prog 104 #[.int .i64 x] w fun e w' => e = .returned (.bool true) ∧ w = w' := by
  obtain ⟨h0, h9⟩ := h
  go_enter Tryd.func104, Tryd.ntmps104
  go_wp2
  go_ret
  exact ⟨rfl, rfl⟩
theorem isDigit_no (x : Int) (w : World) (h : isDig x = false) :
    Calls Tryd.prog 104 #[.int .i64 x] w fun e w' => e = .returned (.bool false) ∧ w = w' := by
  rcases isDig_not.1 h with h' | h'
  · clear h
    go_enter Tryd.func104, Tryd.ntmps104
    go_wp2
    go_ret
    exact ⟨rfl, rfl⟩
  · clear h
    have hd : decide (x ≤ 9) = false := by simp; omega
    go_enter Tryd.func104, Tryd.ntmps104
    go_wp2
    go_ret
    exact ⟨by rw [← hd]; rfl, rfl⟩
theorem Times_ok (x y : Int) (w : World) (hx : Dig x) (hy : Dig y) (ht : TabsR w) :
    Calls Tryd.prog 49 #[.int .i64 x, .int .i64 y] w fun e w' => e = .returned (.tuple #[.int .i64 (mulD x y), .int .i64 0]) ∧ w = w' := by
  have hc := ht.prod x y hx.1 hx.2 hy.1 hy.2
  have Hx := Lib.hid hx
  have Hy := Lib.hid hy
  obtain ⟨h0, h9⟩ := hx
  obtain ⟨g0, g9⟩ := hy
  clear ht
  go_enter Tryd.func49, Tryd.ntmps49
  go_wp2_with fail
  refine (isDigit_yes _ _ Hx.out).mono ?_
  rintro e w' ⟨rfl, rfl⟩
  go_wp2_with fail
  refine (isDigit_yes _ _ Hy.out).mono ?_
  rintro e w' ⟨rfl, rfl⟩
  go_wp2_with fail
  go_ret2
  exact ⟨rfl, rfl⟩
theorem Times_bad (x y : Int) (w : World) (h : isDig x = false ∨ isDig y = false) :
    Calls Tryd.prog 49 #[.int .i64 x, .int .i64 y] w fun e w' => e = .returned (.tuple #[.int .i64 0, .int .i64 1]) ∧ w = w' := by
  by_cases hx : isDig x = false
  · have Hx := Lib.hid hx
    clear h hx
    go_enter Tryd.func49, Tryd.ntmps49
    go_wp2_with (go_at_call 104; refine (isDigit_no _ _ Hx.out).mono ?_; rintro e w' ⟨rfl, rfl⟩)
    go_ret2
    exact ⟨rfl, rfl⟩
  · have Hx := Lib.hid (isDig_iff.1 (by simpa using hx))
    have Hy := Lib.hid (h.resolve_left hx)
    clear h hx
    go_enter Tryd.func49, Tryd.ntmps49
    go_wp2_with fail
    refine (isDigit_yes _ _ Hx.out).mono ?_
    rintro e w' ⟨rfl, rfl⟩
    go_wp2_with fail
    refine (isDigit_no _ _ Hy.out).mono ?_
    rintro e w' ⟨rfl, rfl⟩
    go_wp2_with fail
    go_ret2
    exact ⟨rfl, rfl⟩
theorem inv_lt {x y : Int} (hx : Dig x) (h0 : 0 ≤ y) (h : y < invD x) : mulD x y ≠ 0 := by
  have hi := dig_inv hx
  intro e
  have := (mul_eq_zero hx (y := y) ⟨h0, by have := hi.2; omega⟩).1 e
  omega
theorem undo_ok (x : Int) (w : World) (hx : Dig x) (ht : TabsR w) :
    Calls Tryd.prog 115 #[.int .i64 x] w fun e w' => e = .returned (.int .i64 (invD x)) ∧ w = w' := by
  have Hx := Lib.hid hx
  have HT := Lib.hid ht
  obtain ⟨h0, h9⟩ := hx
  clear ht
  obtain ⟨i0, i9⟩ := dig_inv Hx.out
  go_enter Tryd.func115, Tryd.ntmps115
  go_wp2
  go_loop [3] (fun y => ∃ k : Int, 0 ≤ k ∧ k ≤ invD x ∧ y = .int .i64 k) (fun y => (invD x - intOf y).toNat)
  case atStart => exact ⟨0, by omega, by omega, rfl⟩
  case round =>
    obtain ⟨k, hk0, hk, rfl⟩ := hrel
    have hc := HT.out.prod x k h0 h9 hk0 (by omega)
    by_cases hlt : k < invD x
    · have hne : (mulD x k == 0) = false := by simpa using inv_lt Hx.out hk0 hlt
      have hne' : (mulD x k != 0) = true := by simpa using inv_lt Hx.out hk0 hlt
      go_wp2
      go_round
      case rel => exact ⟨k + 1, by omega, by omega, rfl⟩
      case measure => simp [intOf]; omega
    · obtain rfl : k = invD x := by omega
      have hz : mulD x (invD x) = 0 := mul_inv Hx.out
      rw [hz] at hc
      clear hz
      go_wp2
      go_ret
      exact ⟨rfl, rfl⟩
end Go.Proofs.YtoenecgjiejljaaDoor
