/-
  Sets of places: the walks of isSet, gather, has, meets, liesIn, list of package lure; of within, isSet, bits, list of the reference; SameInts, Has. No condition.
-/
import Derived.Test.YtldepjpalhmpnaaGme
import Derived.Test.YtldepjpalhmpnaaLb3
import Derived.Test.YtldepjpalhmpnaaChecked
import Derived.Deep.QuietTactic
import Derived.BigQuiet
namespace Go.Proofs.Ytldepjpalhmpnaa
open Go.RowKit
set_option linter.unusedVariables false

theorem Try.eInt : Elem Try.prog 22 3 (.int .i64 0) 1 8 := ⟨Try.underlying22, by kernel_rfl, rfl, by decide, by decide⟩
/-- A list in new memory; a list and an error. -/
def Fresh (w : World) (A : Option Addr) : Prop := ∀ ad, A = some ad → w.heap.size ≤ ad.block
theorem own_fresh {w w0 : World} {n c base : Nat} {A : Option Addr} {e : TypeId} {size : Nat} {xs : List Value} (h : w.ownsRow base e size (.slice A n c) n xs) (hb : w0.heap.size ≤ base) : Fresh w0 A := by
  intro ad ha
  rcases h.2 with ⟨hv, h0⟩ | ⟨g, cap, cur, hv, hbg, hg, rest⟩
  · injection hv with h1
    rw [ha] at h1
    cases h1
  · injection hv with h1
    rw [ha] at h1
    cases h1
    exact Nat.le_trans hb hbg
theorem fresh_nil (w : World) : Fresh w none := fun _ h => by cases h
theorem fresh_at (w : World) {g : Nat} (h : w.heap.size ≤ g) : Fresh w (some ⟨g, 0, none⟩) := fun _ he => by cases he; exact h
theorem Fresh.le {w w' : World} {A : Option Addr} (h : Fresh w A) (hs : w'.heap.size ≤ w.heap.size) : Fresh w' A := fun ad ha => Nat.le_trans hs (h ad ha)
def MadeI (w : World) (L : List Int) (e : Ending) (w' : World) : Prop := ∃ A c, e = .returned (.slice A L.length c) ∧ L.length ≤ c ∧ Fresh w A ∧ Rd w' w'.heap.size A (ints L) ∧ Below w.heap.size w w'
def MadeIE (w : World) (L : List Int) (E : Int) (e : Ending) (w' : World) : Prop := ∃ A c, e = .returned (.tuple #[.slice A L.length c, .int .i64 E]) ∧ L.length ≤ c ∧ Fresh w A ∧ Rd w' w'.heap.size A (ints L) ∧ Below w.heap.size w w'
def lst (x : Nat) : List Int := listK x.testBit 16
theorem lst_le (x : Nat) : (lst x).length ≤ 16 := listK_le _ _
theorem prv_ge {lim : Int} {L : List Int} {k : Nat} (h : ∀ j, j < k → okI lim L j = true) : -1 ≤ prv L k := by
  unfold prv
  by_cases hk : k = 0
  · rw [if_pos hk]; omega
  · rw [if_neg hk]
    have := ok_pos (lim := lim) (L := L) (k := k - 1) fun j hj => h j (by omega)
    omega
set_option maxRecDepth 4000 in
theorem isSet_any (A : Option Addr) (c : Nat) (L : List Int) (lim : Int) (w : World) (hr : Rd w w.heap.size A (ints L)) (hn : L.length ≤ 9223372036854775807) (hlim : lim ≤ 9223372036854775807) :
    Calls Try.prog 28 #[.slice A L.length c, .int .i64 lim] w fun e w' => e = .returned (.bool (setL lim L)) ∧ w = w' := by
  have HR := Lib.hid hr
  clear hr
  go_enter Try.func28, Try.ntmps28
  go_wp2
  go_loop [5, 10] (fun v i => ∃ k : Nat, k ≤ L.length ∧ i = .int .i64 k ∧ v = .int .i64 (prv L k + 1) ∧ ∀ j, j < k → okI lim L j = true) (fun _ i => L.length - (intOf i).toNat)
  case atStart => exact ⟨0, by omega, rfl, rfl, fun j hj => by omega⟩
  case round =>
    obtain ⟨k, hk, rfl, rfl, hall⟩ := hrel
    have HA := Lib.hid hall
    clear hall
    by_cases hlt : k < L.length
    · obtain ⟨b, o, d, rfl, hd, hc⟩ := HR.out.int k hlt
      have HP := Lib.hid (prv_next hd.out)
      have hP0 := prv_ge (lim := lim) HA.out
      have hok : okI lim L k = (decide (prv L k < d) && decide (d < lim)) := by unfold okI; rw [getD_at hd.out]
      have HB := Lib.hid (fun h => setL_bad (lim := lim) hlt h)
      have HO := Lib.hid (show okI lim L k = true → ∀ j, j < k + 1 → okI lim L j = true from fun h j hj => by
        rcases Nat.lt_or_ge j k with h1 | h1
        · exact HA.out j h1
        · obtain rfl : j = k := by omega
          exact h)
      generalize prv L k = P at *
      by_cases h1 : P < d
      · have e1 : decide (d < P + 1) = false := by simp; omega
        by_cases h2 : d < lim
        · have e2 : decide (lim ≤ d) = false := by simp; omega
          have HN := Lib.hid (HO.out (by rw [hok, decide_eq_true h1, decide_eq_true h2]; rfl))
          have e3 : IntKind.i64.wrap (d + 1) = d + 1 := by rw [IntKind.wrap_i64]; omega
          clear h1 h2 hok hP0
          go_wp2_with fail
          go_round
          case rel => exact ⟨k + 1, by omega, by go_num, by rw [HP.out], HN.out⟩
          case measure => simp [intOf]; omega
        · have e2 : decide (lim ≤ d) = true := by simp; omega
          have HE := Lib.hid (HB.out (by rw [hok, decide_eq_true h1, decide_eq_false h2]; rfl))
          clear h1 h2 hok hP0
          go_wp2_with fail
          go_ret
          exact ⟨by rw [HE.out]; rfl, rfl⟩
      · have e1 : decide (d < P + 1) = true := by simp; omega
        have HE := Lib.hid (HB.out (by rw [hok, decide_eq_false h1]; rfl))
        clear h1 hok hP0
        go_wp2_with fail
        go_ret
        exact ⟨by rw [HE.out]; rfl, rfl⟩
    · have hks : k = L.length := by omega
      subst hks
      have HE := Lib.hid (setL_ok HA.out)
      go_wp2_with fail
      go_ret
      exact ⟨by rw [HE.out]; rfl, rfl⟩
set_option maxRecDepth 4000 in
theorem gather_any (A : Option Addr) (c : Nat) (L : List Int) (lim : Int) (w : World) (hr : Rd w w.heap.size A (ints L)) (hn : L.length ≤ 9223372036854775807) (hs : setL lim L = true) (hlim : lim ≤ 31) :
    Calls Try.prog 22 #[.slice A L.length c] w fun e w' => e = .returned (.int .u32 (gatN L : Nat)) ∧ w = w' := by
  have HR := Lib.hid hr
  have HS := Lib.hid hs
  clear hr hs
  go_enter Try.func22, Try.ntmps22
  go_wp2
  go_loop [3, 8] (fun v i => ∃ k : Nat, k ≤ L.length ∧ i = .int .i64 k ∧ v = .int .u32 (gatN (L.take k) : Nat)) (fun _ i => L.length - (intOf i).toNat)
  case atStart => exact ⟨0, by omega, rfl, by rw [show gatN (L.take 0) = 0 from bitK_zero fun j _ => rfl]; rfl⟩
  case round =>
    obtain ⟨k, hk, rfl, rfl⟩ := hrel
    by_cases hlt : k < L.length
    · obtain ⟨b, o, d, rfl, hd, hc⟩ := HR.out.int k hlt
      have hdl := set_in HS.out hd.out
      obtain ⟨n, rfl⟩ := Int.eq_ofNat_of_zero_le hdl.1
      have HN := Lib.hid (gat_next hd.out (by omega))
      have HSh := Lib.hid (shl_u32 (k := n) (by omega))
      have hgl : gatN (L.take k) < 4294967296 := bit32 _
      generalize gatN (L.take k) = G at *
      have b0 : (0 : Int) ≤ (n : Int) := by omega
      have b1 : (n : Int) < 32 := by omega
      clear hdl
      go_wp2_with fail
      go_round
      case rel => exact ⟨k + 1, by omega, by go_num, by rw [HSh.out, HN.out]⟩
      case measure => simp [intOf]; omega
    · have hks : k = L.length := by omega
      subst hks
      have hl : gatN (L.take L.length) = gatN L := by rw [List.take_length]
      rw [hl]
      clear hl
      go_wp2_with fail
      go_ret
      exact ⟨rfl, rfl⟩
theorem has_any (x n : Nat) (w : World) (hx : x < 4294967296) (hn : n < 32) :
    Calls Try.prog 32 #[.int .u32 x, .int .i64 n] w fun e w' => e = .returned (.bool (x.testBit n)) ∧ w = w' := by
  have h := shr_eq x n hx
  have h0 : (0 : Int) ≤ (n : Int) := by omega
  have h1 : (n : Int) < 32 := by omega
  go_enter Try.func32, Try.ntmps32
  go_wp2
  go_ret
  exact ⟨rfl, rfl⟩
def mtB (x y : Nat) : Bool := !decide (x &&& y = 0)
def liB (x y : Nat) : Bool := decide (x &&& (4294967295 - y) = 0)
theorem meets_any (x y : Nat) (w : World) (hx : x < 4294967296) (hy : y < 4294967296) :
    Calls Try.prog 33 #[.int .u32 x, .int .u32 y] w fun e w' => e = .returned (.bool (mtB x y)) ∧ w = w' := by
  have h : (bits .and .u32 (x : Int) (y : Int) != 0) = mtB x y := by
    rw [u32_and_nat _ _ hx hy]
    unfold mtB
    by_cases hz : x &&& y = 0
    · rw [hz]; rfl
    · rw [decide_eq_false hz]
      show _ = true
      rw [bne_iff_ne]
      intro h2
      exact hz (by exact_mod_cast h2)
  generalize mtB x y = B at *
  go_enter Try.func33, Try.ntmps33
  go_wp2
  go_ret
  exact ⟨rfl, rfl⟩
theorem liesIn_any (x y : Nat) (w : World) (hx : x < 4294967296) (hy : y < 4294967296) :
    Calls Try.prog 34 #[.int .u32 x, .int .u32 y] w fun e w' => e = .returned (.bool (liB x y)) ∧ w = w' := by
  have h : (bits .andNot .u32 (x : Int) (y : Int) == 0) = liB x y := by
    rw [u32_andNot_nat _ _ hx hy]
    unfold liB
    by_cases hz : x &&& (4294967295 - y) = 0
    · rw [hz]; rfl
    · rw [decide_eq_false hz, beq_eq_false_iff_ne]
      intro h2
      exact hz (by exact_mod_cast h2)
  generalize liB x y = B at *
  go_enter Try.func34, Try.ntmps34
  go_wp2
  go_ret
  exact ⟨rfl, rfl⟩
set_option maxRecDepth 4000 in
theorem list_any (x : Nat) (w : World) (hx : x < 4294967296) :
    Calls Try.prog 23 #[.int .u32 x] w (MadeI w (lst x)) := by
  have HH := Lib.hid (fun n w hn => has_any x n w hx hn)
  have HL := Lib.hid (fun k => listK_le x.testBit k)
  have HY := Lib.hid (fun k h => listK_yes (f := x.testBit) (k := k) h)
  have HN := Lib.hid (fun k h => listK_no (f := x.testBit) (k := k) h)
  have HE := Lib.hid (show lst x = listK x.testBit 16 from rfl)
  go_enter Try.func23, Try.ntmps23
  go_wp2_with fail
  go_loopw [3, 5] (fun v i wr => ∃ (k : Nat) (A9 : Option Addr) (c9 : Nat), k ≤ 16 ∧ i = .int .i64 k ∧ v = .slice A9 (listK x.testBit k).length c9 ∧ wr.ownsRow w.heap.size 3 1 v (listK x.testBit k).length (ints (listK x.testBit k)) ∧ Below w.heap.size w wr) (fun _ i _ => 16 - (intOf i).toNat)
  case atStart => exact ⟨0, none, 0, by omega, rfl, rfl, World.ownsRow_nil _ _ _ _, Below.refl _ _⟩
  case round =>
    obtain ⟨k, A9, c9, hk, rfl, rfl, hown, hb⟩ := hrel
    have O := Lib.hid hown
    have BW := Lib.hid hb
    clear hown hb
    by_cases hlt : k < 16
    · have hle := HL.out k
      have HQ := Lib.hid (fun w => HH.out k w (by omega))
      cases hq : x.testBit k
      · have HS := Lib.hid (HN.out k hq)
        rw [hq] at HQ
        clear hq
        generalize listK x.testBit k = L at *
        go_wp2_with fail
        refine (HQ.out wr).mono ?_
        rintro e w' ⟨rfl, rfl⟩
        go_wp2_with fail
        go_roundw
        case rel => exact ⟨k + 1, A9, c9, by omega, by go_num, by rw [HS.out], by rw [HS.out]; exact O.out, BW.out⟩
        case measure => simp [intOf]; omega
      · have HS := Lib.hid (HY.out k hq)
        rw [hq] at HQ
        clear hq
        generalize listK x.testBit k = L at *
        go_wp2_with fail
        refine (HQ.out wr).mono ?_
        rintro e w' ⟨rfl, rfl⟩
        go_wp2_with (at_builtin; refine app Try.eInt rfl _ _ rfl rfl (O.out.alloc _) (BW.out.alloc BW.out.size _) (size_alloc' BW.out.size _) rfl (Rd.one wr (.int .i64 k) 3 (Nat.lt_succ_self _)) (by simp) (ints_one [(k : Int)]) (L.length + 1) rfl (by omega) ?_; intro A4 c4 w4 o4 b4 _ _; have O4 := Lib.hid o4; have B4 := Lib.hid b4; clear o4 b4)
        go_roundw
        case rel => exact ⟨k + 1, A4, c4, by omega, by go_num, by rw [HS.out, List.length_append]; rfl, by rw [HS.out, ints_append, List.length_append]; exact O4.out, B4.out⟩
        case measure => simp [intOf]; omega
    · obtain rfl : k = 16 := by omega
      have hown := O.out
      obtain ⟨A8, c8, he, hc8⟩ := own_form hown
      have hc : (listK x.testBit 16).length ≤ c9 := by injection he with h1 h2 h3; omega
      clear hown he
      go_wp2_with fail
      go_ret
      exact ⟨A9, c9, by rw [HE.out]; rfl, by rw [HE.out]; exact hc, own_fresh O.out (Nat.le_refl _), by rw [HE.out]; exact Rd.of_own O.out, BW.out⟩
end Go.Proofs.Ytldepjpalhmpnaa
