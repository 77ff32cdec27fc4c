/-
  The walks of isWithin, within, IsPoint, arePoints, side, meet, parted of package screen and of the reference. No condition.
-/
import Derived.Test.YtcefcpplkcebjaaPnt
import Derived.Test.YtcefcpplkcebjaaProg
import Derived.WalkKit
import Derived.WalkLawsBesides
import Derived.WalkSpells
import Derived.Handy
import Derived.BigQuiet
import Derived.IntWalk
import Derived.Lib.MinMax
import Derived.Deep.Light
namespace Go.Proofs.Ytcefcpplkcebjaa
open Go.RowKit
set_option linter.unusedVariables false

theorem bcell {W w1 : World} (hb : Below W.heap.size W w1) : (∀ b o, b < W.heap.size → w1.cell? ⟨b, o, none⟩ = W.cell? ⟨b, o, none⟩) ∧ (∀ b o, b < W.heap.size → w1.frozen? ⟨b, o, none⟩ = W.frozen? ⟨b, o, none⟩) :=
  ⟨fun b o h => hb.cell (p := ⟨b, o, none⟩) h, fun b o h => hb.frozen (p := ⟨b, o, none⟩) h⟩
theorem isWithin_any (n : Int) (w : World) : Calls Try.prog 81 #[.int .i64 n, .int .i64 100] w fun e w' => e = .returned (.bool (okC n)) ∧ w = w' := by
  unfold okC
  cases h1 : decide (-100 ≤ n) <;> cases h2 : decide (n ≤ 100)
  all_goals
    go_enter Try.func81, Try.ntmps81
    go_wp2
    go_ret
    exact ⟨rfl, rfl⟩
theorem within_any (n : Int) (w : World) : Calls Try.prog 84 #[.int .i64 n, .int .i64 (-100), .int .i64 100] w fun e w' => e = .returned (.bool (okC n)) ∧ w = w' := by
  unfold okC
  cases h1 : decide (-100 ≤ n) <;> cases h2 : decide (n ≤ 100)
  all_goals
    go_enter Try.func84, Try.ntmps84
    go_wp2
    go_ret
    exact ⟨rfl, rfl⟩
theorem IsPoint_any (p : Pt) (w : World) : Calls Try.prog 60 #[p.v] w fun e w' => e = .returned (.bool (okP p)) ∧ Below w.heap.size w w' := by
  obtain ⟨x, y⟩ := p
  unfold Pt.v okP
  simp only
  have HX := Lib.hid (fun w => within_any x w)
  have HY := Lib.hid (fun w => within_any y w)
  generalize okC x = cx at *
  generalize okC y = cy at *
  have B := Lib.hid ((Below.refl w.heap.size w).alloc (Nat.le_refl _) (.cells #[.int .i64 x, .int .i64 y] 23))
  cases cx
  · go_enter Try.func60, Try.ntmps60
    go_wp2_with fail
    refine (HX.out _).mono ?_
    rintro e w' ⟨rfl, rfl⟩
    go_wp2_with fail
    go_ret
    exact ⟨rfl, B.out⟩
  · go_enter Try.func60, Try.ntmps60
    go_wp2_with fail
    refine (HX.out _).mono ?_
    rintro e w' ⟨rfl, rfl⟩
    go_wp2_with fail
    refine (HY.out _).mono ?_
    rintro e w' ⟨rfl, rfl⟩
    go_wp2_with fail
    go_ret
    exact ⟨rfl, B.out⟩
theorem side_any (a b p : Pt) (w : World) (ha : okP a = true) (hb : okP b = true) (hp : okP p = true) : Calls Try.prog 89 #[a.v, b.v, p.v] w fun e w' => e = .returned (.int .i64 (side a b p)) ∧ Below w.heap.size w w' := by
  obtain ⟨⟨h1, h1'⟩, ⟨h2, h2'⟩, ⟨h3, h3'⟩, ⟨h4, h4'⟩, ⟨h5, h5'⟩, ⟨h6, h6'⟩, _⟩ := side_le ha hb hp
  clear ha hb hp
  obtain ⟨ax, ay⟩ := a
  obtain ⟨bx, bz⟩ := b
  obtain ⟨px, py⟩ := p
  unfold Pt.v side
  simp only at *
  go_enter Try.func89, Try.ntmps89
  go_wp2
  go_ret
  exact ⟨rfl, (((Below.refl _ _).alloc (Nat.le_refl _) _).alloc (by simp) _).alloc (by simp; omega) _⟩
theorem rside_any (a b p : Pt) (w : World) (ha : okP a = true) (hb : okP b = true) (hp : okP p = true) : Calls Try.prog 91 #[a.v, b.v, p.v] w fun e w' => e = .returned (.int .i64 (side a b p)) ∧ Below w.heap.size w w' := by
  obtain ⟨⟨h1, h1'⟩, ⟨h2, h2'⟩, ⟨h3, h3'⟩, ⟨h4, h4'⟩, ⟨h5, h5'⟩, ⟨h6, h6'⟩, _⟩ := side_le ha hb hp
  clear ha hb hp
  obtain ⟨ax, ay⟩ := a
  obtain ⟨bx, bz⟩ := b
  obtain ⟨px, py⟩ := p
  unfold Pt.v side
  simp only at *
  go_enter Try.func91, Try.ntmps91
  go_wp2
  go_ret
  exact ⟨rfl, (((Below.refl _ _).alloc (Nat.le_refl _) _).alloc (by simp) _).alloc (by simp; omega) _⟩
theorem meet_any (a b c d : Int) (w : World) : Calls Try.prog 88 #[.int .i64 a, .int .i64 b, .int .i64 c, .int .i64 d] w fun e w' => e = .returned (.bool (meetI a b c d)) ∧ w = w' := by
  unfold meetI
  go_enter Try.func88, Try.ntmps88
  go_wp2
  go_ret
  exact ⟨rfl, rfl⟩
theorem parted_any (a b c d : Int) (w : World) : Calls Try.prog 90 #[.int .i64 a, .int .i64 b, .int .i64 c, .int .i64 d] w fun e w' => e = .returned (.bool (!meetI a b c d)) ∧ w = w' := by
  have hm : (!meetI a b c d) = (decide (max a b < min c d) || decide (max c d < min a b)) := by
    unfold meetI; rw [Bool.eq_iff_iff]; simp; omega
  rw [hm]
  clear hm
  cases h1 : decide (max a b < min c d) <;> cases h2 : decide (max c d < min a b)
  all_goals
    go_enter Try.func90, Try.ntmps90
    go_wp2
    go_ret
    exact ⟨rfl, rfl⟩

def allP (l : List Pt) : Bool := l.all okP
theorem allP_bad {l : List Pt} {k : Nat} {p : Pt} (hx : l[k]? = some p) (h : okP p = false) : allP l = false := by
  unfold allP
  rw [List.all_eq_false]
  exact ⟨p, List.mem_of_getElem? hx, by simp [h]⟩
theorem allP_ok {l : List Pt} (h : ∀ (j : Nat) p, j < l.length → l[j]? = some p → okP p = true) : allP l = true := by
  refine List.all_eq_true.2 fun p hp => ?_
  obtain ⟨j, hj, he⟩ := List.getElem_of_mem hp
  exact h j p hj (by rw [← he]; exact List.getElem?_eq_getElem hj)
theorem Rd.pt {w : World} {B : Nat} {A : Option Addr} {l : List Pt} (h : Rd w B A (l.flatMap Pt.cells)) (k : Nat) (hk : k < l.length) :
    ∃ b o p, A = some ⟨b, o, none⟩ ∧ Hid (l[k]? = some p) ∧ w.cell? ⟨b, o + k * 2, none⟩ = some (.int .i64 p.x) ∧ w.cell? ⟨b, o + k * 2 + 1, none⟩ = some (.int .i64 p.y) := by
  obtain ⟨b, o, p, ha, _, hx, hc⟩ := h.rec ptLen (by decide) k hk
  exact ⟨b, o, p, ha, hx, hc 0 _ rfl, hc 1 _ rfl⟩
set_option maxHeartbeats 400000 in
theorem arePoints_any (A : Option Addr) (c : Nat) (l : List Pt) (n : Nat) (w : World) (hl : l.length = n) (hr : Rd w w.heap.size A (l.flatMap Pt.cells)) (hn : n ≤ 9223372036854775807) :
    Calls Try.prog 50 #[.slice A n c] w fun e w' => e = .returned (.bool (allP l)) ∧ Below w.heap.size w w' := by
  subst hl
  have HR := Lib.hid hr
  clear hr
  go_enter Try.func50, Try.ntmps50
  go_wp2
  go_loopw [7] (fun i wr => ∃ k : Nat, k ≤ l.length ∧ i = .int .i64 k ∧ (∀ (j : Nat) p, j < k → l[j]? = some p → okP p = true) ∧ Below w.heap.size w wr) (fun i _ => l.length - (intOf i).toNat)
  case atStart => exact ⟨0, by omega, rfl, fun j p hj => by omega, Below.refl _ _⟩
  case round =>
    obtain ⟨k, hk, rfl, hall, hb⟩ := hrel
    have HA := Lib.hid hall
    have B := Lib.hid hb
    clear hall hb
    by_cases hlt : k < l.length
    · obtain ⟨b, o, ⟨x, y⟩, rfl, hx, c0, c1⟩ := (HR.out.below B.out (Nat.le_refl _)).pt k hlt
      simp only at c0 c1
      have B2 := Lib.hid (B.out.alloc B.out.size (.cells #[.int .i64 x, .int .i64 y] 23))
      have HX := Lib.hid (fun w => isWithin_any x w)
      have HY := Lib.hid (fun w => isWithin_any y w)
      have HO := Lib.hid (show okP ⟨x, y⟩ = (okC x && okC y) from rfl)
      generalize okC x = cx at *
      generalize okC y = cy at *
      cases cx
      · go_wp2_with fail
        refine (HX.out _).mono ?_
        rintro e w' ⟨rfl, rfl⟩
        go_wp2_with fail
        go_ret
        exact ⟨by rw [allP_bad hx.out HO.out]; rfl, B2.out⟩
      · cases cy
        · go_wp2_with fail
          refine (HX.out _).mono ?_
          rintro e w' ⟨rfl, rfl⟩
          go_wp2_with fail
          refine (HY.out _).mono ?_
          rintro e w' ⟨rfl, rfl⟩
          go_wp2_with fail
          go_ret
          exact ⟨by rw [allP_bad hx.out HO.out]; rfl, B2.out⟩
        · go_wp2_with fail
          refine (HX.out _).mono ?_
          rintro e w' ⟨rfl, rfl⟩
          go_wp2_with fail
          refine (HY.out _).mono ?_
          rintro e w' ⟨rfl, rfl⟩
          go_wp2_with fail
          go_roundw
          case rel => exact ⟨k + 1, by omega, by go_num, fun j p hj hp => by
            rcases Nat.lt_or_ge j k with h | h
            · exact HA.out j p h hp
            · obtain rfl : j = k := by omega
              rw [hx.out] at hp
              cases hp
              exact HO.out, B2.out⟩
          case measure => simp [intOf]; omega
    · have hks : k = l.length := by omega
      have HK := Lib.hid hks
      clear hks
      go_wp2_with fail
      go_ret
      exact ⟨by rw [allP_ok (by rw [← HK.out]; exact HA.out)]; rfl, B.out⟩
set_option maxHeartbeats 400000 in
theorem rarePoints_any (A : Option Addr) (c : Nat) (l : List Pt) (n : Nat) (w : World) (hl : l.length = n) (hr : Rd w w.heap.size A (l.flatMap Pt.cells)) (hn : n ≤ 9223372036854775807) :
    Calls Try.prog 52 #[.slice A n c] w fun e w' => e = .returned (.bool (allP l)) ∧ Below w.heap.size w w' := by
  subst hl
  have HR := Lib.hid hr
  clear hr
  go_enter Try.func52, Try.ntmps52
  go_wp2
  go_loopw [3] (fun i wr => ∃ k : Nat, k ≤ l.length ∧ i = .int .i64 k ∧ (∀ (j : Nat) p, j < k → l[j]? = some p → okP p = true) ∧ Below w.heap.size w wr) (fun i _ => l.length - (intOf i).toNat)
  case atStart => exact ⟨0, by omega, rfl, fun j p hj => by omega, Below.refl _ _⟩
  case round =>
    obtain ⟨k, hk, rfl, hall, hb⟩ := hrel
    have HA := Lib.hid hall
    have B := Lib.hid hb
    clear hall hb
    by_cases hlt : k < l.length
    · obtain ⟨b, o, p, rfl, hx, c0, c1⟩ := (HR.out.below B.out (Nat.le_refl _)).pt k hlt
      have HP := Lib.hid (fun w => IsPoint_any p w)
      unfold Pt.v at HP
      cases hp : okP p
      · rw [hp] at HP
        have HO := Lib.hid hp
        clear hp
        go_wp2_with fail
        refine (HP.out _).mono ?_
        rintro e w1 ⟨rfl, hb⟩
        have B2 := Lib.hid (B.out.trans (hb.mono B.out.size))
        clear hb
        go_wp2_with fail
        go_ret
        exact ⟨by rw [allP_bad hx.out HO.out]; rfl, B2.out⟩
      · rw [hp] at HP
        have HO := Lib.hid hp
        clear hp
        go_wp2_with fail
        refine (HP.out _).mono ?_
        rintro e w1 ⟨rfl, hb⟩
        have B2 := Lib.hid (B.out.trans (hb.mono B.out.size))
        clear hb
        go_wp2_with fail
        go_roundw
        case rel => exact ⟨k + 1, by omega, by go_num, fun j q hj hq => by
          rcases Nat.lt_or_ge j k with h | h
          · exact HA.out j q h hq
          · obtain rfl : j = k := by omega
            rw [hx.out] at hq
            cases hq
            exact HO.out, B2.out⟩
        case measure => simp [intOf]; omega
    · have hks : k = l.length := by omega
      have HK := Lib.hid hks
      clear hks
      go_wp2_with fail
      go_ret
      exact ⟨by rw [allP_ok (by rw [← HK.out]; exact HA.out)]; rfl, B.out⟩
end Go.Proofs.Ytcefcpplkcebjaa
