/-
  The walks of has, list, runFrom, Arcs of package wind. No condition.
-/
import Derived.Test.YtfokmgogbjifbaaWi5
import Derived.Test.YtfokmgogbjifbaaWb3
import Derived.Test.YtfokmgogbjifbaaStp
namespace Go.Proofs.Ytfokmgogbjifbaa
open Go.RowKit
set_option linter.unusedVariables false

theorem Try.eInt : Elem Try.prog 23 3 (.int .i64 0) 1 8 := ⟨Try.underlying23, by kernel_rfl, rfl, by decide, by decide⟩
theorem Try.eArc : Elem Try.prog 22 37 (.agg #[.int .i64 0, .int .i64 0]) 2 16 := ⟨Try.underlying22, by kernel_rfl, rfl, by decide, by decide⟩
/-- A list in new memory; a list and an error. -/
def MadeI (w : World) (L : List Int) (e : Ending) (w' : World) : Prop := ∃ A c, e = .returned (.slice A L.length c) ∧ L.length ≤ c ∧ Rd w' w'.heap.size A (ints L) ∧ Below w.heap.size w w'
def MadeIE (w : World) (L : List Int) (E : Int) (e : Ending) (w' : World) : Prop := ∃ A c, e = .returned (.tuple #[.slice A L.length c, .int .i64 E]) ∧ L.length ≤ c ∧ Rd w' w'.heap.size A (ints L) ∧ Below w.heap.size w w'
/-- A slice in memory that was not there before. -/
def Fresh (w : World) (A : Option Addr) : Prop := ∀ ad, A = some ad → w.heap.size ≤ ad.block
theorem own_fresh {w w0 : World} {n c base : Nat} {A : Option Addr} {e : TypeId} {size : Nat} {xs : List Value} (h : w.ownsRow base e size (.slice A n c) n xs) (hb : w0.heap.size ≤ base) : Fresh w0 A := by
  intro ad ha
  rcases h.2 with ⟨hv, h0⟩ | ⟨g, cap, cur, hv, hbg, hg, rest⟩
  · injection hv with h1
    rw [ha] at h1
    cases h1
  · injection hv with h1
    rw [ha] at h1
    cases h1
    exact Nat.le_trans hb hbg
theorem fresh_nil (w : World) : Fresh w none := fun _ h => by cases h
theorem fresh_at (w : World) {g : Nat} (h : w.heap.size ≤ g) : Fresh w (some ⟨g, 0, none⟩) := fun _ he => by cases he; exact h
def MadePE (w : World) (L : List Pt) (E : Int) (e : Ending) (w' : World) : Prop := ∃ A c, e = .returned (.tuple #[.slice A L.length c, .int .i64 E]) ∧ L.length ≤ c ∧ Fresh w A ∧ Rd w' w'.heap.size A (L.flatMap Pt.cells) ∧ Below w.heap.size w w'
theorem shr_one (x n : Nat) (hx : x < 4294967296) : bits .and .u32 ((x : Int) / 2 ^ n) 1 = if x.testBit n then 1 else 0 := by
  have e : (x : Int) / 2 ^ n = ((x / 2 ^ n : Nat) : Int) := by simp
  have h := bit_div (n := x) (j := n)
  rw [e, show (1 : Int) = ((1 : Nat) : Int) from rfl, u32_and_nat _ _ (Nat.lt_of_le_of_lt (Nat.div_le_self _ _) hx) (by decide), Nat.and_one_is_mod, h]
  split <;> rfl
theorem shr_eq (x n : Nat) (hx : x < 4294967296) : (bits .and .u32 ((x : Int) / 2 ^ n) 1 == 1) = x.testBit n := by
  rw [shr_one x n hx]
  cases x.testBit n <;> rfl
theorem has_any (x n : Nat) (w : World) (hx : x < 4294967296) (hn : n < 32) :
    Calls Try.prog 21 #[.int .u32 x, .int .i64 n] w fun e w' => e = .returned (.bool (x.testBit n)) ∧ w = w' := by
  have h := shr_eq x n hx
  have h0 : (0 : Int) ≤ (n : Int) := by omega
  have h1 : (n : Int) < 32 := by omega
  go_enter Try.func21, Try.ntmps21
  go_wp2
  go_ret
  exact ⟨rfl, rfl⟩
/-- The value of the method has of a set. -/
def hasV (x : Nat) : Value := .func (.func 21) #[.int .u32 (x : Int)] #[]
set_option maxRecDepth 4000 in
theorem list_any (x : Nat) (w : World) (hx : x < 4294967296) :
    Calls Try.prog 20 #[hasV x] w (MadeI w (listB x.testBit)) := by
  unfold hasV
  have HH := Lib.hid (fun n w hn => has_any x n w hx hn)
  have HL := Lib.hid (fun k => listK_le x.testBit k)
  have HY := Lib.hid (fun k h => listK_yes (f := x.testBit) (k := k) h)
  have HN := Lib.hid (fun k h => listK_no (f := x.testBit) (k := k) h)
  have HE := Lib.hid (show listB x.testBit = listK x.testBit 32 from rfl)
  go_enter Try.func20, Try.ntmps20
  go_wp2_with fail
  go_loopw [3, 5] (fun v i wr => ∃ (k : Nat) (A9 : Option Addr) (c9 : Nat), k ≤ 32 ∧ i = .int .i64 k ∧ v = .slice A9 (listK x.testBit k).length c9 ∧ wr.ownsRow w.heap.size 3 1 v (listK x.testBit k).length (ints (listK x.testBit k)) ∧ Below w.heap.size w wr) (fun _ i _ => 32 - (intOf i).toNat)
  case atStart => exact ⟨0, none, 0, by omega, rfl, rfl, World.ownsRow_nil _ _ _ _, Below.refl _ _⟩
  case round =>
    obtain ⟨k, A9, c9, hk, rfl, rfl, hown, hb⟩ := hrel
    have O := Lib.hid hown
    have BW := Lib.hid hb
    clear hown hb
    by_cases hlt : k < 32
    · have hle := HL.out k
      have HQ := Lib.hid (fun w => HH.out k w hlt)
      cases hq : x.testBit k
      · have HS := Lib.hid (HN.out k hq)
        rw [hq] at HQ
        clear hq
        generalize listK x.testBit k = L at *
        go_wp2_with fail
        refine (HQ.out wr).mono ?_
        rintro e w' ⟨rfl, rfl⟩
        go_wp2_with fail
        go_roundw
        case rel => exact ⟨k + 1, A9, c9, by omega, by go_num, by rw [HS.out], by rw [HS.out]; exact O.out, BW.out⟩
        case measure => simp [intOf]; omega
      · have HS := Lib.hid (HY.out k hq)
        rw [hq] at HQ
        clear hq
        generalize listK x.testBit k = L at *
        go_wp2_with fail
        refine (HQ.out wr).mono ?_
        rintro e w' ⟨rfl, rfl⟩
        go_wp2_with (at_builtin; refine app Try.eInt rfl _ _ rfl rfl (O.out.alloc _) (BW.out.alloc BW.out.size _) (size_alloc' BW.out.size _) rfl (Rd.one wr (.int .i64 k) 3 (Nat.lt_succ_self _)) (by simp) (ints_one [(k : Int)]) (L.length + 1) rfl (by omega) ?_; intro A4 c4 w4 o4 b4 _ _; have O4 := Lib.hid o4; have B4 := Lib.hid b4; clear o4 b4)
        go_roundw
        case rel => exact ⟨k + 1, A4, c4, by omega, by go_num, by rw [HS.out, List.length_append]; rfl, by rw [HS.out, ints_append, List.length_append]; exact O4.out, B4.out⟩
        case measure => simp [intOf]; omega
    · obtain rfl : k = 32 := by omega
      have hown := O.out
      obtain ⟨A8, c8, he, hc8⟩ := own_form hown
      have hc : (listK x.testBit 32).length ≤ c9 := by injection he with h1 h2 h3; omega
      clear hown he
      go_wp2_with fail
      go_ret
      exact ⟨A9, c9, by rw [HE.out]; rfl, by rw [HE.out]; exact hc, by rw [HE.out]; exact Rd.of_own O.out, BW.out⟩
end Go.Proofs.Ytfokmgogbjifbaa
