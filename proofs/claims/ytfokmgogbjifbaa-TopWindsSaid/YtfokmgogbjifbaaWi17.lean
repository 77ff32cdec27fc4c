/-
  How many numbers a set has: the walks of OnesCount32 of the standard library, count. No condition.
-/
import Derived.Test.YtfokmgogbjifbaaWi12
import Derived.Deep.QuietTactic
import Derived.BigQuiet
namespace Go.Proofs.Ytfokmgogbjifbaa
open Go.RowKit
set_option linter.unusedVariables false

def cntK (f : Nat → Bool) : Nat → Nat
  | 0 => 0
  | k + 1 => cntK f k + if f k then 1 else 0
theorem cntK_list (f : Nat → Bool) : ∀ k, (listK f k).length = cntK f k
  | 0 => rfl
  | k + 1 => by
    rw [cntK]
    cases h : f k
    · rw [listK_no h, cntK_list f k]; rfl
    · rw [listK_yes h, List.length_append, cntK_list f k]; rfl
theorem cntK_add (f : Nat → Bool) (a : Nat) : ∀ b, cntK f (a + b) = cntK f a + cntK (fun j => f (a + j)) b
  | 0 => rfl
  | b + 1 => by
    rw [← Nat.add_assoc, cntK, cntK, cntK_add f a b]
    omega
theorem cntK_congr {f g : Nat → Bool} : ∀ {k : Nat}, (∀ j, j < k → f j = g j) → cntK f k = cntK g k
  | 0, _ => rfl
  | k + 1, h => by rw [cntK, cntK, cntK_congr fun j hj => h j (by omega), h k (by omega)]
theorem cntK_le (f : Nat → Bool) : ∀ k, cntK f k ≤ k
  | 0 => Nat.le_refl _
  | k + 1 => by
    have := cntK_le f k
    rw [cntK]
    split <;> omega
def popB (n : Nat) : Nat := cntK n.testBit 8
theorem popB_le (n : Nat) : popB n ≤ 8 := cntK_le _ 8
theorem byte_test {x s j : Nat} (hj : j < 8) : (x / 2 ^ s % 256).testBit j = x.testBit (s + j) := by
  rw [show (256 : Nat) = 2 ^ 8 from rfl, Nat.testBit_mod_two_pow, Nat.testBit_div_two_pow]
  simp [hj, Nat.add_comm]
theorem pop_split {x : Nat} (hx : x < 4294967296) : cntK x.testBit 32 = popB (x / 2 ^ 24) + popB (x / 2 ^ 16 % 256) + popB (x / 2 ^ 8 % 256) + popB (x % 256) := by
  have e : ∀ s, popB (x / 2 ^ s % 256) = cntK (fun j => x.testBit (s + j)) 8 := fun s => cntK_congr fun j hj => byte_test hj
  have h0 : popB (x % 256) = cntK x.testBit 8 := cntK_congr fun j hj => by
    have := byte_test (x := x) (s := 0) hj
    simpa using this
  have h24 := e 24
  rw [Nat.mod_eq_of_lt (by omega)] at h24
  have a1 := cntK_add x.testBit 24 8
  have a2 := cntK_add x.testBit 16 8
  have a3 := cntK_add x.testBit 8 8
  simp only [Nat.reduceAdd] at a1 a2 a3
  rw [h24, e 16, e 8, h0, a1, a2, a3]
  omega
def isTab (s : ByteArray) : Bool := (List.range 256).all fun b => s.data.toList[b]? == some (UInt8.ofNat (popB b))
theorem idx_tab {P : Program} {t : TypeId} (ht : P.underlying t = some .string) {s : ByteArray} (hs : isTab s = true) {n : Nat} (hn : n < 256) (w : World) :
    (Instr.index t (.string s) (.int .u32 (n : Int))).run P w = .ok (.int .u8 ((popB n : Nat) : Int)) w := by
  have h := List.all_eq_true.1 hs n (List.mem_range.2 hn)
  simp only [beq_iff_eq] at h
  have hp := popB_le n
  have hb : s[n]? = some (UInt8.ofNat (popB n)) := by
    have : s.data[n]? = some (UInt8.ofNat (popB n)) := by simpa using h
    obtain ⟨hlt, he⟩ := Array.getElem?_eq_some_iff.1 this
    rw [getElem?_pos s n hlt]
    exact congrArg some he
  have h0 : (0 : Int) ≤ (n : Int) := by omega
  have hu : ((UInt8.ofNat (popB n)).toNat : Int) = ((popB n : Nat) : Int) := by
    simp
    omega
  unfold Instr.index
  simp only [asIntOf, Sem.run_bind, Sem.run_pure, Result.andThen_ok, run_underlying ht w, if_pos h0, Int.toNat_natCast, hb, hu]
theorem quiet_index {P : Program} {C : World → Prop} {K : Act → Prop} {a : Act} {o : Oper} (ty : TypeId) (y x : Operand) (ho : o.op = .index ty y x) (v : Value)
    (hx : ∀ w, (Instr.index ty (a.eval y) (a.eval x)).run P w = .ok v w) (h : K (a.put o.dst v)) : o.quiet P a C K := by
  refine ⟨v, fun w hc => ?_, h⟩
  unfold Oper.quietAt execOp
  simp only [ho, Sem.run_bind, hx w, Result.andThen, Sem.run_pure]
  exact ⟨rfl, rfl⟩
theorem and_255 {y : Nat} (hy : y < 4294967296) : bits .and .u32 (y : Int) 255 = ((y % 256 : Nat) : Int) := by
  have h := u32_and_nat y 255 hy (by decide)
  have e : ((255 : Nat) : Int) = 255 := rfl
  rw [e] at h
  rw [h, show (255 : Nat) = 2 ^ 8 - 1 from rfl, Nat.and_two_pow_sub_one_eq_mod]
set_option maxRecDepth 4000 in
theorem OnesCount32_any (x : Nat) (w : World) (hx : x < 4294967296) :
    Calls Try.prog 34 #[.int .u32 x] w fun e w' => e = .returned (.int .i64 ((listB x.testBit).length : Nat)) ∧ ∃ m, w' = w.drewN m := by
  have hsp := pop_split hx
  have hl := cntK_list x.testBit 32
  have HE := Lib.hid (show (listB x.testBit).length = popB (x / 2 ^ 24) + popB (x / 2 ^ 16 % 256) + popB (x / 2 ^ 8 % 256) + popB (x % 256) from hl.trans hsp)
  have p1 := popB_le (x / 2 ^ 24)
  have p2 := popB_le (x / 2 ^ 16 % 256)
  have p3 := popB_le (x / 2 ^ 8 % 256)
  have p4 := popB_le (x % 256)
  have q1 : (x : Int) / 16777216 = ((x / 2 ^ 24 : Nat) : Int) := by simp
  have q2 : bits .and .u32 ((x : Int) / 65536) 255 = ((x / 2 ^ 16 % 256 : Nat) : Int) := by
    have h := and_255 (y := x / 2 ^ 16) (by omega)
    rw [← h]
    simp
  have q3 : bits .and .u32 ((x : Int) / 256) 255 = ((x / 2 ^ 8 % 256 : Nat) : Int) := by
    have h := and_255 (y := x / 2 ^ 8) (by omega)
    rw [← h]
    simp
  have q4 : bits .and .u32 (x : Int) 255 = ((x % 256 : Nat) : Int) := and_255 hx
  have l1 : x / 2 ^ 24 < 256 := by omega
  have l2 : x / 2 ^ 16 % 256 < 256 := Nat.mod_lt _ (by decide)
  have l3 : x / 2 ^ 8 % 256 < 256 := Nat.mod_lt _ (by decide)
  have l4 : x % 256 < 256 := Nat.mod_lt _ (by decide)
  clear hsp hl
  generalize x / 2 ^ 24 = b1 at *
  generalize x / 2 ^ 16 % 256 = b2 at *
  generalize x / 2 ^ 8 % 256 = b3 at *
  generalize x % 256 = b4 at *
  have I1 := Lib.hid (fun (s : ByteArray) (hs : isTab s = true) w => idx_tab (P := Try.prog) Try.underlying9 hs l1 w)
  have I2 := Lib.hid (fun (s : ByteArray) (hs : isTab s = true) w => idx_tab (P := Try.prog) Try.underlying9 hs l2 w)
  have I3 := Lib.hid (fun (s : ByteArray) (hs : isTab s = true) w => idx_tab (P := Try.prog) Try.underlying9 hs l3 w)
  have I4 := Lib.hid (fun (s : ByteArray) (hs : isTab s = true) w => idx_tab (P := Try.prog) Try.underlying9 hs l4 w)
  generalize popB b1 = n1 at *
  generalize popB b2 = n2 at *
  generalize popB b3 = n3 at *
  generalize popB b4 = n4 at *
  clear l1 l2 l3 l4
  go_enter Try.func34, Try.ntmps34
  go_wp2_with fail
  refine wp_region_quiet_lit (by kernel_rfl) (by kernel_rfl) ?_
  go_big_quiet_step (fail)
  go_big_quiet_step (fail)
  go_big_quiet_want
  refine quiet_index 9 _ (.tmp 4) rfl (.int .u8 (n1 : Nat)) (fun w => I1.out _ (by kernel_rfl) w) ?_
  go_simp
  go_big_quiet_on
  go_big_quiet_step (fail)
  go_big_quiet_step (fail)
  go_big_quiet_step (fail)
  go_big_quiet_want
  refine quiet_index 9 _ (.tmp 8) rfl (.int .u8 (n2 : Nat)) (fun w => I2.out _ (by kernel_rfl) w) ?_
  go_simp
  go_big_quiet_on
  go_big_quiet_step (fail)
  go_big_quiet_step (fail)
  go_big_quiet_step (fail)
  go_big_quiet_step (fail)
  go_big_quiet_want
  refine quiet_index 9 _ (.tmp 13) rfl (.int .u8 (n3 : Nat)) (fun w => I3.out _ (by kernel_rfl) w) ?_
  go_simp
  go_big_quiet_on
  go_big_quiet_step (fail)
  go_big_quiet_step (fail)
  go_big_quiet_step (fail)
  go_big_quiet_want
  refine quiet_index 9 _ (.tmp 17) rfl (.int .u8 (n4 : Nat)) (fun w => I4.out _ (by kernel_rfl) w) ?_
  go_simp
  go_big_quiet_on
  repeat (go_big_quiet_step (fail))
  refine wpQuiet_nil ?_
  intro _ hw'
  obtain ⟨nq, hw''⟩ := hw'
  subst hw''
  go_wp2_with fail
  go_ret
  exact ⟨by rw [HE.out]; rfl, _, rfl⟩
theorem count_any (x : Nat) (w : World) (hx : x < 4294967296) :
    Calls Try.prog 26 #[.int .u32 x] w fun e w' => e = .returned (.int .i64 ((listB x.testBit).length : Nat)) ∧ ∃ m, w' = w.drewN m := by
  have H := Lib.hid (OnesCount32_any x w hx)
  go_enter Try.func26, Try.ntmps26
  go_wp2_with fail
  refine H.out.mono ?_
  rintro e w' ⟨rfl, m, rfl⟩
  go_wp2_with fail
  go_ret
  exact ⟨rfl, m, rfl⟩
end Go.Proofs.Ytfokmgogbjifbaa
