/-
  The passages of a place: the iterator and its contract. Condition: the row can be read.
-/
import Derived.Test.YtegehfcnclpdeaaFwm
import Derived.Test.YtegehfcnclpdeaaChecked
import Derived.RangeFuncNested
import Derived.RangeFuncBound
import Derived.RangeFuncCalls
import Derived.RangeFuncLeaves
import Derived.RangeFuncFrom
import Derived.RangeFuncBox
import Derived.Shelf.Abstract
import Derived.Shelf.RegionOpen
import Derived.WalkKit
import Derived.OwnWalkIn
import Derived.TacticsInMore
import Derived.LoopNIn
import Derived.LoopIn
namespace Go.Proofs.Ytegehfcnclpdeaa
open Go.RowKit Go.Shelf
set_option linter.unusedVariables false
attribute [local go_sem] Oper.semAt_some

/-- A place and the weight above 0 with which it is passed to. -/
abbrev Pas (l : List Int) : Type := { x : Nat × Int // l[x.1]? = some x.2 ∧ 0 < x.2 }
/-- The passages to the first k places. -/
def pasU (l : List Int) : Nat → List (Nat × Int)
  | 0 => []
  | k + 1 => if 0 < l.getD k 0 then pasU l k ++ [(k, l.getD k 0)] else pasU l k
theorem pasU_len (l : List Int) : ∀ k, (pasU l k).length ≤ k
  | 0 => Nat.le_refl _
  | k + 1 => by
    have := pasU_len l k
    unfold pasU
    split
    · rw [List.length_append]; simp; omega
    · omega
theorem pasU_pre (l : List Int) (k : Nat) : ∀ d, pasU l k <+: pasU l (k + d)
  | 0 => List.prefix_refl _
  | d + 1 => by
    have h := pasU_pre l k d
    show pasU l k <+: (if 0 < l.getD (k + d) 0 then _ else _)
    split
    · exact h.trans (List.prefix_append _ _)
    · exact h
def encP {l : List Int} (x : Pas l) : Array Value := #[.int .i64 (x.1.1 : Int), .int .i64 x.1.2]
theorem passages_any (A : Option Addr) (n c : Nat) (i : Int) (w : World) :
    Calls Try.prog 91 #[.slice A n c, .int .i64 i] w fun e w' => e = .returned (.func (.func 104) #[] #[.pointer (some ⟨w.heap.size, 0, none⟩), .pointer (some ⟨w.heap.size + 1, 0, none⟩)]) ∧ w' = (w.alloc (.cells #[.slice A n c] 67)).alloc (.cells #[.int .i64 i] 3) := by
  refine (callsIn_wide (n := 3)).1 ?_
  refine callsIn_of_wp Try.func91 rfl trivial ?_ rfl
  simp only [Try.ntmps91, List.size_toArray, List.length_cons, List.length_nil, Nat.reduceAdd, Nat.reduceSub, Array.replicate_succ, Array.replicate_zero, List.push_toArray, List.append_toArray, List.nil_append, List.cons_append]
  gi_wp2
  go_ret
  exact ⟨by simp, rfl⟩
set_option maxRecDepth 100000 in
set_option maxHeartbeats 4000000 in
theorem pas_in (n : Nat) (hn : 1 ≤ n) (y B0 B1 n₀ : Nat) (A : Option Addr) (rs : List Rw) (c : Nat) (i : Nat) (A' : Option Addr) (c' : Nat) (l : List Int) (hl : l.length ≤ 100) (J Jx : List (Pas l) → World → Prop)
    (hY : ∀ (pre : List (Pas l)) (x : Pas l) W, J pre W → pre.length < l.length → YieldAt Fence.wide (n - 1) Try.prog y (encP x) W fun e W' =>
      (e = .returned (.bool true) ∧ J (pre ++ [x]) W' ∧ Below n₀ W W') ∨ (e = .returned (.bool false) ∧ Jx (pre ++ [x]) W'))
    (W : World) (c0 : W.cell? ⟨B0, 0, none⟩ = some (.slice A rs.length c)) (c1 : W.cell? ⟨B1, 0, none⟩ = some (.int .i64 i)) (hr : RdR W n₀ A rs) (hi : rs[i]? = some ⟨A', c', l⟩) (h0 : J [] W) :
    CallsIn Fence.wide n Try.prog 104 #[.func (.yield y) #[] #[], .pointer (some ⟨B0, 0, none⟩), .pointer (some ⟨B1, 0, none⟩)] W fun e W' => (∃ v, e = .returned v) ∧
      ((∃ ys : List (Pas l), ys.map (·.1) = pasU l l.length ∧ J ys W') ∨ (∃ pre : List (Pas l), pre.map (·.1) <+: pasU l l.length ∧ Jx pre W')) := by
  have hil : i < rs.length := (List.getElem?_eq_some_iff.1 hi).1
  obtain ⟨b, o, A2, c2, l2, rfl, hx, c3, hrd⟩ := hr.row i hil
  obtain ⟨rfl, rfl, rfl⟩ : A2 = A' ∧ c2 = c' ∧ l2 = l := by
    have := hx.out.symm.trans hi
    injection this with this
    injection this with h1 h2 h3
    exact ⟨h1, h2, h3⟩
  have HR := Lib.hid hrd.out
  have b0 : (0 : Int) ≤ (i : Int) := by omega
  have b1 : (i : Int) < (rs.length : Int) := by omega
  obtain ⟨m, hm⟩ : ∃ m, l2.length = m := ⟨_, rfl⟩
  have HM := Lib.hid hm
  rw [hm] at c3
  clear hr hi hx hrd
  refine callsIn_of_wp Try.func104 rfl trivial ?_ rfl
  simp only [Try.ntmps104, List.size_toArray, List.length_cons, List.length_nil, Nat.reduceAdd, Nat.reduceSub, Array.replicate_succ, Array.replicate_zero, List.push_toArray, List.append_toArray, List.nil_append, List.cons_append]
  gi_wp2
  gi_loopw [11] (fun i wr => ∃ (k : Nat) (pre : List (Pas l2)), k ≤ m ∧ i = .int .i64 k ∧ pre.map (·.1) = pasU l2 k ∧ J pre wr ∧ Below n₀ W wr)
    (fun i _ => m - (intOf i).toNat)
  case atStart => exact ⟨0, [], Nat.zero_le _, rfl, rfl, h0, Below.refl _ _⟩
  case round =>
    obtain ⟨k, pre, hk, rfl, hpre, hJs, hnx⟩ := hrel
    by_cases hlt : k < m
    · obtain ⟨b2, o2, d, rfl, hd, hc⟩ := HR.out.int k (by rw [HM.out]; exact hlt)
      have hbl : b2 < n₀ := by
        obtain ⟨b3, o3, e3, hb3, _⟩ := HR.out.at_ (ints_at hd.out)
        injection e3 with e3
        injection e3 with e3
        rw [e3]; exact hb3
      have hcw : wr.cell? ⟨b2, o2 + k, none⟩ = some (.int .i64 d) := (hnx.cell (p := ⟨b2, o2 + k, none⟩) hbl).trans hc
      have hdd : l2.getD k 0 = d := by rw [List.getD_eq_getElem?_getD, hd.out]; rfl
      have hnext : pasU l2 (k + 1) = if 0 < d then pasU l2 k ++ [(k, d)] else pasU l2 k := by
        show (if 0 < l2.getD k 0 then _ else _) = _
        rw [hdd]
      have hb0 : (0 : Int) ≤ (k : Int) := by omega
      have hb1 : (k : Int) < (m : Int) := by omega
      have HNX := Lib.hid hnext
      have HP := Lib.hid hpre
      have hml := HM.out
      by_cases hd0 : 0 < d
      · have hplen : pre.length < l2.length := by
          have := congrArg List.length HP.out
          rw [List.length_map] at this
          have := pasU_len l2 k
          omega
        have hq : l2[k]? = some d ∧ 0 < d := ⟨hd.out, hd0⟩
        obtain ⟨fn, tmps, assign, body, hy, hR⟩ := hY pre ⟨(k, d), hq⟩ wr hJs hplen
        dsimp only [encP] at hy
        clear hpre hnext hdd
        gi_wp2
        refine hR.mono ?_
        rintro e W3 (⟨rfl, hJ3, hk3⟩ | ⟨rfl, hJx3⟩)
        · gi_wp2
          go_roundw
          case rel => exact ⟨k + 1, pre ++ [⟨(k, d), hq⟩], by omega, by go_num, by rw [HNX.out, if_pos hd0, List.map_append, HP.out]; rfl, hJ3, hnx.trans hk3⟩
          case measure => simp [intOf]; omega
        · gi_wp2
          refine bodyPost_ret (results_none rfl _ _ _) rfl ?_
          refine ⟨⟨_, rfl⟩, .inr ⟨_, ?_, hJx3⟩⟩
          have h3 : (pre ++ [⟨(k, d), hq⟩] : List (Pas l2)).map (·.1) = pasU l2 (k + 1) := by rw [HNX.out, if_pos hd0, List.map_append, HP.out]; rfl
          rw [h3]
          have h4 := pasU_pre l2 (k + 1) (l2.length - (k + 1))
          rw [show k + 1 + (l2.length - (k + 1)) = l2.length by omega] at h4
          exact h4
      · clear hpre hnext hdd hd
        gi_wp2
        refine ⟨fun _ h => (by cases h), ?_⟩
        gi_wp2
        go_roundw
        case rel => exact ⟨k + 1, pre, by omega, by go_num, by rw [HNX.out, if_neg (by omega), HP.out], hJs, hnx⟩
        case measure => simp [intOf]; omega
    · obtain rfl : k = m := by omega
      gi_wp2
      go_end0
      exact ⟨⟨_, rfl⟩, .inl ⟨pre, by rw [hpre, HM.out], hJs⟩⟩
theorem pas_stops (n : Nat) (hn : 1 ≤ n) (B0 B1 n₀ : Nat) (A : Option Addr) (rs : List Rw) (c : Nat) (i : Nat) (A' : Option Addr) (c' : Nat) (l : List Int) (hl : l.length ≤ 100) (w : World) (hB0 : B0 < w.heap.size) (hB1 : B1 < w.heap.size) (hn₀ : n₀ ≤ w.heap.size)
    (c0 : w.cell? ⟨B0, 0, none⟩ = some (.slice A rs.length c)) (c1 : w.cell? ⟨B1, 0, none⟩ = some (.int .i64 i)) (hr : RdR w n₀ A rs) (hi : rs[i]? = some ⟨A', c', l⟩) :
    SeqStopsK Fence.wide n Try.prog 104 #[.pointer (some ⟨B0, 0, none⟩), .pointer (some ⟨B1, 0, none⟩)] (fun x : Pas l => #[Value.int .i64 (x.1.1 : Int), Value.int .i64 x.1.2]) (Below n₀) (fun ys => ys.map (·.1) = pasU l l.length) (fun pre => pre.map (·.1) <+: pasU l l.length) l.length w := fun y J Jx W hW _ _ hY h0 =>
  pas_in n hn y B0 B1 n₀ A rs c i A' c' l hl J Jx hY W ((hW.cell (p := ⟨B0, 0, none⟩) hB0).trans c0) ((hW.cell (p := ⟨B1, 0, none⟩) hB1).trans c1) (hr.below hW hn₀) hi h0
end Go.Proofs.Ytegehfcnclpdeaa
