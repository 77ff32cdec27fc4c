/-
  Pages and sums: the walks of IsPage, sumOf, join, isSum, split of both sides and of what is exported over them. Condition: sizes that a machine holds.
-/
import Derived.Test.YtoenecgjiejljaaDoorBt2
import Derived.Test.YtoenecgjiejljaaDoorTs1
import Derived.Test.YtoenecgjiejljaaDoorProg
import Derived.BigQuiet
namespace Go.Proofs.YtoenecgjiejljaaDoor
open Go.RowKit
set_option linter.unusedVariables false

theorem bl_at (s : ByteArray) (i : Nat) (h : i < s.size) : (bl s)[i]? = some (s[i]'h) := by
  have h' : i < (bl s).length := by rw [bl_len]; exact h
  rw [List.getElem?_eq_getElem h']
  rfl
theorem pg_bad {s : ByteArray} {i : Nat} {c : UInt8} (h : (bl s)[i]? = some c) (hb : pB c = false) : (bl s).all pB = false := by
  rw [List.all_eq_false]
  exact ⟨c, List.mem_of_getElem? h, by rw [hb]; simp⟩
theorem pg_next {s : ByteArray} {i : Nat} {c : UInt8} (h : (bl s)[i]? = some c) (hb : pB c = true) (ha : ((bl s).take i).all pB = true) : ((bl s).take (i + 1)).all pB = true := by
  rw [List.take_add_one, h, List.all_append, ha]
  simp [hb]
theorem pg_end {s : ByteArray} {i : Nat} (hi : s.size ≤ i) (ha : ((bl s).take i).all pB = true) : (bl s).all pB = true := by
  rw [List.take_of_length_le (by rw [bl_len]; exact hi)] at ha
  exact ha
theorem pB_cases (c : UInt8) : (decide ((c.toNat : Int) < 32) = true ∧ decide (c.toNat < 32) = true ∧ pB c = false) ∨ (decide ((c.toNat : Int) < 32) = false ∧ decide (c.toNat < 32) = false ∧ decide ((126 : Int) < (c.toNat : Int)) = true ∧ decide (126 < c.toNat) = true ∧ pB c = false) ∨ (decide ((c.toNat : Int) < 32) = false ∧ decide (c.toNat < 32) = false ∧ decide ((126 : Int) < (c.toNat : Int)) = false ∧ decide (126 < c.toNat) = false ∧ pB c = true) := by
  unfold pB
  by_cases h : c.toNat < 32
  · exact .inl ⟨decide_eq_true (by omega), decide_eq_true h, by rw [decide_eq_false (by omega)]; rfl⟩
  · by_cases h2 : 126 < c.toNat
    · exact .inr (.inl ⟨decide_eq_false (by omega), decide_eq_false h, decide_eq_true (by omega), decide_eq_true h2, by rw [decide_eq_true (by omega), decide_eq_false (by omega)]; rfl⟩)
    · exact .inr (.inr ⟨decide_eq_false (by omega), decide_eq_false h, decide_eq_false (by omega), decide_eq_false h2, by rw [decide_eq_true (by omega), decide_eq_true (by omega)]; rfl⟩)
theorem pg_all {s : ByteArray} (h : pgB s = true) : 1 ≤ s.size ∧ s.size ≤ 60 := by
  unfold pgB at h
  rw [Bool.and_eq_true, Bool.and_eq_true, decide_eq_true_iff, decide_eq_true_iff] at h
  exact h.1
set_option maxHeartbeats 2000000 in
theorem IsPage_any (s : ByteArray) (w : World) (hsz : s.size ≤ 9223372036854775807) :
    Calls Tryd.prog 129 #[.string s] w fun e w' => e = .returned (.bool (pgB s)) ∧ w = w' := by
  by_cases h0 : s.size = 0
  · have HX := Lib.hid (show pgB s = false by unfold pgB; rw [decide_eq_false (show ¬ 1 ≤ s.size by omega)]; rfl)
    have e1 : ((s.size : Int) == 0) = true := by rw [h0]; rfl
    have e2 : (s.size == 0) = true := by rw [h0]; rfl
    clear h0
    go_enter Tryd.func129, Tryd.ntmps129
    go_wp2_with fail
    go_ret
    exact ⟨by rw [HX.out]; rfl, rfl⟩
  have e1 : ((s.size : Int) == 0) = false := beq_eq_false_iff_ne.2 (by omega)
  have e2 : (s.size == 0) = false := by simpa using h0
  by_cases h6 : 60 < s.size
  · have HX := Lib.hid (show pgB s = false by unfold pgB; rw [decide_eq_false (show ¬ s.size ≤ 60 by omega), Bool.and_false]; rfl)
    have e3 : decide ((60 : Int) < (s.size : Int)) = true := decide_eq_true (by omega)
    have e4 : decide (60 < s.size) = true := by simpa using h6
    clear h0 h6
    go_enter Tryd.func129, Tryd.ntmps129
    go_wp2_with fail
    go_ret
    exact ⟨by rw [HX.out]; rfl, rfl⟩
  have e3 : decide ((60 : Int) < (s.size : Int)) = false := decide_eq_false (by omega)
  have e4 : decide (60 < s.size) = false := by simpa using h6
  have HX := Lib.hid (show pgB s = (bl s).all pB by unfold pgB; rw [decide_eq_true (show 1 ≤ s.size by omega), decide_eq_true (show s.size ≤ 60 by omega)]; rfl)
  clear h0
  go_enter Tryd.func129, Tryd.ntmps129
  go_wp2_with fail
  clear e1 e2 e3 e4
  go_loop [14] (fun i => ∃ k : Nat, k ≤ s.size ∧ i = .int .i64 k ∧ ((bl s).take k).all pB = true) (fun i => s.size - (intOf i).toNat)
  case atStart => exact ⟨0, by omega, rfl, by simp⟩
  case round =>
    obtain ⟨k, hk, rfl, hall⟩ := hrel
    have HA := Lib.hid hall
    clear hall
    by_cases hlt : k < s.size
    · have HG := Lib.hid (bl_at s k hlt)
      generalize hc : (s[k]'hlt) = c at *
      rcases pB_cases c with ⟨h1, h1', h3⟩ | ⟨h1, h1', h2, h2', h3⟩ | ⟨h1, h1', h2, h2', h3⟩
      · have HF := Lib.hid (pg_bad HG.out h3)
        clear h3
        go_wp2_with fail
        go_ret
        exact ⟨by rw [HX.out, HF.out]; rfl, rfl⟩
      · have HF := Lib.hid (pg_bad HG.out h3)
        clear h3
        go_wp2_with fail
        go_ret
        exact ⟨by rw [HX.out, HF.out]; rfl, rfl⟩
      · have HF := Lib.hid (pg_next HG.out h3 HA.out)
        clear h3
        go_wp2_with fail
        go_round
        case rel => exact ⟨k + 1, by omega, by go_num, HF.out⟩
        case measure => simp [intOf]; omega
    · have HP := Lib.hid (pg_end (show s.size ≤ k by omega) HA.out)
      have e5 : decide ((k : Int) < (s.size : Int)) = false := decide_eq_false (by omega)
      go_wp2_with fail
      go_ret
      exact ⟨by rw [HX.out, HP.out]; rfl, rfl⟩
set_option maxHeartbeats 2000000 in
theorem rIsPage_any (s : ByteArray) (w : World) (hsz : s.size ≤ 9223372036854775807) :
    Calls Tryd.prog 180 #[.string s] w fun e w' => e = .returned (.bool (pgB s)) ∧ w = w' := by
  have HX := Lib.hid (show pgB s = ((decide (1 ≤ s.size) && decide (s.size ≤ 60)) && (bl s).all pB) from rfl)
  go_enter Tryd.func180, Tryd.ntmps180
  go_wp2_with fail
  go_loop [3] (fun i => ∃ k : Nat, k ≤ s.size ∧ i = .int .i64 k ∧ ((bl s).take k).all pB = true) (fun i => s.size - (intOf i).toNat)
  case atStart => exact ⟨0, by omega, rfl, by simp⟩
  case round =>
    obtain ⟨k, hk, rfl, hall⟩ := hrel
    have HA := Lib.hid hall
    clear hall
    by_cases hlt : k < s.size
    · have HG := Lib.hid (bl_at s k hlt)
      generalize hc : (s[k]'hlt) = c at *
      rcases pB_cases c with ⟨h1, h1', h3⟩ | ⟨h1, h1', h2, h2', h3⟩ | ⟨h1, h1', h2, h2', h3⟩
      · have HF := Lib.hid (pg_bad HG.out h3)
        clear h3
        go_wp2_with fail
        go_ret
        exact ⟨by rw [HX.out, HF.out, Bool.and_false]; rfl, rfl⟩
      · have HF := Lib.hid (pg_bad HG.out h3)
        clear h3
        go_wp2_with fail
        go_ret
        exact ⟨by rw [HX.out, HF.out, Bool.and_false]; rfl, rfl⟩
      · have HF := Lib.hid (pg_next HG.out h3 HA.out)
        clear h3
        go_wp2_with fail
        go_round
        case rel => exact ⟨k + 1, by omega, by go_num, HF.out⟩
        case measure => simp [intOf]; omega
    · have HP := Lib.hid (pg_end (show s.size ≤ k by omega) HA.out)
      have e5 : decide ((k : Int) < (s.size : Int)) = false := decide_eq_false (by omega)
      have HY := Lib.hid (show pgB s = (decide (1 ≤ s.size) && decide (s.size ≤ 60)) by rw [HX.out, HP.out, Bool.and_true])
      have HI := Lib.hid (show decide ((1 : Int) ≤ (s.size : Int)) = decide (1 ≤ s.size) by rw [decide_eq_decide]; omega)
      have HJ := Lib.hid (show decide ((s.size : Int) ≤ 60) = decide (s.size ≤ 60) by rw [decide_eq_decide]; omega)
      by_cases h1 : 1 ≤ s.size
      · have e6 : decide ((1 : Int) ≤ (s.size : Int)) = true := decide_eq_true (by omega)
        have e7 : decide (1 ≤ s.size) = true := decide_eq_true h1
        have HZ := Lib.hid (HY.out.trans (by rw [e7, Bool.true_and] : _ = decide (s.size ≤ 60)))
        clear h1
        go_wp2_with fail
        go_ret
        exact ⟨by rw [HZ.out]; first | rfl | (rw [← HJ.out]; rfl), rfl⟩
      · have e6 : decide ((1 : Int) ≤ (s.size : Int)) = false := decide_eq_false (by omega)
        have e7 : decide (1 ≤ s.size) = false := decide_eq_false h1
        have HZ := Lib.hid (HY.out.trans (by rw [e7, Bool.false_and] : _ = false))
        clear h1
        go_wp2_with fail
        go_ret
        exact ⟨by rw [HZ.out]; rfl, rfl⟩
/-- The sum of the first bytes. -/
def lfK (s : ByteArray) (k : Nat) : Int := ((bl s).take k).foldl lfG 1
theorem lfK_next {s : ByteArray} {k : Nat} {c : UInt8} (h : (bl s)[k]? = some c) : lfK s (k + 1) = lfG (lfK s k) c := by
  unfold lfK
  rw [List.take_add_one, h, List.foldl_append]
  rfl
theorem lfK_end {s : ByteArray} {k : Nat} (h : s.size ≤ k) : lfK s k = lfS s := by
  unfold lfK lfS
  rw [List.take_of_length_le (by rw [bl_len]; exact h)]
theorem lfK_sm (s : ByteArray) : ∀ k, Sm1 (lfK s k) := by
  have h : ∀ (l : List UInt8) (a : Int), Sm1 a → Sm1 (l.foldl lfG a) := by
    intro l
    induction l with
    | nil => exact fun a h => h
    | cons c r ih => exact fun a _ => ih _ (lfG_sm a c)
  exact fun k => h _ _ (by unfold Sm1; omega)
set_option maxHeartbeats 2000000 in
theorem sumOf_any (s : ByteArray) (w : World) (hsz : s.size ≤ 9223372036854775807) :
    Calls Tryd.prog 130 #[.string s] w fun e w' => e = .returned (.int .i64 (lfS s)) ∧ w = w' := by
  go_enter Tryd.func130, Tryd.ntmps130
  go_wp2_with fail
  go_loop [3, 7] (fun v i => ∃ k : Nat, k ≤ s.size ∧ i = .int .i64 k ∧ v = .int .i64 (lfK s k)) (fun _ i => s.size - (intOf i).toNat)
  case atStart => exact ⟨0, by omega, rfl, rfl⟩
  case round =>
    obtain ⟨k, hk, rfl, rfl⟩ := hrel
    by_cases hlt : k < s.size
    · have HN := Lib.hid (lfK_next (bl_at s k hlt))
      have hb := lfK_sm s k
      unfold Sm1 at hb
      have hc8 := (s[k]'hlt).toNat_lt
      generalize hc : (s[k]'hlt) = c at *
      generalize lfK s k = x at *
      have q1 : wrap64 (x * 257) = x * 257 := by unfold wrap64; omega
      have q2 : wrap64 (x * 257 + (c.toNat : Int)) = x * 257 + (c.toNat : Int) := by unfold wrap64; omega
      have q3 : wrap64 (x * 257 + (c.toNat : Int) + 1) = x * 257 + (c.toNat : Int) + 1 := by unfold wrap64; omega
      have HQ := Lib.hid (show (x * 257 + (c.toNat : Int) + 1) % 2147483647 = lfG x c from rfl)
      go_wp2_with fail
      go_round
      case rel => exact ⟨k + 1, by omega, by go_num, by rw [HN.out, ← HQ.out]⟩
      case measure => simp [intOf]; omega
    · have HP := Lib.hid (lfK_end (s := s) (k := k) (by omega))
      have e5 : decide ((k : Int) < (s.size : Int)) = false := decide_eq_false (by omega)
      go_wp2_with fail
      go_ret
      exact ⟨by rw [← HP.out]; rfl, rfl⟩
set_option maxHeartbeats 2000000 in
theorem leaf_any (s : ByteArray) (w : World) (hsz : s.size ≤ 9223372036854775807) :
    Calls Tryd.prog 183 #[.string s] w fun e w' => e = .returned (.int .i64 (lfS s)) ∧ w = w' := by
  go_enter Tryd.func183, Tryd.ntmps183
  go_wp2_with fail
  go_loop [3, 4] (fun v i => ∃ k : Nat, k ≤ s.size ∧ i = .int .i64 k ∧ v = .int .i64 (lfK s k)) (fun _ i => s.size - (intOf i).toNat)
  case atStart => exact ⟨0, by omega, rfl, rfl⟩
  case round =>
    obtain ⟨k, hk, rfl, rfl⟩ := hrel
    by_cases hlt : k < s.size
    · have HN := Lib.hid (lfK_next (bl_at s k hlt))
      have hb := lfK_sm s k
      unfold Sm1 at hb
      have hc8 := (s[k]'hlt).toNat_lt
      generalize hc : (s[k]'hlt) = c at *
      generalize lfK s k = x at *
      have q1 : wrap64 (x * 257) = x * 257 := by unfold wrap64; omega
      have q2 : wrap64 (x * 257 + (c.toNat : Int)) = x * 257 + (c.toNat : Int) := by unfold wrap64; omega
      have q3 : wrap64 (x * 257 + (c.toNat : Int) + 1) = x * 257 + (c.toNat : Int) + 1 := by unfold wrap64; omega
      have HQ := Lib.hid (show (x * 257 + (c.toNat : Int) + 1) % 2147483647 = lfG x c from rfl)
      go_wp2_with fail
      go_round
      case rel => exact ⟨k + 1, by omega, by go_num, by rw [HN.out, ← HQ.out]⟩
      case measure => simp [intOf]; omega
    · have HP := Lib.hid (lfK_end (s := s) (k := k) (by omega))
      have e5 : decide ((k : Int) < (s.size : Int)) = false := decide_eq_false (by omega)
      go_wp2_with fail
      go_ret
      exact ⟨by rw [← HP.out]; rfl, rfl⟩
theorem join_any (x y : Int) (w : World) (hx : Sm1 x) (hy : Sm1 y) : Calls Tryd.prog 97 #[.int .i64 x, .int .i64 y] w fun e w' => e = .returned (.int .i64 (jn x y)) ∧ w = w' := by
  unfold Sm1 at hx hy
  have q1 : wrap64 (x * 48271) = x * 48271 := by unfold wrap64; omega
  have q2 : wrap64 (y * 16807) = y * 16807 := by unfold wrap64; omega
  have q3 : wrap64 (x * 48271 + y * 16807) = x * 48271 + y * 16807 := by unfold wrap64; omega
  have q4 : wrap64 (x * 48271 + y * 16807 + 1) = x * 48271 + y * 16807 + 1 := by unfold wrap64; omega
  have HQ := Lib.hid (show (x * 48271 + y * 16807 + 1) % 2147483647 = jn x y from rfl)
  go_enter Tryd.func97, Tryd.ntmps97
  go_wp2_with fail
  go_ret
  exact ⟨by rw [← HQ.out]; rfl, rfl⟩
theorem rjoin_any (x y : Int) (w : World) (hx : Sm1 x) (hy : Sm1 y) : Calls Tryd.prog 182 #[.int .i64 x, .int .i64 y] w fun e w' => e = .returned (.int .i64 (jn x y)) ∧ w = w' := by
  unfold Sm1 at hx hy
  have q1 : wrap64 (x * 48271) = x * 48271 := by unfold wrap64; omega
  have q2 : wrap64 (y * 16807) = y * 16807 := by unfold wrap64; omega
  have q3 : wrap64 (x * 48271 + y * 16807) = x * 48271 + y * 16807 := by unfold wrap64; omega
  have q4 : wrap64 (x * 48271 + y * 16807 + 1) = x * 48271 + y * 16807 + 1 := by unfold wrap64; omega
  have HQ := Lib.hid (show (x * 48271 + y * 16807 + 1) % 2147483647 = jn x y from rfl)
  go_enter Tryd.func182, Tryd.ntmps182
  go_wp2_with fail
  go_ret
  exact ⟨by rw [← HQ.out]; rfl, rfl⟩
theorem isSum_any (x : Int) (w : World) : Calls Tryd.prog 96 #[.int .i64 x] w fun e w' => e = .returned (.bool (smB x)) ∧ w = w' := by
  unfold smB
  cases e1 : decide (0 ≤ x)
  · go_enter Tryd.func96, Tryd.ntmps96
    go_wp2_with fail
    go_ret
    exact ⟨rfl, rfl⟩
  · go_enter Tryd.func96, Tryd.ntmps96
    go_wp2_with fail
    go_ret
    exact ⟨rfl, rfl⟩
set_option maxHeartbeats 2000000 in
theorem split_any (n : Nat) (w : World) (h2 : 2 ≤ n) (h64 : n ≤ 64) : Calls Tryd.prog 143 #[.int .i64 n] w fun e w' => e = .returned (.int .i64 (spN n)) ∧ w = w' := by
  go_enter Tryd.func143, Tryd.ntmps143
  go_wp2_with fail
  go_loop [3] (fun v => ∃ k j : Nat, v = .int .i64 k ∧ k = 2 ^ j ∧ k < n) (fun v => 64 - (intOf v).toNat)
  case atStart => exact ⟨1, 0, rfl, rfl, by omega⟩
  case round =>
    obtain ⟨k, j, rfl, hj, hkn⟩ := hrel
    have HJ := Lib.hid hj
    have h1 : 1 ≤ k := by rw [hj]; exact Nat.one_le_two_pow
    have HP := Lib.hid (show k * 2 = 2 ^ (j + 1) by rw [hj, Nat.pow_succ])
    clear hj
    by_cases hlt : k * 2 < n
    · have e1 : decide ((k : Int) * 2 < (n : Int)) = true := decide_eq_true (by omega)
      go_wp2_with fail
      go_round
      case rel => exact ⟨k * 2, j + 1, by go_num, HP.out, hlt⟩
      case measure => simp [intOf]; omega
    · have e1 : decide ((k : Int) * 2 < (n : Int)) = false := decide_eq_false (by omega)
      have HS := Lib.hid (sp_of (n := n) (j := j) h2 h64 (by rw [← HJ.out]; exact hkn) (by rw [← HJ.out]; omega))
      go_wp2_with fail
      go_ret
      exact ⟨by rw [← HS.out, ← HJ.out]; rfl, rfl⟩
set_option maxHeartbeats 2000000 in
theorem rsplit_any (n : Nat) (w : World) (h2 : 2 ≤ n) (h64 : n ≤ 64) : Calls Tryd.prog 181 #[.int .i64 n] w fun e w' => e = .returned (.int .i64 (spN n)) ∧ w = w' := by
  go_enter Tryd.func181, Tryd.ntmps181
  go_wp2_with fail
  go_loop [3] (fun v => ∃ k j : Nat, v = .int .i64 k ∧ k = 2 ^ j ∧ k < n) (fun v => 64 - (intOf v).toNat)
  case atStart => exact ⟨1, 0, rfl, rfl, by omega⟩
  case round =>
    obtain ⟨k, j, rfl, hj, hkn⟩ := hrel
    have HJ := Lib.hid hj
    have h1 : 1 ≤ k := by rw [hj]; exact Nat.one_le_two_pow
    have HP := Lib.hid (show k * 2 = 2 ^ (j + 1) by rw [hj, Nat.pow_succ])
    clear hj
    by_cases hlt : k * 2 < n
    · have e1 : decide (2 * (k : Int) < (n : Int)) = true := decide_eq_true (by omega)
      go_wp2_with fail
      go_round
      case rel => exact ⟨k * 2, j + 1, by go_num, HP.out, hlt⟩
      case measure => simp [intOf]; omega
    · have e1 : decide (2 * (k : Int) < (n : Int)) = false := decide_eq_false (by omega)
      have HS := Lib.hid (sp_of (n := n) (j := j) h2 h64 (by rw [← HJ.out]; exact hkn) (by rw [← HJ.out]; omega))
      go_wp2_with fail
      go_ret
      exact ⟨by rw [← HS.out, ← HJ.out]; rfl, rfl⟩
/-- What Leaf returns. -/
def leafV (s : ByteArray) : Int := if pgB s = true then lfS s else 0
def leafE (s : ByteArray) : Int := if pgB s = true then 0 else 1
def joinV (x y : Int) : Int := if smB x = true then (if smB y = true then jn x y else 0) else 0
def joinE (x y : Int) : Int := if smB x = true then (if smB y = true then 0 else 1) else 1
def splitV (n : Int) : Int := if 2 ≤ n then (if n ≤ 64 then (spN n.toNat : Int) else 0) else 0
def splitE (n : Int) : Int := if 2 ≤ n then (if n ≤ 64 then 0 else 1) else 1
theorem Leaf_any (s : ByteArray) (w : World) (hsz : s.size ≤ 9223372036854775807) :
    Calls Tryd.prog 86 #[.string s] w fun e w' => e = .returned (.tuple #[.int .i64 (leafV s), .int .i64 (leafE s)]) ∧ w = w' := by
  have HP := Lib.hid (IsPage_any s w hsz)
  have HL := Lib.hid (sumOf_any s w hsz)
  unfold leafV leafE
  generalize lfS s = x at *
  cases hp : pgB s
  · rw [hp] at HP
    clear hp
    go_enter Tryd.func86, Tryd.ntmps86
    go_wp2_with fail
    refine (HP.out).mono ?_
    rintro e w' ⟨rfl, rfl⟩
    go_wp2_with fail
    go_ret2
    exact ⟨rfl, rfl⟩
  · rw [hp] at HP
    clear hp
    go_enter Tryd.func86, Tryd.ntmps86
    go_wp2_with fail
    refine (HP.out).mono ?_
    rintro e w' ⟨rfl, rfl⟩
    go_wp2_with fail
    refine (HL.out).mono ?_
    rintro e w' ⟨rfl, rfl⟩
    go_wp2_with fail
    go_ret2
    exact ⟨rfl, rfl⟩
theorem Join_any (x y : Int) (w : World) :
    Calls Tryd.prog 41 #[.int .i64 x, .int .i64 y] w fun e w' => e = .returned (.tuple #[.int .i64 (joinV x y), .int .i64 (joinE x y)]) ∧ w = w' := by
  have HX := Lib.hid (isSum_any x w)
  have HY := Lib.hid (isSum_any y w)
  have HJ := Lib.hid (fun hx hy => join_any x y w hx hy)
  unfold joinV joinE
  cases hx : smB x
  · rw [hx] at HX
    clear hx HJ
    go_enter Tryd.func41, Tryd.ntmps41
    go_wp2_with fail
    refine (HX.out).mono ?_
    rintro e w' ⟨rfl, rfl⟩
    go_wp2_with fail
    go_ret2
    exact ⟨rfl, rfl⟩
  · rw [hx] at HX
    cases hy : smB y
    · rw [hy] at HY
      clear hx hy HJ
      go_enter Tryd.func41, Tryd.ntmps41
      go_wp2_with fail
      refine (HX.out).mono ?_
      rintro e w' ⟨rfl, rfl⟩
      go_wp2_with fail
      refine (HY.out).mono ?_
      rintro e w' ⟨rfl, rfl⟩
      go_wp2_with fail
      go_ret2
      exact ⟨rfl, rfl⟩
    · rw [hy] at HY
      have HJ2 := Lib.hid (HJ.out (smB_iff.1 hx) (smB_iff.1 hy))
      generalize jn x y = z at *
      clear hx hy HJ
      go_enter Tryd.func41, Tryd.ntmps41
      go_wp2_with fail
      refine (HX.out).mono ?_
      rintro e w' ⟨rfl, rfl⟩
      go_wp2_with fail
      refine (HY.out).mono ?_
      rintro e w' ⟨rfl, rfl⟩
      go_wp2_with fail
      refine (HJ2.out).mono ?_
      rintro e w' ⟨rfl, rfl⟩
      go_wp2_with fail
      go_ret2
      exact ⟨rfl, rfl⟩
end Go.Proofs.YtoenecgjiejljaaDoor
