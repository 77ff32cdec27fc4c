/-
  Who counts: the walks of the functions that count, of endChances, checkSure. Condition: a chain that can be read.
-/
import Derived.Test.YtegehfcnclpdeaaFvs
import Derived.Test.YtegehfcnclpdeaaFwv
namespace Go.Proofs.Ytegehfcnclpdeaa
open Go.RowKit
set_option linter.unusedVariables false

theorem cell_keep {w w' : World} {p : Addr} {u : Value} (h : w.cell? p = some u) (hb : Below w.heap.size w w') (hp : p.block < w.heap.size) : w'.cell? p = some u := (hb.cell hp).trans h
theorem time1_any (A : Option Addr) (rs : List Rw) (c : Nat) (hch : Chn rs) (k : Nat) (hk : k < rs.length) (p : Nat) (w : World) (hr : RdR w w.heap.size A rs) (hc : w.cell? ⟨p, 0, none⟩ = some (.slice A rs.length c)) :
    Calls Try.prog 72 #[.int .i64 (k : Int), .pointer (some ⟨p, 0, none⟩)] w fun e w' => e = .returned (.bool (!endAt (rowsL rs) k)) ∧ Below w.heap.size w w' := by
  have HE := Lib.hid (isEnd_at A rs c k (by have := hch.n5; omega) hch.len hk w hr)
  generalize endAt (rowsL rs) k = x at *
  generalize rs.length = n at *
  clear hr hch
  go_enter Try.func72, Try.ntmps72
  go_wp2_with fail
  refine HE.out.mono ?_
  rintro e w2 ⟨rfl, hb⟩
  go_wp2_with fail
  go_ret
  exact ⟨rfl, hb⟩
theorem ends1_any (A : Option Addr) (rs : List Rw) (c : Nat) (hch : Chn rs) (k : Nat) (hk : k < rs.length) (j p q : Nat) (w : World) (hr : RdR w w.heap.size A rs) (hj : w.cell? ⟨p, 0, none⟩ = some (.int .i64 (j : Int))) (hc : w.cell? ⟨q, 0, none⟩ = some (.slice A rs.length c)) :
    Calls Try.prog 98 #[.int .i64 (k : Int), .pointer (some ⟨p, 0, none⟩), .pointer (some ⟨q, 0, none⟩)] w fun e w' => e = .returned (.bool (decide (k = j) && endAt (rowsL rs) k)) ∧ Below w.heap.size w w' := by
  have HE := Lib.hid (isEnd_at A rs c k (by have := hch.n5; omega) hch.len hk w hr)
  generalize endAt (rowsL rs) k = x at *
  generalize rs.length = n at *
  clear hr hch
  by_cases h : k = j
  · have e1 : ((k : Int) == (j : Int)) = true := by simp; omega
    have e1' : (k == j) = true := by simpa using h
    rw [decide_eq_true h]
    clear h
    go_enter Try.func98, Try.ntmps98
    go_wp2_with fail
    refine HE.out.mono ?_
    rintro e w2 ⟨rfl, hb⟩
    go_wp2_with fail
    go_ret
    exact ⟨rfl, hb⟩
  · have e1 : ((k : Int) == (j : Int)) = false := by simp; omega
    have e1' : (k == j) = false := by simpa using h
    rw [decide_eq_false h]
    clear h
    go_enter Try.func98, Try.ntmps98
    go_wp2_with fail
    go_ret
    exact ⟨rfl, Below.refl _ _⟩
def endC (L : List (List Int)) (j : Nat) : Nat → Bool := fun k => decide (k = j) && endAt L k
def tmC (L : List (List Int)) : Nat → Bool := fun k => !endAt L k
theorem endChances_any (A : Option Addr) (rs : List Rw) (c j : Nat) (hch : Chn rs) (h0 : 0 < rs.length) (hsok : SOK (visM (rowsL rs) rs.length (endC (rowsL rs) j)) rs.length) (w : World) (hr : RdR w w.heap.size A rs) :
    Calls Try.prog 69 #[.slice A rs.length c, .int .i64 j] w fun e w' => RatsPost rs.length (solF (visM (rowsL rs) rs.length (endC (rowsL rs) j)) rs.length) w e w' := by
  have b1 := Boxed.new w 67 (.slice A rs.length c)
  have b2 := Boxed.new (w.alloc (.cells #[.slice A rs.length c] 67)) 3 (.int .i64 (j : Int))
  have hsz : (w.alloc (.cells #[.slice A rs.length c] 67)).heap.size = w.heap.size + 1 := by simp
  rw [hsz] at b2
  have b1' := b1.alloc (.cells #[.int .i64 (j : Int)] 3)
  have hB : Below w.heap.size w ((w.alloc (.cells #[.slice A rs.length c] 67)).alloc (.cells #[.int .i64 (j : Int)] 3)) := ((Below.refl _ w).alloc (Nat.le_refl _) _).alloc (by simp) _
  obtain ⟨W, hW⟩ : ∃ W, (w.alloc (.cells #[.slice A rs.length c] 67)).alloc (.cells #[.int .i64 (j : Int)] 3) = W := ⟨_, rfl⟩
  rw [hW] at b2 b1' hB
  have hrW := hr.up hB
  have HV := Lib.hid (visits_two A rs c hch h0 ⟨w.heap.size + 1, 0, none⟩ ⟨w.heap.size, 0, none⟩ (endC (rowsL rs) j) hsok W hrW fun k hk W2 hb => ends1_any A rs c hch k hk j (w.heap.size + 1) w.heap.size W2 (hrW.up hb) (cell_keep b2.cell hb b2.lt) (cell_keep b1'.cell hb b1'.lt))
  have HW := Lib.hid hW
  have HB := Lib.hid hB
  have c1 := b1'.cell
  unfold RatsPost at *
  generalize solF (visM (rowsL rs) rs.length (endC (rowsL rs) j)) rs.length = S at *
  generalize rs.length = n at *
  clear hr hch hsok hW hB b1 b2 b1' hrW hsz
  go_enter Try.func69, Try.ntmps69
  go_wp2_with fail
  rw [HW.out]
  go_wp2_with fail
  refine HV.out.mono ?_
  rintro e w2 ⟨A2, c2, rfl, hr2, hb2⟩
  have R2 := Lib.hid hr2
  have B2 := Lib.hid (HB.out.trans (hb2.mono HB.out.size))
  clear hr2 hb2
  go_wp2_with fail
  go_ret
  exact ⟨A2, c2, rfl, R2.out, B2.out⟩
def csE (L : List (List Int)) (i : Int) (os : List Int) : Int := if ckE L (os ++ [i]) = 0 then (if sureB L L.length i.toNat = true then 0 else 9) else ckE L (os ++ [i])
theorem chn_of {rs : List Rw} (h : vdE (rowsL rs) = 0) : Chn rs ∧ 0 < rs.length := by
  obtain ⟨⟨h1, h2⟩, h3, h4, _⟩ := vdE_ok h
  exact ⟨⟨h2, h3, h4⟩, by omega⟩
theorem ckE_ok {L : List (List Int)} {ps : List Int} (h : ckE L ps = 0) : vdE L = 0 ∧ ∀ p ∈ ps, 0 ≤ p ∧ p < (L.length : Int) := by
  unfold ckE at h
  split at h
  · rename_i hv
    split at h
    · rename_i ha
      refine ⟨hv, fun p hp => ?_⟩
      have := List.all_eq_true.1 ha p hp
      unfold inN at this
      rw [Bool.and_eq_true, decide_eq_true_iff, decide_eq_true_iff] at this
      exact this
    · cases h
  · rename_i hv; exact absurd h hv
set_option maxRecDepth 8000 in
set_option maxHeartbeats 2000000 in
theorem checkSure_any (A : Option Addr) (rs : List Rw) (c : Nat) (hs : SzR rs) (hl : rs.length ≤ 9223372036854775807) (i : Int) (Ao : Option Addr) (co : Nat) (os : List Int) (hos : os.length ≤ 10) (B : Nat) (w : World) (hown : w.ownsRow B 3 1 (.slice Ao os.length co) os.length (ints os)) (hB : B ≤ w.heap.size) (hr : RdR w B A rs) :
    Calls Try.prog 68 #[.slice A rs.length c, .int .i64 i, .slice Ao os.length co] w fun e w' => e = .returned (.int .i64 (csE (rowsL rs) i os)) ∧ Below B w w' := by
  have HR := Lib.hid hr
  have OW := Lib.hid hown
  have HCk := Lib.hid (fun Ap cp w h1 h2 => check_any A rs c hs hl Ap (os ++ [i]) cp (by simp; omega) w h1 h2)
  have HSu := Lib.hid (fun (h : ckE (rowsL rs) (os ++ [i]) = 0) w hr => isSure_any A rs c i.toNat (by obtain ⟨hch, _⟩ := chn_of (ckE_ok h).1; have := hch.n5; omega) (chn_of (ckE_ok h).1).1.len (by have := (ckE_ok h).2 i (by simp); rw [rows_len] at this; omega) w hr)
  have HI := Lib.hid (fun (h : ckE (rowsL rs) (os ++ [i]) = 0) => show ((i.toNat : Nat) : Int) = i by have := (ckE_ok h).2 i (by simp); omega)
  have HLn := Lib.hid (rows_len rs)
  have HCS := Lib.hid (show csE (rowsL rs) i os = if ckE (rowsL rs) (os ++ [i]) = 0 then (if sureB (rowsL rs) (rowsL rs).length i.toNat = true then 0 else 9) else ckE (rowsL rs) (os ++ [i]) from rfl)
  rw [HLn.out] at HCS
  have hol : (os ++ [i]).length = os.length + 1 := by simp
  rw [hol] at HCk
  generalize rowsL rs = L at *
  generalize rs.length = n at *
  clear hr hown hs
  by_cases h0 : ckE L (os ++ [i]) = 0
  · have HSu2 := Lib.hid (HSu.out h0)
    rw [HI.out h0] at HSu2
    rw [if_pos h0] at HCS
    rw [h0] at HCk
    obtain ⟨x, hx⟩ : ∃ x, sureB L n i.toNat = x := ⟨_, rfl⟩
    rw [hx] at HSu2 HCS
    clear HSu HI h0 hx
    go_enter Try.func68, Try.ntmps68
    go_wp2_with ((with_reducible show wpList _ _ _ (⟨some 12, _, _, _, _, _⟩ :: _) _ _); refine app eInts rfl (.tmp 9) (.tmp 11) rfl rfl (OW.out.alloc _) ((Below.refl B w).alloc hB (.cells #[.int .i64 i] 3)) (by simp; omega) rfl (Rd.one w (.int .i64 i) 3 (Nat.lt_succ_self _)) (by simp) (ints_one [i]) (os.length + 1) rfl (by omega) ?_; intro A2 c2 w11 o2 b2 _ _; have O2 := Lib.hid (show w11.ownsRow B 3 1 (.slice A2 (os.length + 1) c2) (os.length + 1) (ints (os ++ [i])) by rw [ints_append]; exact o2); have B11 := Lib.hid b2; clear o2 b2)
    have hsz11 := B11.out.size
    have HR11 := Lib.hid ((HR.out.below B11.out (Nat.le_refl _)).more (show B ≤ w11.heap.size by omega))
    refine (HCk.out A2 c2 w11 HR11.out (Rd.of_own O2.out)).mono ?_
    rintro e w' ⟨rfl, rfl⟩
    have HS3 := Lib.hid (HSu2.out w11 HR11.out)
    go_wp2_with fail
    refine HS3.out.mono ?_
    rintro e w3 ⟨rfl, hb3⟩
    have B3 := Lib.hid (B11.out.trans (hb3.mono (by omega)))
    clear hb3
    cases x
    · go_wp2_with fail
      go_ret
      exact ⟨by rw [HCS.out] <;> rfl, B3.out⟩
    · go_wp2_with fail
      go_ret
      exact ⟨by rw [HCS.out] <;> rfl, B3.out⟩
  · have e1 : (ckE L (os ++ [i]) != 0) = true := by simpa using h0
    rw [if_neg h0] at HCS
    clear HSu HI h0
    generalize ckE L (os ++ [i]) = E at *
    go_enter Try.func68, Try.ntmps68
    go_wp2_with ((with_reducible show wpList _ _ _ (⟨some 12, _, _, _, _, _⟩ :: _) _ _); refine app eInts rfl (.tmp 9) (.tmp 11) rfl rfl (OW.out.alloc _) ((Below.refl B w).alloc hB (.cells #[.int .i64 i] 3)) (by simp; omega) rfl (Rd.one w (.int .i64 i) 3 (Nat.lt_succ_self _)) (by simp) (ints_one [i]) (os.length + 1) rfl (by omega) ?_; intro A2 c2 w11 o2 b2 _ _; have O2 := Lib.hid (show w11.ownsRow B 3 1 (.slice A2 (os.length + 1) c2) (os.length + 1) (ints (os ++ [i])) by rw [ints_append]; exact o2); have B11 := Lib.hid b2; clear o2 b2)
    have hsz11 := B11.out.size
    have HR11 := Lib.hid ((HR.out.below B11.out (Nat.le_refl _)).more (show B ≤ w11.heap.size by omega))
    refine (HCk.out A2 c2 w11 HR11.out (Rd.of_own O2.out)).mono ?_
    rintro e w' ⟨rfl, rfl⟩
    go_wp2_with fail
    go_ret
    exact ⟨by rw [HCS.out] <;> rfl, B11.out⟩
end Go.Proofs.Ytegehfcnclpdeaa
