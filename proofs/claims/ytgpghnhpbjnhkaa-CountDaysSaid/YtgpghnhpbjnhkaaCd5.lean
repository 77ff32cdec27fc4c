/-
  The number that follows from several days: sums, Schnabel of both sides: the walks. Condition: the list can be read.
-/
import Derived.Test.YtgpghnhpbjnhkaaCd4
import Derived.Test.YtgpghnhpbjnhkaaCc4
namespace Go.Proofs.Ytgpghnhpbjnhkaa
open Go.RowKit
set_option linter.unusedVariables false

def sumK (f : C3 → Nat) (L : List C3) : Nat → Nat
  | 0 => 0
  | k + 1 => sumK f L k + f (L.getD k ⟨0, 0, 0⟩)
theorem sumK_next {f : C3 → Nat} {L : List C3} {k : Nat} {q : C3} (h : L[k]? = some q) : sumK f L (k + 1) = sumK f L k + f q := by
  show _ + _ = _
  rw [List.getD_eq_getElem?_getD, h]
  rfl
theorem sumK_le {f : C3 → Nat} {L : List C3} {c : Nat} (h : ∀ q ∈ L, f q ≤ c) : ∀ k, k ≤ L.length → sumK f L k ≤ k * c
  | 0, _ => Nat.zero_le _
  | k + 1, hk => by
    have h1 := sumK_le h k (by omega)
    have hq : L[k]? = some L[k] := List.getElem?_eq_getElem (by omega)
    rw [sumK_next hq, Nat.succ_mul]
    exact Nat.add_le_add h1 (h _ (List.getElem_mem (by omega)))
def fA (q : C3) : Nat := q.a.toNat
def fP (q : C3) : Nat := q.m.toNat * q.c.toNat
theorem fA_le {L : List C3} (h : okD L) : ∀ q ∈ L, fA q ≤ 60 := fun q hq => by
  have := cp_ok (h q hq)
  unfold fA
  omega
theorem fP_le {L : List C3} (h : okD L) : ∀ q ∈ L, fP q ≤ 3600 := fun q hq => by
  have := cp_ok (h q hq)
  have h1 : q.m.toNat ≤ 60 := by omega
  have h2 : q.c.toNat ≤ 60 := by omega
  exact Nat.mul_le_mul h1 h2
theorem box_ct (w : World) (m c a : Int) : ∃ X, w.alloc (.cells #[.int .i64 m, .int .i64 c, .int .i64 a] 68) = X ∧ ((w.alloc (.cells #[.int .i64 m, .int .i64 c, .int .i64 a] 68)).cell? ⟨w.heap.size, 0, none⟩ = some (.int .i64 m) ∧ (w.alloc (.cells #[.int .i64 m, .int .i64 c, .int .i64 a] 68)).cell? ⟨w.heap.size, 1, none⟩ = some (.int .i64 c) ∧ (w.alloc (.cells #[.int .i64 m, .int .i64 c, .int .i64 a] 68)).cell? ⟨w.heap.size, 2, none⟩ = some (.int .i64 a)) ∧ Below w.heap.size w X := by
  have hg := heap_alloc_new w (.cells #[.int .i64 m, .int .i64 c, .int .i64 a] 68)
  exact ⟨_, rfl, ⟨blk_cell (j := 0) hg, blk_cell (j := 1) hg, blk_cell (j := 2) hg⟩, (Below.refl _ _).alloc (Nat.le_refl _) _⟩
theorem again_any (m c a : Int) (w : World) : Calls Try.prog 62 #[.agg #[.int .i64 m, .int .i64 c, .int .i64 a]] w fun e w' => e = .returned (.int .i64 a) ∧ Below w.heap.size w w' := by
  obtain ⟨X, hX, ⟨c0, c1, c2⟩, hb⟩ := box_ct w m c a
  rw [← hX] at hb
  have HB := Lib.hid hb
  clear hb hX X
  go_enter Try.func62, Try.ntmps62
  go_wp2_with fail
  go_ret
  exact ⟨rfl, HB.out⟩
theorem prod_any (m c a : Int) (hm : 0 ≤ m ∧ m ≤ 60) (hc : 0 ≤ c ∧ c ≤ 60) (w : World) : Calls Try.prog 63 #[.agg #[.int .i64 m, .int .i64 c, .int .i64 a]] w fun e w' => e = .returned (.int .i64 (m * c)) ∧ Below w.heap.size w w' := by
  obtain ⟨X, hX, ⟨c0, c1, c2⟩, hb⟩ := box_ct w m c a
  rw [← hX] at hb
  have HB := Lib.hid hb
  have l1 : 0 ≤ m * c := Int.mul_nonneg hm.1 hc.1
  have l2 : m * c ≤ 60 * 60 := Int.mul_le_mul hm.2 hc.2 hc.1 (by omega)
  clear hb hX X
  go_enter Try.func63, Try.ntmps63
  go_wp2_with fail
  go_ret
  exact ⟨rfl, HB.out⟩
set_option maxRecDepth 8000 in
set_option maxHeartbeats 2000000 in
theorem sumA_any (A : Option Addr) (cp : Nat) (L : List C3) (ho : okD L) (hl : L.length ≤ 8) (w : World) (hr : Rd w w.heap.size A (L.flatMap C3.cells)) :
    Calls Try.prog 61 #[.slice A L.length cp, .func (.func 62) #[] #[]] w fun e w' => e = .returned (.int .i64 (sumK fA L L.length : Nat)) ∧ Below w.heap.size w w' := by
  have HR := Lib.hid hr
  have HLE := Lib.hid (fun k (hk : k ≤ L.length) => show sumK fA L k ≤ 28800 from Nat.le_trans (sumK_le (fA_le ho) k hk) (Nat.le_trans (Nat.mul_le_mul_right _ (Nat.le_trans hk hl)) (by decide)))
  have HOK := Lib.hid ho
  clear hr ho
  go_enter Try.func61, Try.ntmps61
  go_wp2_with fail
  go_loopw [5, 10] (fun v i wr => ∃ (j : Nat), j ≤ L.length ∧ v = .int .i64 (sumK fA L j : Nat) ∧ i = .int .i64 j ∧ Below w.heap.size w wr) (fun _ i _ => L.length - (intOf i).toNat)
  case atStart => exact ⟨0, by omega, rfl, rfl, Below.refl _ _⟩
  case round =>
    obtain ⟨j, hj, rfl, rfl, h2⟩ := hrel
    have B2 := Lib.hid h2
    by_cases hlt : j < L.length
    · obtain ⟨bb, o, q, rfl, hbb, hq, k0, k1, k2⟩ := (HR.out.below h2 (Nat.le_refl _)).ct j hlt
      have HN := Lib.hid (sumK_next (f := fA) hq.out)
      obtain ⟨⟨hm0, hm1⟩, ⟨hc0, hc1⟩, ⟨ha0, ha1⟩, _, _⟩ := cp_ok (HOK.out q (List.mem_of_getElem? hq.out))
      have g1 := HLE.out j (by omega)
      have g2 := HLE.out (j + 1) (by omega)
      rw [HN.out] at g2
      obtain ⟨m, c, a⟩ := q
      simp only at k0 k1 k2 hm0 hm1 hc0 hc1 ha0 ha1
      have hcast := (show a = ((fA ⟨m, c, a⟩ : Nat) : Int) by show a = ((a.toNat : Nat) : Int); omega)
      have HC := Lib.hid (fun w => (again_any m c a w).mono fun e w' ⟨he, hb⟩ => (⟨he.trans (congrArg (fun z => Ending.returned (Value.int .i64 z)) hcast), hb⟩ : e = Ending.returned (.int .i64 ((fA ⟨m, c, a⟩ : Nat) : Int)) ∧ Below w.heap.size w w'))
      clear hcast
      generalize sumK fA L j = s at *
      generalize fA ⟨m, c, a⟩ = x at *
      have b0 : (0 : Int) ≤ (j : Int) := by omega
      have b1 : (j : Int) < (L.length : Int) := by omega
      clear h2 hq hbb hm0 hm1 hc0 hc1 ha0 ha1
      go_wp2_with fail
      refine (HC.out _).mono ?_
      rintro e w3 ⟨rfl, hb3⟩
      have B3 := Lib.hid ((B2.out.alloc B2.out.size _).trans (hb3.mono (size_alloc' B2.out.size _)))
      clear hb3
      go_wp2_with fail
      go_roundw
      case rel => exact ⟨j + 1, by omega, by rw [HN.out]; go_num, by go_num, B3.out⟩
      case measure => simp [intOf]; omega
    · have hjk : j = L.length := by omega
      subst hjk
      clear h2
      go_wp2_with fail
      go_ret
      exact ⟨rfl, B2.out⟩
set_option maxRecDepth 8000 in
set_option maxHeartbeats 2000000 in
theorem sumP_any (A : Option Addr) (cp : Nat) (L : List C3) (ho : okD L) (hl : L.length ≤ 8) (w : World) (hr : Rd w w.heap.size A (L.flatMap C3.cells)) :
    Calls Try.prog 61 #[.slice A L.length cp, .func (.func 63) #[] #[]] w fun e w' => e = .returned (.int .i64 (sumK fP L L.length : Nat)) ∧ Below w.heap.size w w' := by
  have HR := Lib.hid hr
  have HLE := Lib.hid (fun k (hk : k ≤ L.length) => show sumK fP L k ≤ 28800 from Nat.le_trans (sumK_le (fP_le ho) k hk) (Nat.le_trans (Nat.mul_le_mul_right _ (Nat.le_trans hk hl)) (by decide)))
  have HOK := Lib.hid ho
  clear hr ho
  go_enter Try.func61, Try.ntmps61
  go_wp2_with fail
  go_loopw [5, 10] (fun v i wr => ∃ (j : Nat), j ≤ L.length ∧ v = .int .i64 (sumK fP L j : Nat) ∧ i = .int .i64 j ∧ Below w.heap.size w wr) (fun _ i _ => L.length - (intOf i).toNat)
  case atStart => exact ⟨0, by omega, rfl, rfl, Below.refl _ _⟩
  case round =>
    obtain ⟨j, hj, rfl, rfl, h2⟩ := hrel
    have B2 := Lib.hid h2
    by_cases hlt : j < L.length
    · obtain ⟨bb, o, q, rfl, hbb, hq, k0, k1, k2⟩ := (HR.out.below h2 (Nat.le_refl _)).ct j hlt
      have HN := Lib.hid (sumK_next (f := fP) hq.out)
      obtain ⟨⟨hm0, hm1⟩, ⟨hc0, hc1⟩, ⟨ha0, ha1⟩, _, _⟩ := cp_ok (HOK.out q (List.mem_of_getElem? hq.out))
      have g1 := HLE.out j (by omega)
      have g2 := HLE.out (j + 1) (by omega)
      rw [HN.out] at g2
      obtain ⟨m, c, a⟩ := q
      simp only at k0 k1 k2 hm0 hm1 hc0 hc1 ha0 ha1
      have hcast := (show m * c = ((fP ⟨m, c, a⟩ : Nat) : Int) by show m * c = ((m.toNat * c.toNat : Nat) : Int); rw [Int.natCast_mul, show ((m.toNat : Nat) : Int) = m by omega, show ((c.toNat : Nat) : Int) = c by omega])
      have HC := Lib.hid (fun w => (prod_any m c a ⟨hm0, hm1⟩ ⟨hc0, hc1⟩ w).mono fun e w' ⟨he, hb⟩ => (⟨he.trans (congrArg (fun z => Ending.returned (Value.int .i64 z)) hcast), hb⟩ : e = Ending.returned (.int .i64 ((fP ⟨m, c, a⟩ : Nat) : Int)) ∧ Below w.heap.size w w'))
      clear hcast
      generalize sumK fP L j = s at *
      generalize fP ⟨m, c, a⟩ = x at *
      have b0 : (0 : Int) ≤ (j : Int) := by omega
      have b1 : (j : Int) < (L.length : Int) := by omega
      clear h2 hq hbb hm0 hm1 hc0 hc1 ha0 ha1
      go_wp2_with fail
      refine (HC.out _).mono ?_
      rintro e w3 ⟨rfl, hb3⟩
      have B3 := Lib.hid ((B2.out.alloc B2.out.size _).trans (hb3.mono (size_alloc' B2.out.size _)))
      clear hb3
      go_wp2_with fail
      go_roundw
      case rel => exact ⟨j + 1, by omega, by rw [HN.out]; go_num, by go_num, B3.out⟩
      case measure => simp [intOf]; omega
    · have hjk : j = L.length := by omega
      subst hjk
      clear h2
      go_wp2_with fail
      go_ret
      exact ⟨rfl, B2.out⟩
def snE (L : List C3) : Int := if dvE L = 0 then (if sumK fA L L.length = 0 then 10 else 0) else dvE L
def snV (L : List C3) : Nat × Nat := if snE L = 0 then fr (sumK fP L L.length) (sumK fA L L.length) else (0, 0)
theorem rat0' (w : World) : ∃ W, w.alloc (.cells #[.int .i64 0, .int .i64 0] 31) = W ∧ W.heap[w.heap.size]? = some (.cells #[.int .i64 0, .int .i64 0] 31 (0, 0)) ∧ W.heap.size = w.heap.size + 1 ∧ Below w.heap.size w W :=
  ⟨_, rfl, heap_alloc_new w _, by simp, (Below.refl _ _).alloc (Nat.le_refl _) _⟩
theorem dvE_ok {L : List C3} (h : dvE L = 0) : okD L ∧ L.length ≤ 8 := by
  unfold dvE at h
  split at h
  · cases h
  · exact ⟨okD_of h, by omega⟩
theorem Rd.go' {w w' : World} {A : Option Addr} {xs : List Value} (h : Rd w w.heap.size A xs) (hb : Below w.heap.size w w') : Rd w' w'.heap.size A xs := (h.below hb (Nat.le_refl _)).more hb.size
set_option maxRecDepth 8000 in
set_option maxHeartbeats 2000000 in
theorem Schnabel_any (A : Option Addr) (cp : Nat) (L : List C3) (hl : L.length ≤ 9223372036854775807) (w : World) (hr : Rd w w.heap.size A (L.flatMap C3.cells)) :
    Calls Try.prog 34 #[.slice A L.length cp] w fun e w' => e = .returned (.tuple #[ratV (snV L), .int .i64 (snE L)]) ∧ Below w.heap.size w w' := by
  obtain ⟨W, hW, hg, hz, hB⟩ := rat0' w
  have HW := Lib.hid hW
  have HRW := Lib.hid (Rd.go' hr hB)
  have HC := Lib.hid (ValidateDays_any A cp L hl W HRW.out)
  clear hW hr
  by_cases hd : dvE L = 0
  · rw [hd] at HC
    obtain ⟨ho, h8⟩ := dvE_ok hd
    have lA := sumK_le (fA_le ho) L.length (Nat.le_refl _)
    have lP := sumK_le (fP_le ho) L.length (Nat.le_refl _)
    have lA' : sumK fA L L.length ≤ 480 := by omega
    have lP' : sumK fP L L.length ≤ 28800 := by omega
    have HE0 := Lib.hid (show snE L = if sumK fA L L.length = 0 then 10 else 0 from if_pos hd)
    have HSA := Lib.hid (fun w h => sumA_any A cp L ho h8 w h)
    have HSP := Lib.hid (fun w h => sumP_any A cp L ho h8 w h)
    by_cases h0 : sumK fA L L.length = 0
    · have HE := Lib.hid (show snE L = 10 by rw [HE0.out, if_pos h0])
      have HV := Lib.hid (show snV L = (0, 0) from if_neg (by rw [HE.out]; decide))
      have e1 : (((sumK fA L L.length : Nat) : Int) == 0) = true := by simp; omega
      have e1' : ((sumK fA L L.length) == 0) = true := by simpa using h0
      clear hd ho h8 lA lP lA' lP' h0
      generalize sumK fA L L.length = s at *
      go_enter Try.func34, Try.ntmps34
      go_wp2_with fail
      rw [HW.out]
      refine HC.out.mono ?_
      rintro e w1 ⟨rfl, hb1⟩
      have hB1 := hB.trans (hb1.mono hB.size)
      have hg1 := (hb1.block w.heap.size (by omega)).trans hg
      have hz1 : w.heap.size < w1.heap.size := by have := hb1.size; omega
      have R1 := Lib.hid (Rd.go' HRW.out hb1)
      go_wp2_with fail
      refine (HSA.out w1 R1.out).mono ?_
      rintro e w2 ⟨rfl, hb2⟩
      have hB2 := hB1.trans (hb2.mono hB1.size)
      have hg2 := (hb2.block w.heap.size hz1).trans hg1
      obtain ⟨d0, f0, d1, f1, HR⟩ := put2 hg2 (.int .i64 0) (.int .i64 0)
      have BZ := Lib.hid (put2_below (W := w2) (g := w.heap.size) (.int .i64 0) (.int .i64 0) hB2 (Nat.le_refl _) (hB2).size)
      clear hg hz hB hb1 hg1 hB1 hz1 hb2 hB2 hg2
      go_wp2_with fail
      (try simp only [Exit.inBlock, Exit.then])
      refine bodyPost_ret (v := .tuple #[.agg #[.int .i64 0, .int .i64 0], .int .i64 10]) (results_row_tmp (p := 2) (u := 3) rfl _ _ w.heap.size 31 _ _ _ rfl HR.out Try.underlying31 rfl sizeRat) rfl ⟨?_, BZ.out⟩
      rw [HV.out, HE.out]; rfl
    · have HE := Lib.hid (show snE L = 0 by rw [HE0.out, if_neg h0])
      have HV := Lib.hid (show snV L = fr (sumK fP L L.length) (sumK fA L L.length) from if_pos HE.out)
      have HF := Lib.hid (fun w => fraction_any (sumK fP L L.length) (sumK fA L L.length) (by omega) (by omega) (by omega) w)
      have e1 : (((sumK fA L L.length : Nat) : Int) == 0) = false := by simp; omega
      have e1' : ((sumK fA L L.length) == 0) = false := by simpa using h0
      clear hd ho h8 lA lP lA' lP' h0
      generalize fr (sumK fP L L.length) (sumK fA L L.length) = q at *
      obtain ⟨q1, q2⟩ := q
      unfold ratV at HF
      generalize sumK fA L L.length = s at *
      generalize sumK fP L L.length = t at *
      go_enter Try.func34, Try.ntmps34
      go_wp2_with fail
      rw [HW.out]
      refine HC.out.mono ?_
      rintro e w1 ⟨rfl, hb1⟩
      have hB1 := hB.trans (hb1.mono hB.size)
      have hg1 := (hb1.block w.heap.size (by omega)).trans hg
      have hz1 : w.heap.size < w1.heap.size := by have := hb1.size; omega
      have R1 := Lib.hid (Rd.go' HRW.out hb1)
      go_wp2_with fail
      refine (HSA.out w1 R1.out).mono ?_
      rintro e w2 ⟨rfl, hb2⟩
      have R2 := Lib.hid (Rd.go' R1.out hb2)
      have HB2 := Lib.hid (hB1.trans (hb2.mono hB1.size))
      have HG2 := Lib.hid ((hb2.block w.heap.size hz1).trans hg1)
      clear hg hz hB hb1 hg1 hB1 hz1 hb2
      go_wp2_with fail
      refine (HSP.out w2 R2.out).mono ?_
      rintro e w3 ⟨rfl, hb3⟩
      have HB3 := Lib.hid (HB2.out.trans (hb3.mono HB2.out.size))
      have HG3 := Lib.hid ((hb3.block w.heap.size (lt_of_block HG2.out)).trans HG2.out)
      clear hb3
      go_wp2_with fail
      refine (HF.out w3).mono ?_
      rintro e w4 ⟨rfl, hb4⟩
      have hg4 := (hb4.block w.heap.size (lt_of_block HG3.out)).trans HG3.out
      have hB4 := HB3.out.trans (hb4.mono HB3.out.size)
      obtain ⟨d0, f0, d1, f1, HR⟩ := put2 hg4 (.int .i64 (q1 : Int)) (.int .i64 (q2 : Int))
      have BZ := Lib.hid (put2_below (W := w4) (g := w.heap.size) (.int .i64 (q1 : Int)) (.int .i64 (q2 : Int)) hB4 (Nat.le_refl _) (hB4).size)
      clear hg4 hB4 hb4
      go_wp2_with fail
      (try simp only [Exit.inBlock, Exit.then])
      refine bodyPost_ret (v := .tuple #[.agg #[.int .i64 (q1 : Int), .int .i64 (q2 : Int)], .int .i64 0]) (results_row_tmp (p := 2) (u := 3) rfl _ _ w.heap.size 31 _ _ _ rfl HR.out Try.underlying31 rfl sizeRat) rfl ⟨?_, BZ.out⟩
      rw [HV.out, HE.out]; rfl
  · have e1 : (dvE L != 0) = true := by simpa using hd
    have HE := Lib.hid (show snE L = dvE L from if_neg hd)
    have HV := Lib.hid (show snV L = (0, 0) from if_neg (by rw [HE.out]; exact hd))
    clear hd
    generalize dvE L = E at *
    go_enter Try.func34, Try.ntmps34
    go_wp2_with fail
    rw [HW.out]
    refine HC.out.mono ?_
    rintro e w1 ⟨rfl, hb1⟩
    have hB1 := hB.trans (hb1.mono hB.size)
    have hg1 := (hb1.block w.heap.size (by omega)).trans hg
    have hz1 : w.heap.size < w1.heap.size := by have := hb1.size; omega
    obtain ⟨d0, f0, d1, f1, HR⟩ := put2 hg1 (.int .i64 0) (.int .i64 0)
    have BZ := Lib.hid (put2_below (W := w1) (g := w.heap.size) (.int .i64 0) (.int .i64 0) hB1 (Nat.le_refl _) (hB1).size)
    clear hg hz hB hb1 hg1 hB1 hz1
    go_wp2_with fail
    (try simp only [Exit.inBlock, Exit.then])
    refine bodyPost_ret (v := .tuple #[.agg #[.int .i64 0, .int .i64 0], .int .i64 E]) (results_row_tmp (p := 2) (u := 3) rfl _ _ w.heap.size 31 _ _ _ rfl HR.out Try.underlying31 rfl sizeRat) rfl ⟨?_, BZ.out⟩
    rw [HV.out, HE.out]; rfl
set_option maxRecDepth 8000 in
set_option maxHeartbeats 2000000 in
theorem rSchnabel_any (A : Option Addr) (cp : Nat) (L : List C3) (hl : L.length ≤ 9223372036854775807) (w : World) (hr : Rd w w.heap.size A (L.flatMap C3.cells)) :
    Calls Try.prog 35 #[.slice A L.length cp] w fun e w' => e = .returned (.tuple #[ratV (snV L), .int .i64 (snE L)]) ∧ Below w.heap.size w w' := by
  obtain ⟨W, hW, hg, hz, hB⟩ := rat0' w
  have HW := Lib.hid hW
  have HRW := Lib.hid (Rd.go' hr hB)
  have HC := Lib.hid (rValidateDays_any A cp L hl W HRW.out)
  clear hW hr
  by_cases hd : dvE L = 0
  · rw [hd] at HC
    obtain ⟨ho, h8⟩ := dvE_ok hd
    have lA := sumK_le (fA_le ho) L.length (Nat.le_refl _)
    have lP := sumK_le (fP_le ho) L.length (Nat.le_refl _)
    have lA' : sumK fA L L.length ≤ 480 := by omega
    have lP' : sumK fP L L.length ≤ 28800 := by omega
    have HE0 := Lib.hid (show snE L = if sumK fA L L.length = 0 then 10 else 0 from if_pos hd)
    have HOK := Lib.hid ho
    have HLP := Lib.hid (fun k (hk : k ≤ L.length) => show sumK fP L k ≤ 28800 from Nat.le_trans (sumK_le (fP_le ho) k hk) (Nat.le_trans (Nat.mul_le_mul_right _ (Nat.le_trans hk h8)) (by decide)))
    have HLA := Lib.hid (fun k (hk : k ≤ L.length) => show sumK fA L k ≤ 28800 from Nat.le_trans (sumK_le (fA_le ho) k hk) (Nat.le_trans (Nat.mul_le_mul_right _ (Nat.le_trans hk h8)) (by decide)))
    have HF := Lib.hid (fun (hp : 0 < sumK fA L L.length) w => Ratio_any (sumK fP L L.length) (sumK fA L L.length) (by omega) (by omega) hp w)
    clear hd ho lA lP lA' lP'
    go_enter Try.func35, Try.ntmps35
    go_wp2_with fail
    rw [HW.out]
    refine HC.out.mono ?_
    rintro e w1 ⟨rfl, hb1⟩
    have hB1 := hB.trans (hb1.mono hB.size)
    have hg1 := (hb1.block w.heap.size (by omega)).trans hg
    have hz1 : w.heap.size < w1.heap.size := by have := hb1.size; omega
    have R1 := Lib.hid (Rd.go' HRW.out hb1)
    have HB1 := Lib.hid hB1
    have HG1 := Lib.hid hg1
    have HZ1 := Lib.hid hz1
    clear hg hz hB hb1 hg1 hB1 hz1
    go_wp2_with fail
    go_loopw [5, 6, 7] (fun u v i wr => ∃ (j m : Nat), j ≤ L.length ∧ u = .int .i64 (sumK fP L j : Nat) ∧ v = .int .i64 (sumK fA L j : Nat) ∧ i = .int .i64 j ∧ wr = w1.drewN m) (fun _ _ i _ => L.length - (intOf i).toNat)
    case atStart => exact ⟨0, 0, by omega, rfl, rfl, rfl, rfl⟩
    case round =>
      obtain ⟨j, md, hj, rfl, rfl, rfl, hw⟩ := hrel
      have HWR := Lib.hid hw
      by_cases hlt : j < L.length
      · obtain ⟨bb, o, q, hA, hbb, hq, k0, k1, k2⟩ := (show Rd wr w1.heap.size A _ by rw [hw]; exact R1.out.drewN md).ct j hlt
        have HA := Lib.hid hA
        subst hA
        have HN1 := Lib.hid (sumK_next (f := fP) hq.out)
        have HN2 := Lib.hid (sumK_next (f := fA) hq.out)
        obtain ⟨⟨hm0, hm1⟩, ⟨hc0, hc1⟩, ⟨ha0, ha1⟩, _, _⟩ := cp_ok (HOK.out q (List.mem_of_getElem? hq.out))
        have g1 := HLP.out j (by omega)
        have g2 := HLP.out (j + 1) (by omega)
        have g3 := HLA.out j (by omega)
        have g4 := HLA.out (j + 1) (by omega)
        rw [HN1.out] at g2
        rw [HN2.out] at g4
        obtain ⟨m, c, a⟩ := q
        simp only at k0 k1 k2 hm0 hm1 hc0 hc1 ha0 ha1
        have HX := Lib.hid (show m * c = ((fP ⟨m, c, a⟩ : Nat) : Int) by show m * c = ((m.toNat * c.toNat : Nat) : Int); rw [Int.natCast_mul, show ((m.toNat : Nat) : Int) = m by omega, show ((c.toNat : Nat) : Int) = c by omega])
        have HY := Lib.hid (show a = ((fA ⟨m, c, a⟩ : Nat) : Int) by show a = ((a.toNat : Nat) : Int); omega)
        generalize sumK fP L j = s at *
        generalize sumK fA L j = t at *
        generalize fP ⟨m, c, a⟩ = x at *
        generalize fA ⟨m, c, a⟩ = y at *
        have b0 : (0 : Int) ≤ (j : Int) := by omega
        have b1 : (j : Int) < (L.length : Int) := by omega
        have n1 : 0 ≤ m * c := by rw [HX.out]; omega
        have n2 : (s : Int) + m * c ≤ 28800 := by rw [HX.out]; omega
        have WA := Lib.hid (show IntKind.i64.wrap (m * c) = m * c from wrap_nn n1 (by omega))
        have WB := Lib.hid (show IntKind.i64.wrap ((s : Int) + m * c) = (s : Int) + m * c from wrap_nn (by omega) (by omega))
        have n3 : (t : Int) + a ≤ 28800 := by have := HY.out; omega
        clear hw hq hbb
        go_wp2_with fail
        go_quiet (fail)
        (try simp only [WA.out, WB.out])
        go_wp2_with fail
        go_roundw
        case rel => exact ⟨j + 1, md + nq, by omega, by rw [HN1.out, Int.natCast_add, ← HX.out], by rw [HN2.out, Int.natCast_add, ← HY.out], by go_num, by rw [HWR.out]; exact World.drewN_drewN _ _ _⟩
        case measure => simp [intOf]; omega
      · have hjk : j = L.length := by omega
        subst hjk
        by_cases h0 : sumK fA L L.length = 0
        · have HE := Lib.hid (show snE L = 10 by rw [HE0.out, if_pos h0])
          have HV := Lib.hid (show snV L = (0, 0) from if_neg (by rw [HE.out]; decide))
          have e1 : (((sumK fA L L.length : Nat) : Int) == 0) = true := by simp; omega
          have e1' : ((sumK fA L L.length) == 0) = true := by simpa using h0
          clear h0 hlt
          generalize sumK fA L L.length = s at *
          have hgr : wr.heap[w.heap.size]? = some (.cells #[.int .i64 0, .int .i64 0] 31 (0, 0)) := by rw [hw]; exact HG1.out
          have hBr : Below w.heap.size w wr := by rw [hw]; exact bdN HB1.out md
          obtain ⟨d0, f0, d1, f1, HR⟩ := put2 hgr (.int .i64 0) (.int .i64 0)
          have BZ := Lib.hid (put2_below (W := wr) (g := w.heap.size) (.int .i64 0) (.int .i64 0) hBr (Nat.le_refl _) (hBr).size)
          clear hw hgr hBr
          go_wp2_with fail
          (try simp only [Exit.inBlock, Exit.then])
          refine bodyPost_ret (v := .tuple #[.agg #[.int .i64 0, .int .i64 0], .int .i64 10]) (results_row_tmp (p := 2) (u := 3) rfl _ _ w.heap.size 31 _ _ _ rfl HR.out Try.underlying31 rfl sizeRat) rfl ⟨?_, BZ.out⟩
          rw [HV.out, HE.out]; rfl
        · have HE := Lib.hid (show snE L = 0 by rw [HE0.out, if_neg h0])
          have HV := Lib.hid (show snV L = fr (sumK fP L L.length) (sumK fA L L.length) from if_pos HE.out)
          have HFF := Lib.hid (fun w => HF.out (by omega) w)
          have e1 : (((sumK fA L L.length : Nat) : Int) == 0) = false := by simp; omega
          have e1' : ((sumK fA L L.length) == 0) = false := by simpa using h0
          clear h0 hlt
          generalize fr (sumK fP L L.length) (sumK fA L L.length) = q at *
          obtain ⟨q1, q2⟩ := q
          unfold ratV at HFF
          generalize sumK fA L L.length = s at *
          generalize sumK fP L L.length = t at *
          have HGr := Lib.hid (show wr.heap[w.heap.size]? = some (.cells #[.int .i64 0, .int .i64 0] 31 (0, 0)) by rw [hw]; exact HG1.out)
          have HBr := Lib.hid (show Below w.heap.size w wr by rw [hw]; exact bdN HB1.out md)
          clear hw
          go_wp2_with fail
          refine (HFF.out wr).mono ?_
          rintro e w4 ⟨rfl, hb4⟩
          have hg4 := (hb4.block w.heap.size (lt_of_block HGr.out)).trans HGr.out
          have hB4 := HBr.out.trans (hb4.mono HBr.out.size)
          obtain ⟨d0, f0, d1, f1, HR⟩ := put2 hg4 (.int .i64 (q1 : Int)) (.int .i64 (q2 : Int))
          have BZ := Lib.hid (put2_below (W := w4) (g := w.heap.size) (.int .i64 (q1 : Int)) (.int .i64 (q2 : Int)) hB4 (Nat.le_refl _) (hB4).size)
          clear hg4 hB4 hb4
          go_wp2_with fail
          (try simp only [Exit.inBlock, Exit.then])
          refine bodyPost_ret (v := .tuple #[.agg #[.int .i64 (q1 : Int), .int .i64 (q2 : Int)], .int .i64 0]) (results_row_tmp (p := 2) (u := 3) rfl _ _ w.heap.size 31 _ _ _ rfl HR.out Try.underlying31 rfl sizeRat) rfl ⟨?_, BZ.out⟩
          rw [HV.out, HE.out]; rfl
  · have e1 : (dvE L != 0) = true := by simpa using hd
    have HE := Lib.hid (show snE L = dvE L from if_neg hd)
    have HV := Lib.hid (show snV L = (0, 0) from if_neg (by rw [HE.out]; exact hd))
    clear hd
    generalize dvE L = E at *
    go_enter Try.func35, Try.ntmps35
    go_wp2_with fail
    rw [HW.out]
    refine HC.out.mono ?_
    rintro e w1 ⟨rfl, hb1⟩
    have hB1 := hB.trans (hb1.mono hB.size)
    have hg1 := (hb1.block w.heap.size (by omega)).trans hg
    have hz1 : w.heap.size < w1.heap.size := by have := hb1.size; omega
    obtain ⟨d0, f0, d1, f1, HR⟩ := put2 hg1 (.int .i64 0) (.int .i64 0)
    have BZ := Lib.hid (put2_below (W := w1) (g := w.heap.size) (.int .i64 0) (.int .i64 0) hB1 (Nat.le_refl _) (hB1).size)
    clear hg hz hB hb1 hg1 hB1 hz1
    go_wp2_with fail
    (try simp only [Exit.inBlock, Exit.then])
    refine bodyPost_ret (v := .tuple #[.agg #[.int .i64 0, .int .i64 0], .int .i64 E]) (results_row_tmp (p := 2) (u := 3) rfl _ _ w.heap.size 31 _ _ _ rfl HR.out Try.underlying31 rfl sizeRat) rfl ⟨?_, BZ.out⟩
    rw [HV.out, HE.out]; rfl
end Go.Proofs.Ytgpghnhpbjnhkaa
