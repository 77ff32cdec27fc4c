/-
  Texts merged into one (Bh1, Rm1): contracts of the functions of package lure, what is reckoned of games. Conditions: as each says.
-/
import Derived.Test.YtoenecgjiejljaaDoorMt18
import Derived.Lib.AtoiAll
import Derived.Lib.ItoaNum
import Derived.Test.YtoenecgjiejljaaDoorMt17
import Derived.Test.YtoenecgjiejljaaDoorMt2
namespace Go.Proofs.YtoenecgjiejljaaDoor
set_option linter.unusedVariables false

/-! ### Numerals -/
def D (u : Nat) : List UInt8 := Lib.decDigits u
def isDg (c : UInt8) : Bool := decide (48 ≤ c.toNat) && decide (c.toNat ≤ 57)
theorem isDg_iff {c : UInt8} : isDg c = true ↔ 48 ≤ c.toNat ∧ c.toNat ≤ 57 := by unfold isDg; simp
theorem D_small {u : Nat} (h : u < 10) : D u = [UInt8.ofNat (48 + u)] := by unfold D; rw [Lib.decDigits, dif_pos h]
theorem D_big {u : Nat} (h : ¬ u < 10) : D u = D (u / 10) ++ [UInt8.ofNat (48 + u % 10)] := by unfold D; rw [Lib.decDigits, dif_neg h]
theorem ofNat_toNat {n : Nat} (h : n < 256) : (UInt8.ofNat n).toNat = n := by simp; omega
theorem D_dig : ∀ (u : Nat), ∀ c ∈ D u, isDg c = true := by
  intro u
  induction u using Nat.strongRecOn with
  | _ u ih =>
    by_cases h : u < 10
    · rw [D_small h]
      intro c hc
      rw [List.mem_singleton.1 hc, isDg_iff, ofNat_toNat (by omega)]
      omega
    · rw [D_big h]
      intro c hc
      rcases List.mem_append.1 hc with hc | hc
      · exact ih (u / 10) (by omega) c hc
      · rw [List.mem_singleton.1 hc, isDg_iff, ofNat_toNat (by omega)]
        omega
theorem D_ne (u : Nat) : D u ≠ [] := by
  by_cases h : u < 10
  · rw [D_small h]; simp
  · rw [D_big h]; simp
def valG (a : Nat) (c : UInt8) : Nat := a * 10 + (c.toNat - 48)
def valN (a : Nat) (l : List UInt8) : Nat := l.foldl valG a
theorem D_val : ∀ (u : Nat), valN 0 (D u) = u := by
  intro u
  induction u using Nat.strongRecOn with
  | _ u ih =>
    by_cases h : u < 10
    · rw [D_small h]
      show 0 * 10 + ((UInt8.ofNat (48 + u)).toNat - 48) = u
      rw [ofNat_toNat (by omega)]
      omega
    · rw [D_big h]
      unfold valN
      rw [List.foldl_append]
      have := ih (u / 10) (by omega)
      unfold valN at this
      rw [this]
      show u / 10 * 10 + ((UInt8.ofNat (48 + u % 10)).toNat - 48) = u
      rw [ofNat_toNat (by omega)]
      omega
theorem D_inj {u v : Nat} (h : D u = D v) : u = v := by rw [← D_val u, ← D_val v, h]
theorem val_mono : ∀ (l : List UInt8) (a : Nat), a ≤ valN a l
  | [], a => Nat.le_refl _
  | c :: r, a => by
    have := val_mono r (valG a c)
    unfold valG at this
    show a ≤ valN (valG a c) r
    unfold valG
    omega
theorem parse_val : ∀ (l : List UInt8) (a : Nat), (∀ c ∈ l, isDg c = true) → valN a l < 1844674407370955162 → Lib.parseUint10 a l = .ok (valN a l)
  | [], a, _, _ => rfl
  | c :: r, a, hd, hv => by
    have h1 := isDg_iff.1 (hd c (by simp))
    have h2 : valN a (c :: r) = valN (valG a c) r := rfl
    have h3 := val_mono r (valG a c)
    have h4 : a ≤ valG a c := by unfold valG; omega
    have h5 : a * 10 + (c.toNat - 48) = valG a c := rfl
    rw [h2] at hv ⊢
    unfold Lib.parseUint10
    rw [if_pos h1, if_neg (by omega), if_neg (by omega), h5]
    exact parse_val r _ (fun x hx => hd x (by simp [hx])) hv
theorem atoi_D {u : Nat} (h : u < 1844674407370955162) : Lib.atoiAll (D u) = .ok (u : Int) := by
  have hp := parse_val (D u) 0 (D_dig u) (by rw [D_val]; exact h)
  rw [D_val] at hp
  unfold Lib.atoiAll
  cases hl : D u with
  | nil => exact absurd hl (D_ne u)
  | cons c r =>
    have hc := isDg_iff.1 (D_dig u c (by rw [hl]; simp))
    simp only
    rw [if_neg (by omega), ← hl]
    unfold Lib.parseMag
    rw [if_neg (D_ne u), hp]
    simp only
    rw [if_neg (by omega), if_neg (by omega), if_neg (by omega)]

/-! ### The first line of a book -/
def pgW : List UInt8 := [112, 97, 103, 101, 115, 32]
/-- 'pages N ROOT'. -/
def canon (n x : Nat) : List UInt8 := pgW ++ (D n ++ ([32] ++ D x))
theorem no_space {u : Nat} {c : UInt8} (h : c ∈ D u) : c ≠ 32 := by
  intro e
  have := isDg_iff.1 (D_dig u c h)
  rw [e] at this
  exact absurd this.1 (by decide)
/-- Two lists in front of a byte that is in neither. -/
theorem split_eq {a b : List UInt8} {c : UInt8} {r s : List UInt8} (ha : c ∉ a) (hb : c ∉ b) (h : a ++ c :: r = b ++ c :: s) : a = b ∧ r = s := by
  induction a generalizing b with
  | nil =>
    cases b with
    | nil => simp at h; exact ⟨rfl, h⟩
    | cons y t => simp at h; exact absurd h.1 (fun e => hb (by simp [e]))
  | cons x t ih =>
    cases b with
    | nil => simp at h; exact absurd h.1 (fun e => ha (by simp [e]))
    | cons y u =>
      simp only [List.cons_append, List.cons.injEq] at h
      obtain ⟨h1, h2⟩ := ih (fun hm => ha (List.mem_cons_of_mem _ hm)) (fun hm => hb (List.mem_cons_of_mem _ hm)) h.2
      exact ⟨by rw [h.1, h1], h2⟩
theorem canon_inj {n x m y : Nat} (h : canon n x = canon m y) : n = m ∧ x = y := by
  have h1 : D n ++ ([32] ++ D x) = D m ++ ([32] ++ D y) := List.append_cancel_left h
  obtain ⟨h2, h3⟩ := split_eq (fun hm => no_space hm rfl) (fun hm => no_space hm rfl) h1
  exact ⟨D_inj h2, D_inj h3⟩
/-- Is a line the first one of a book? -/
def IsHd (l : List UInt8) (n x : Nat) : Prop := n ≤ 64 ∧ x < 2147483647 ∧ l = canon n x
noncomputable def hdO (l : List UInt8) : Option (Nat × Nat) := @dite _ (∃ p : Nat × Nat, IsHd l p.1 p.2) (Classical.propDecidable _) (fun h => some h.choose) (fun _ => none)
theorem hdO_some {l : List UInt8} {n x : Nat} : hdO l = some (n, x) ↔ IsHd l n x := by
  unfold hdO
  constructor
  · intro h
    split at h
    · rename_i hh
      have := hh.choose_spec
      injection h with h
      rw [h] at this
      exact this
    · cases h
  · intro h
    have hh : ∃ p : Nat × Nat, IsHd l p.1 p.2 := ⟨(n, x), h⟩
    rw [dif_pos hh]
    have h2 := hh.choose_spec
    have e := canon_inj (h2.2.2.symm.trans h.2.2)
    congr 1
    exact Prod.ext e.1 e.2
theorem hdO_none {l : List UInt8} : hdO l = none ↔ ∀ n x, ¬ IsHd l n x := by
  constructor
  · intro h n x hh
    rw [hdO_some.2 hh] at h
    cases h
  · intro h
    cases e : hdO l with
    | none => rfl
    | some p => exact absurd (hdO_some.1 (show hdO l = some (p.1, p.2) from e)) (h _ _)
/-- The canonical numeral has few digits. -/
theorem D_len : ∀ (k u : Nat), u < 10 ^ (k + 1) → (D u).length ≤ k + 1
  | 0, u, h => by rw [D_small (by simpa using h)]; simp
  | k + 1, u, h => by
    by_cases h1 : u < 10
    · rw [D_small h1]; simp
    · rw [D_big h1, List.length_append]
      have := D_len k (u / 10) (by rw [Nat.pow_succ] at h; omega)
      simp; omega
def pgl (l : List UInt8) : Bool := (decide (1 ≤ l.length) && decide (l.length ≤ 60)) && l.all pB
theorem pgB_pgl (s : ByteArray) : pgB s = pgl (bl s) := by unfold pgB pgl; rw [bl_len]
theorem canon_page {n x : Nat} (h1 : n ≤ 64) (h2 : x < 2147483647) : pgl (canon n x) = true := by
  have l1 := D_len 1 n (by omega)
  have l2 := D_len 9 x (by omega)
  unfold pgl canon
  have e : (pgW ++ (D n ++ ([32] ++ D x))).length = 6 + ((D n).length + (1 + (D x).length)) := by simp [pgW]; omega
  rw [e, decide_eq_true (by omega), decide_eq_true (by omega)]
  have hd : ∀ u, (D u).all pB = true := fun u => List.all_eq_true.2 fun c hc => by
    have := isDg_iff.1 (D_dig u c hc)
    unfold pB
    rw [decide_eq_true (by omega), decide_eq_true (by omega)]
    rfl
  simp only [List.all_append, hd]
  decide
theorem hd_page {l : List UInt8} {n x : Nat} (h : IsHd l n x) : pgl l = true := by rw [h.2.2]; exact canon_page h.1 h.2.1

/-! ### Lines -/
/-- The first line and what stands behind it. -/
def lnO : List UInt8 → Option (List UInt8 × List UInt8)
  | [] => none
  | c :: r => if c = 10 then some ([], r) else match lnO r with
    | some (f, t) => some (c :: f, t)
    | none => none
theorem lnO_some : ∀ {t f r : List UInt8}, lnO t = some (f, r) ↔ (t = f ++ 10 :: r ∧ (10 : UInt8) ∉ f)
  | [], f, r => by simp [lnO]
  | c :: t, f, r => by
    unfold lnO
    by_cases h : c = 10
    · rw [if_pos h, h]
      constructor
      · intro e
        injection e with e
        injection e with e1 e2
        rw [← e1, ← e2]
        simp
      · rintro ⟨e, hn⟩
        cases f with
        | nil => simp at e; rw [e]
        | cons y u => simp at e; exact absurd e.1 (fun e => hn (by simp [← e]))
    · rw [if_neg h]
      cases hl : lnO t with
      | none =>
        simp only
        constructor
        · intro e; cases e
        · rintro ⟨e, hn⟩
          cases f with
          | nil => simp at e; exact absurd e.1 h
          | cons y u =>
            simp only [List.cons_append, List.cons.injEq] at e
            have := (lnO_some (t := t) (f := u) (r := r)).2 ⟨e.2, fun hm => hn (List.mem_cons_of_mem _ hm)⟩
            rw [hl] at this
            cases this
      | some p =>
        obtain ⟨g, s⟩ := p
        have ih := (lnO_some (t := t) (f := g) (r := s)).1 hl
        simp only
        constructor
        · intro e
          injection e with e
          injection e with e1 e2
          subst e1 e2
          refine ⟨by rw [ih.1]; rfl, fun hm => ?_⟩
          rcases List.mem_cons.1 hm with e | hm
          · exact h e.symm
          · exact ih.2 hm
        · rintro ⟨e, hn⟩
          cases f with
          | nil => simp at e; exact absurd e.1 h
          | cons y u =>
            simp only [List.cons_append, List.cons.injEq] at e
            have := (lnO_some (t := t) (f := u) (r := r)).2 ⟨e.2, fun hm => hn (List.mem_cons_of_mem _ hm)⟩
            rw [hl] at this
            injection this with this
            injection this with t1 t2
            rw [t1, t2, e.1]
theorem lnO_none : ∀ {t : List UInt8}, lnO t = none ↔ (10 : UInt8) ∉ t
  | [] => by simp [lnO]
  | c :: t => by
    unfold lnO
    by_cases h : c = 10
    · rw [if_pos h, h]; simp
    · rw [if_neg h]
      have ih := lnO_none (t := t)
      cases hl : lnO t with
      | none =>
        simp only [true_iff]
        intro hm
        rcases List.mem_cons.1 hm with e | hm
        · exact h e.symm
        · exact ih.1 hl hm
      | some p =>
        obtain ⟨g, s⟩ := p
        simp only [reduceCtorEq, false_iff]
        have := (lnO_some (t := t) (f := g) (r := s)).1 hl
        intro hn
        exact hn (List.mem_cons_of_mem _ (by rw [this.1]; simp))
theorem lnO_len {t f r : List UInt8} (h : lnO t = some (f, r)) : t.length = f.length + 1 + r.length := by
  rw [(lnO_some.1 h).1]
  simp
  omega
/-- Up to so many pages, and the rest behind them. -/
def tk : Nat → List UInt8 → List (List UInt8) × List UInt8
  | 0, t => ([], t)
  | k + 1, t => match lnO t with
    | some (f, r) => if pgl f = true then (f :: (tk k r).1, (tk k r).2) else ([], t)
    | none => ([], t)
theorem tk_none {k : Nat} {t : List UInt8} (h : lnO t = none) : tk k t = ([], t) := by
  cases k with
  | zero => rfl
  | succ k => unfold tk; rw [h]
theorem tk_bad {k : Nat} {t f r : List UInt8} (h : lnO t = some (f, r)) (hp : pgl f = false) : tk k t = ([], t) := by
  cases k with
  | zero => rfl
  | succ k => unfold tk; rw [h]; simp [hp]
theorem tk_good {k : Nat} {t f r : List UInt8} (h : lnO t = some (f, r)) (hp : pgl f = true) : tk (k + 1) t = (f :: (tk k r).1, (tk k r).2) := by
  rw [tk, h]; simp [hp]
theorem tk_le : ∀ (k : Nat) (t : List UInt8), (tk k t).1.length ≤ k
  | 0, t => by simp [tk]
  | k + 1, t => by
    unfold tk
    cases hl : lnO t with
    | none => simp
    | some p =>
      obtain ⟨f, r⟩ := p
      simp only
      split
      · have := tk_le k r
        simp; omega
      · simp
theorem tk_page : ∀ (k : Nat) (t : List UInt8), ∀ l ∈ (tk k t).1, pgl l = true
  | 0, t => by simp [tk]
  | k + 1, t => by
    unfold tk
    cases hl : lnO t with
    | none => simp
    | some p =>
      obtain ⟨f, r⟩ := p
      simp only
      split
      · rename_i hp
        intro l hm
        rcases List.mem_cons.1 hm with e | hm
        · rw [e]; exact hp
        · exact tk_page k r l hm
      · simp
end Go.Proofs.YtoenecgjiejljaaDoor
namespace Go.Proofs.YtoenecgjiejljaaDoor
open Go.RowKit
set_option linter.unusedVariables false

theorem bAt_bl (s : ByteArray) (i : Nat) : bAt s i = (((bl s).getD i 0).toNat : Int) := rfl
theorem bAt_sL (l : List UInt8) (i : Nat) : bAt (sL l) i = ((l.getD i 0).toNat : Int) := by rw [bAt_bl, bl_sL]
theorem digs_sL (l : List UInt8) : digs (sL l) = l.map fun c => (c.toNat : Int) - 48 := by
  apply List.ext_getElem?
  intro i
  unfold digs digsK
  rw [sL_size, List.getElem?_map, List.getElem?_map]
  by_cases h : i < l.length
  · rw [List.getElem?_range h, List.getElem?_eq_getElem h]
    simp [bAt_sL, List.getD, h]
  · rw [List.getElem?_eq_none (by simp; omega), List.getElem?_eq_none (by omega)]
    rfl
theorem isNum_dg {c : UInt8} : isNum ((c.toNat : Nat) : Int) = isDg c := by
  unfold isNum isDg
  congr 1 <;> rw [decide_eq_decide] <;> omega
theorem allNum_sL {l : List UInt8} (h : ∀ c ∈ l, isDg c = true) : allNum (sL l) = true := by
  refine List.all_eq_true.2 fun i hi => ?_
  have hi := List.mem_range.1 hi
  rw [sL_size] at hi
  rw [bAt_sL, List.getD_eq_getElem?_getD, List.getElem?_eq_getElem hi, Option.getD_some, isNum_dg]
  exact h _ (List.getElem_mem hi)
/-- So many digits of a number. -/
def padK : Nat → Nat → List UInt8
  | 0, _ => []
  | k + 1, n => padK k (n / 10) ++ [UInt8.ofNat (48 + n % 10)]
theorem padK_len : ∀ k n, (padK k n).length = k
  | 0, _ => rfl
  | k + 1, n => by simp [padK, padK_len k]
theorem padK_zero : ∀ k, padK k 0 = List.replicate k 48
  | 0 => rfl
  | k + 1 => by
    rw [padK, List.replicate_succ', Nat.zero_div, padK_zero k]
    rfl
theorem padK_D : ∀ k n, n < 10 ^ (k + 1) → List.replicate (k + 1 - (D n).length) 48 ++ D n = padK (k + 1) n
  | 0, n, h => by
    have h : n < 10 := by simpa using h
    rw [D_small h]
    simp [padK, Nat.mod_eq_of_lt h]
  | k + 1, n, h => by
    by_cases hn : n < 10
    · rw [D_small hn, padK, show n / 10 = 0 by omega, padK_zero, Nat.mod_eq_of_lt hn]
      simp
    · have h2 : n / 10 < 10 ^ (k + 1) := by
        rw [Nat.pow_succ] at h
        omega
      have ih := padK_D k (n / 10) h2
      rw [D_big hn, padK, ← ih, List.append_assoc]
      simp
theorem padK_dg : ∀ k n, ∀ c ∈ padK k n, isDg c = true
  | 0, _, c, h => by simp [padK] at h
  | k + 1, n, c, h => by
    rcases List.mem_append.1 h with h | h
    · exact padK_dg k _ c h
    · rw [List.mem_singleton.1 h, isDg_iff, ofNat_toNat (by omega)]
      omega
theorem dgt_int {d : Nat} (h : d < 10) : (((UInt8.ofNat (48 + d)).toNat : Nat) : Int) - 48 = d := by
  rw [ofNat_toNat (by omega)]
  omega
/-- The digits of a number, and its check digit as a byte. -/
def pdD (n : Nat) : List Int := (padK 5 n).map fun c => (c.toNat : Int) - 48
theorem pdD_eq {n : Nat} (h : n ≤ 99999) : pdD n = [((n / 10000 : Nat) : Int), ((n / 1000 % 10 : Nat) : Int), ((n / 100 % 10 : Nat) : Int), ((n / 10 % 10 : Nat) : Int), ((n % 10 : Nat) : Int)] := by
  unfold pdD
  simp only [padK, List.nil_append, List.cons_append, List.map_cons, List.map_nil]
  rw [dgt_int (by omega), dgt_int (by omega), dgt_int (by omega), dgt_int (by omega), dgt_int (by omega)]
  rw [show n / 10 / 10 / 10 / 10 % 10 = n / 10000 by omega, show n / 10 / 10 / 10 % 10 = n / 1000 % 10 by omega, show n / 10 / 10 % 10 = n / 100 % 10 by omega]
theorem pdD_dig (n : Nat) : ∀ x ∈ pdD n, Dig x := by
  intro x hx
  obtain ⟨c, hc, rfl⟩ := List.mem_map.1 hx
  have := isDg_iff.1 (padK_dg 5 n c hc)
  exact ⟨by omega, by omega⟩
def ckD (n : Nat) : Nat := (chkD (pdD n)).toNat
theorem ckD_lt (n : Nat) : ckD n < 10 ∧ (ckD n : Int) = chkD (pdD n) := by
  have := dig_chk (pdD_dig n)
  unfold Dig at this
  unfold ckD
  omega
/-- The digits of the ring with a number. -/
def rgT (n : Nat) : List UInt8 := padK 5 n ++ [UInt8.ofNat (48 + ckD n)]
theorem rgT_len (n : Nat) : (rgT n).length = 6 := by simp [rgT, padK_len]
theorem rgT_dg (n : Nat) : ∀ c ∈ rgT n, isDg c = true := by
  intro c h
  have h10 := (ckD_lt n).1
  rcases List.mem_append.1 h with h | h
  · exact padK_dg 5 n c h
  · rw [List.mem_singleton.1 h, isDg_iff, ofNat_toNat (by omega)]
    omega
def mkR (s : ByteArray) (n : Nat) : ByteArray := sL (bl s ++ rgT n)
theorem mkR_size (s : ByteArray) (n : Nat) : (mkR s n).size = s.size + 6 := by
  unfold mkR
  rw [sL_size, List.length_append, rgT_len, bl_len]
theorem mkR_head (s : ByteArray) (n : Nat) : headB (mkR s n) = s := by
  apply bl_inj
  unfold headB
  rw [bl_extract, mkR_size]
  unfold mkR
  rw [bl_sL, List.drop_zero, Nat.sub_zero, Nat.add_sub_cancel, ← bl_len, List.take_left]
theorem mkR_tail (s : ByteArray) (n : Nat) : tailB (mkR s n) = sL (rgT n) := by
  apply bl_inj
  unfold tailB
  rw [bl_extract, mkR_size]
  unfold mkR
  rw [bl_sL, bl_sL, Nat.add_sub_cancel, ← bl_len, List.drop_left, List.take_of_length_le (by rw [rgT_len]; omega)]
theorem mkR_digs (s : ByteArray) (n : Nat) : tailD (mkR s n) = pdD n ++ [chkD (pdD n)] := by
  rw [← digs_tailB (by rw [mkR_size]; omega), mkR_tail, digs_sL]
  unfold rgT
  rw [List.map_append, List.map_cons, List.map_nil, dgt_int (ckD_lt n).1, (ckD_lt n).2]
  rfl
theorem series_at {s : ByteArray} (h : seriesB s = true) : (s.size = 1 ∨ s.size = 2) ∧ ∀ i, i < s.size → isUp (bAt s i) = true := by
  unfold seriesB at h
  simp only [Bool.and_eq_true, Bool.or_eq_true, decide_eq_true_eq] at h
  exact ⟨h.1, fun i hi => List.all_eq_true.1 h.2 i (List.mem_range.2 hi)⟩
theorem mkR_form {s : ByteArray} (h : seriesB s = true) (n : Nat) : formB (mkR s n) false = true := by
  obtain ⟨h1, h2⟩ := series_at h
  refine formB_ok (by rw [mkR_size]; omega) fun i hi => ?_
  rw [mkR_size] at hi ⊢
  have e : ((s.size + 6 : Nat) : Int) - 6 = (s.size : Int) := by omega
  unfold okAt
  rw [e]
  by_cases hk : i < s.size
  · rw [if_pos (by omega)]
    have : bAt (mkR s n) i = bAt s i := by
      unfold mkR
      rw [bAt_sL, bAt_bl, List.getD_eq_getElem?_getD, List.getD_eq_getElem?_getD, List.getElem?_append_left (by rw [bl_len]; exact hk)]
    rw [this, h2 i hk]
    rfl
  · rw [if_neg (by omega)]
    have : bAt (mkR s n) i = (((rgT n).getD (i - s.size) 0).toNat : Int) := by
      unfold mkR
      rw [bAt_sL, List.getD_eq_getElem?_getD, List.getD_eq_getElem?_getD, List.getElem?_append_right (by rw [bl_len]; omega), bl_len]
    have hl : i - s.size < (rgT n).length := by rw [rgT_len]; omega
    rw [this, List.getD_eq_getElem?_getD, List.getElem?_eq_getElem hl, Option.getD_some, isNum_dg, rgT_dg n _ (List.getElem_mem hl)]
    rfl
theorem mkR_valid {s : ByteArray} (h : seriesB s = true) (n : Nat) : validE (mkR s n) = 0 := by
  unfold validE
  rw [if_pos (mkR_form h n), mkR_digs, if_pos ((chk_iff (pdD_dig n) (dig_chk (pdD_dig n))).2 rfl)]
theorem mkR_num (s : ByteArray) {n : Nat} (hn : n ≤ 99999) : numB (mkR s n) = (n : Int) := by
  have hd := mkR_digs s n
  rw [pdD_eq hn] at hd
  have ht : ∀ k, k < 6 → bAt (mkR s n) ((mkR s n).size - 6 + k) - 48 = (tailD (mkR s n)).getD k 0 := by
    intro k hk
    rw [List.getD_eq_getElem?_getD, tail_at hk]
    rfl
  rw [hd] at ht
  have h0 := ht 0 (by omega)
  have h1 := ht 1 (by omega)
  have h2 := ht 2 (by omega)
  have h3 := ht 3 (by omega)
  have h4 := ht 4 (by omega)
  simp only [List.cons_append, List.getD_cons_zero, List.getD_cons_succ] at h0 h1 h2 h3 h4
  unfold numB
  simp only [numK]
  rw [h0, h1, h2, h3, h4]
  omega
/-- What Make returns. -/
def mkE (s : ByteArray) (n : Int) : Int := if seriesB s then (if 0 ≤ n ∧ n ≤ 99999 then 0 else 1) else 2
def mkS (s : ByteArray) (n : Int) : ByteArray := if mkE s n = 0 then mkR s n.toNat else ⟨#[]⟩
theorem mkE_0 {s : ByteArray} {n : Int} (h : mkE s n = 0) : seriesB s = true ∧ 0 ≤ n ∧ n ≤ 99999 := by
  unfold mkE at h
  split at h
  · rename_i hs
    split at h
    · rename_i hn
      exact ⟨hs, hn⟩
    · exact absurd h (by decide)
  · exact absurd h (by decide)
theorem mkE_ok {s : ByteArray} {n : Int} (hs : seriesB s = true) (h0 : 0 ≤ n) (h1 : n ≤ 99999) : mkE s n = 0 := by
  unfold mkE
  rw [if_pos hs, if_pos ⟨h0, h1⟩]
theorem mk_back {s : ByteArray} {n : Int} (h : mkE s n = 0) : validE (mkS s n) = 0 ∧ splitS (mkS s n) = s ∧ splitN (mkS s n) = n := by
  obtain ⟨hs, h0, h1⟩ := mkE_0 h
  have hv := mkR_valid hs n.toNat
  unfold mkS splitS splitN
  rw [if_pos h, if_pos hv, if_pos hv, mkR_head, mkR_num s (by omega)]
  exact ⟨hv, rfl, by omega⟩
theorem mk_size {s : ByteArray} {n : Int} (h : mkE s n = 0) : (mkS s n).size = s.size + 6 := by
  unfold mkS
  rw [if_pos h, mkR_size]
/-- The next ring. -/
def nxE (s : ByteArray) : Int := if validE s = 0 then (if numB s = 99999 then 3 else 0) else validE s
def nxS (s : ByteArray) : ByteArray := if nxE s = 0 then mkR (headB s) (numB s + 1).toNat else ⟨#[]⟩
theorem head_series {s : ByteArray} (h : formB s false = true) : seriesB (headB s) = true := by
  have hs := form_size h
  have hz : (headB s).size = s.size - 6 := by simp [headB]
  refine series_ok (by rw [hz]; omega) fun i hi => ?_
  rw [hz] at hi
  have := form_at h (i := i) (by omega)
  unfold okAt at this
  rw [if_pos (by omega)] at this
  unfold headB
  rw [bAt_extract _ _ _ _ (by omega), Nat.zero_add]
  simpa using this
end Go.Proofs.YtoenecgjiejljaaDoor
