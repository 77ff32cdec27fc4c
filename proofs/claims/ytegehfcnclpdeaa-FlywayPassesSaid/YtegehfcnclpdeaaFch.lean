/-
  The chance after some steps: what is computed, and its bounds. Plain arithmetic.
-/
import Derived.Test.YtegehfcnclpdeaaFwc
import Derived.Test.YtegehfcnclpdeaaFwx
namespace Go.Proofs.Ytegehfcnclpdeaa
set_option linter.unusedVariables false

def mulW (r : Int × Int) (d : Int) : Int × Int := (r.1 * d, r.2)
def totF (f : Nat → Int × Int) (ps : List (Nat × Int)) : Int × Int := ps.foldl (fun t p => pluF t (mulW (f p.1) p.2)) (0, 1)
/-- The chance to be at j after k steps from i. -/
def chF (L : List (List Int)) (j : Nat) : Nat → Nat → Int × Int
  | 0, i => (if i = j then 1 else 0, 1)
  | k + 1, i => frZ (totF (chF L j k) (pasU (L.getD i []) (L.getD i []).length)).1 ((totF (chF L j k) (pasU (L.getD i []) (L.getD i []).length)).2 * lsum (L.getD i []))
theorem totF_snoc (f : Nat → Int × Int) (ps : List (Nat × Int)) (p : Nat × Int) : totF f (ps ++ [p]) = pluF (totF f ps) (mulW (f p.1) p.2) := by
  unfold totF
  rw [List.foldl_append]
  rfl
/-- A fraction over a power of 360360 that is at most S. -/
structure Frk (k : Nat) (S : Int) (r : Int × Int) : Prop where
  pos : 0 < r.2
  dvd : r.2 ∣ (360360 : Int) ^ k
  lo : 0 ≤ r.1
  hi : r.1 ≤ r.2 * S
theorem frZ_nat (n d : Nat) (hd : 0 < d) : frZ n d = (((n / Nat.gcd n d : Nat) : Int), ((d / Nat.gcd n d : Nat) : Int)) := rfl
theorem frZ_ok {n d : Int} (hn : 0 ≤ n) (hd : 0 < d) : ∃ g : Int, 0 < g ∧ n = g * (frZ n d).1 ∧ d = g * (frZ n d).2 := by
  obtain ⟨x, rfl⟩ := Int.eq_ofNat_of_zero_le hn
  obtain ⟨y, rfl⟩ := Int.eq_ofNat_of_zero_le (Int.le_of_lt hd)
  have hp : 0 < Nat.gcd x y := Nat.gcd_pos_of_pos_right _ (by omega)
  refine ⟨(Nat.gcd x y : Nat), by omega, ?_, ?_⟩
  · show (x : Int) = _ * ((x / Nat.gcd x y : Nat) : Int)
    rw [← Int.natCast_mul, Nat.mul_div_cancel' (Nat.gcd_dvd_left x y)]
  · show (y : Int) = _ * ((y / Nat.gcd x y : Nat) : Int)
    rw [← Int.natCast_mul, Nat.mul_div_cancel' (Nat.gcd_dvd_right x y)]
theorem Frk.red {k : Nat} {S n d : Int} (h0 : 0 < d) (h1 : d ∣ (360360 : Int) ^ k) (h2 : 0 ≤ n) (h3 : n ≤ d * S) : Frk k S (frZ n d) := by
  obtain ⟨g, hg, e1, e2⟩ := frZ_ok h2 h0
  have p2 : 0 < (frZ n d).2 := by
    apply Int.pos_of_mul_pos_right (a := g) _ hg
    rw [← e2]; exact h0
  refine ⟨p2, Int.dvd_trans ⟨g, by rw [Int.mul_comm]; exact e2⟩ h1, ?_, ?_⟩
  · apply Int.le_of_mul_le_mul_left (a := g) _ hg
    rw [← e1, Int.mul_zero]; exact h2
  · apply Int.le_of_mul_le_mul_left (a := g) _ hg
    rw [← e1, ← Int.mul_assoc, ← e2]; exact h3
theorem lcmZ_ok {a b m : Int} (ha : 0 < a) (hb : 0 < b) (ham : a ∣ m) (hbm : b ∣ m) : 0 < lcmZ a b ∧ lcmZ a b ∣ m ∧ a ∣ lcmZ a b ∧ b ∣ lcmZ a b := by
  obtain ⟨x, rfl⟩ := Int.eq_ofNat_of_zero_le (Int.le_of_lt ha)
  obtain ⟨y, rfl⟩ := Int.eq_ofNat_of_zero_le (Int.le_of_lt hb)
  have e : lcmZ (x : Int) (y : Int) = ((Nat.lcm x y : Nat) : Int) := by
    show ((x / Nat.gcd x y : Nat) : Int) * (y : Int) = _
    rw [← Int.natCast_mul]
    congr 1
    unfold Nat.lcm
    rw [Nat.mul_comm x y, Nat.mul_div_assoc _ (Nat.gcd_dvd_left x y), Nat.mul_comm]
  rw [e]
  refine ⟨?_, ?_, ?_, ?_⟩
  · have := Nat.lcm_pos (m := x) (n := y) (by omega) (by omega)
    omega
  · have h1 := Int.natAbs_dvd_natAbs.2 ham
    have h2 := Int.natAbs_dvd_natAbs.2 hbm
    have := Nat.lcm_dvd h1 h2
    exact Int.natAbs_dvd_natAbs.1 this
  · exact Int.natCast_dvd_natCast.2 (Nat.dvd_lcm_left x y)
  · exact Int.natCast_dvd_natCast.2 (Nat.dvd_lcm_right x y)
theorem pow_le {k : Nat} (hk : k ≤ 3) : (0 : Int) < (360360 : Int) ^ k ∧ (360360 : Int) ^ k ≤ 46800000000000000 := by
  match k, hk with
  | 0, _ => decide
  | 1, _ => decide
  | 2, _ => decide
  | 3, _ => decide
theorem plu_ok {k : Nat} {S d : Int} {t r : Int × Int} (hk : k ≤ 3) (ht : Frk k S t) (hr : Frk k 1 r) (hS : 0 ≤ S ∧ S ≤ 12) (hd : 0 < d ∧ d ≤ 3) : Plk t (mulW r d) ∧ Frk k (S + d) (pluF t (mulW r d)) := by
  obtain ⟨hp0, hp⟩ := pow_le hk
  obtain ⟨c0, c1, ⟨u, hu⟩, ⟨v, hv⟩⟩ := lcmZ_ok ht.pos hr.pos ht.dvd hr.dvd
  have hle := Int.le_of_dvd hp0 c1
  have hta := Int.le_of_dvd hp0 ht.dvd
  have hra := Int.le_of_dvd hp0 hr.dvd
  have e1 : Int.tdiv (lcmZ t.2 r.2) t.2 = u := by rw [hu]; exact Int.mul_tdiv_cancel_left _ (by have := ht.pos; omega)
  have e2 : Int.tdiv (lcmZ t.2 r.2) r.2 = v := by rw [hv]; exact Int.mul_tdiv_cancel_left _ (by have := hr.pos; omega)
  have hu0 : 0 < u := by
    apply Int.pos_of_mul_pos_right (a := t.2) _ ht.pos
    rw [← hu]; exact c0
  have hv0 : 0 < v := by
    apply Int.pos_of_mul_pos_right (a := r.2) _ hr.pos
    rw [← hv]; exact c0
  have g1 : 0 ≤ t.1 * u := Int.mul_nonneg ht.lo (by omega)
  have g2 : 0 ≤ r.1 * d * v := Int.mul_nonneg (Int.mul_nonneg hr.lo (by omega)) (by omega)
  have g3 : t.1 * u ≤ lcmZ t.2 r.2 * S := by
    have := Int.mul_le_mul_of_nonneg_right ht.hi (show 0 ≤ u by omega)
    rw [hu]
    calc t.1 * u ≤ t.2 * S * u := this
      _ = t.2 * u * S := by rw [Int.mul_assoc, Int.mul_comm S u, Int.mul_assoc]
  have g4 : r.1 * d * v ≤ lcmZ t.2 r.2 * d := by
    have h1 := hr.hi
    rw [Int.mul_one] at h1
    have := Int.mul_le_mul_of_nonneg_right (Int.mul_le_mul_of_nonneg_right h1 (show 0 ≤ d by omega)) (show 0 ≤ v by omega)
    rw [hv]
    calc r.1 * d * v ≤ r.2 * d * v := this
      _ = r.2 * v * d := by rw [Int.mul_assoc, Int.mul_comm d v, Int.mul_assoc]
  have g5 : lcmZ t.2 r.2 * S ≤ 46800000000000000 * 12 := Int.mul_le_mul (by omega) hS.2 hS.1 (by omega)
  have g6 : lcmZ t.2 r.2 * d ≤ 46800000000000000 * 3 := Int.mul_le_mul (by omega) hd.2 (by omega) (by omega)
  have hN : pluN t (mulW r d) (lcmZ t.2 r.2) = t.1 * u + r.1 * d * v := by
    unfold pluN mulW
    rw [e1, e2]
  refine ⟨⟨?_, ?_, ?_, ?_, ?_, ?_, ?_, ?_, ?_⟩, ?_⟩
  · have := ht.pos; unfold Mid; omega
  · have := hr.pos; show Mid r.2; unfold Mid; omega
  · have := ht.pos; omega
  · have := hr.pos; show r.2 ≠ 0; omega
  · show lcmZ t.2 r.2 ≠ 0; omega
  · show Mid (lcmZ t.2 r.2); unfold Mid; omega
  · show Mid (t.1 * Int.tdiv (lcmZ t.2 r.2) t.2); rw [e1]; unfold Mid; omega
  · show Mid (r.1 * d * Int.tdiv (lcmZ t.2 r.2) r.2); rw [e2]; unfold Mid; omega
  · show Mid (pluN t (mulW r d) (lcmZ t.2 r.2)); rw [hN]; unfold Mid; omega
  · show Frk k (S + d) (frZ (pluN t (mulW r d) (lcmZ t.2 r.2)) (lcmZ t.2 r.2))
    rw [hN]
    exact Frk.red c0 c1 (by omega) (by rw [Int.mul_add]; omega)
theorem tot_ok {k : Nat} {f : Nat → Int × Int} {l : List Int} (hk : k ≤ 3) (hl : Okr l) (hf : ∀ i, i < l.length → Frk k 1 (f i)) (pre : List (Pas l)) (h5 : pre.length ≤ 5) : Frk k (psum pre) (totF f (pre.map fun x => x.1)) := by
  obtain ⟨n, hn⟩ : ∃ n, pre.length = n := ⟨_, rfl⟩
  induction n generalizing pre with
  | zero =>
    obtain rfl := List.eq_nil_of_length_eq_zero hn
    exact ⟨Int.one_pos, Int.one_dvd _, Int.le_refl 0, Int.le_refl 0⟩
  | succ n ih =>
    obtain ⟨q, x, rfl⟩ : ∃ q x, pre = q ++ [x] := by
      rcases List.eq_nil_or_concat pre with rfl | ⟨q, x, e⟩
      · cases hn
      · exact ⟨q, x, by rw [e]; exact List.concat_eq_append⟩
    rw [List.length_append] at hn h5
    simp only [List.length_cons, List.length_nil] at hn h5
    have := ih q (by omega) (by omega)
    have hx := hl.pas x
    have hp := psum_le hl q
    rw [List.map_append, List.map_cons, List.map_nil, totF_snoc, psum_snoc]
    exact (plu_ok hk this (hf _ hx.1) ⟨hp.1, by omega⟩ hx.2).2
theorem dvd_s {s : Int} (h : 1 ≤ s ∧ s ≤ 15) : s ∣ 360360 := by
  obtain ⟨x, rfl⟩ := Int.eq_ofNat_of_zero_le (show 0 ≤ s by omega)
  have : ∀ y : Nat, y < 16 → 1 ≤ y → (y : Int) ∣ 360360 := by decide
  exact this x (by omega) (by omega)
theorem pasU_lift (l : List Int) : ∀ k, ∃ ys : List (Pas l), ys.map (·.1) = pasU l k ∧ ys.length ≤ k
  | 0 => ⟨[], rfl, Nat.le_refl _⟩
  | k + 1 => by
    obtain ⟨ys, h, hl⟩ := pasU_lift l k
    by_cases e : 0 < l.getD k 0
    · have hk : l[k]? = some (l.getD k 0) := by
        by_cases hlt : k < l.length
        · rw [List.getD_eq_getElem?_getD, List.getElem?_eq_getElem hlt]; rfl
        · rw [List.getD_eq_getElem?_getD, List.getElem?_eq_none (by omega)] at e
          exact absurd e (by decide)
      refine ⟨ys ++ [⟨(k, l.getD k 0), hk, e⟩], ?_, by simp; omega⟩
      rw [List.map_append, h]
      show _ = (if 0 < l.getD k 0 then _ else _)
      rw [if_pos e]
      rfl
    · refine ⟨ys, ?_, by omega⟩
      rw [h]
      show _ = (if 0 < l.getD k 0 then _ else _)
      rw [if_neg e]
/-- The chain's rows: at most five weights from 0 to 3, not all 0, as many as there are rows. -/
def Okl (L : List (List Int)) (n : Nat) : Prop := ∀ i, i < n → Okr (L.getD i []) ∧ (L.getD i []).length = n ∧ 0 < lsum (L.getD i [])
theorem ch_ok {L : List (List Int)} {n : Nat} (h : Okl L n) (j : Nat) : ∀ k, k ≤ 3 → ∀ i, i < n → Frk k 1 (chF L j k i)
  | 0, _, i, _ => by
    show Frk 0 1 (if i = j then 1 else 0, 1)
    refine ⟨Int.one_pos, Int.one_dvd _, ?_, ?_⟩
    · show (0 : Int) ≤ (if i = j then 1 else 0); split <;> decide
    · show (if i = j then (1 : Int) else 0) ≤ 1 * 1; split <;> decide
  | k + 1, hk, i, hi => by
    obtain ⟨hl, hn, hs⟩ := h i hi
    have ih := ch_ok h j k (by omega)
    obtain ⟨ys, hys, hyl⟩ := pasU_lift (L.getD i []) (L.getD i []).length
    have h5 := hl.1
    have ht := tot_ok (show k ≤ 3 by omega) hl (fun q hq => ih q (by omega)) ys (by omega)
    have hle := lsum_le hl
    rw [psum_all (fun d hd => (hl.2 d hd).1) hys] at ht
    rw [show (ys.map fun x => x.1) = pasU (L.getD i []) (L.getD i []).length from hys] at ht
    show Frk (k + 1) 1 (frZ _ _)
    refine Frk.red (Int.mul_pos ht.pos hs) ?_ ht.lo (by rw [Int.mul_one]; exact ht.hi)
    rw [Int.pow_succ]
    exact Int.mul_dvd_mul ht.dvd (dvd_s ⟨by omega, hle.2⟩)
end Go.Proofs.Ytegehfcnclpdeaa
