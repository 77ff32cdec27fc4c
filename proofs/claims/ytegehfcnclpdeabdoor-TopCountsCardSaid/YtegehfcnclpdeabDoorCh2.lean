/-
  Fractions in lowest terms, how they compare, and the fraction of two of them. The ways and the chances of recaptures: neighbors, the first greatest one. Plain numbers: no program in sight.
-/
import Derived.Test.YtegehfcnclpdeabDoorCh1
namespace Go.Proofs.YtegehfcnclpdeabDoor
set_option linter.unusedVariables false

/-- n / d in lowest terms. -/
def fr (n d : Nat) : Nat × Nat := (n / Nat.gcd n d, d / Nat.gcd n d)
theorem gcd_pos' {n d : Nat} (h : 0 < d) : 0 < Nat.gcd n d := Nat.gcd_pos_of_pos_right n h
theorem fr_mul {n d : Nat} (h : 0 < d) : (fr n d).1 * Nat.gcd n d = n ∧ (fr n d).2 * Nat.gcd n d = d :=
  ⟨Nat.div_mul_cancel (Nat.gcd_dvd_left n d), Nat.div_mul_cancel (Nat.gcd_dvd_right n d)⟩
theorem fr_pos {n d : Nat} (h : 0 < d) : 0 < (fr n d).2 := Nat.div_pos (Nat.le_of_dvd h (Nat.gcd_dvd_right n d)) (gcd_pos' h)
theorem fr_num {n d : Nat} (hn : 0 < n) : 0 < (fr n d).1 := Nat.div_pos (Nat.le_of_dvd hn (Nat.gcd_dvd_left n d)) (Nat.gcd_pos_of_pos_left d hn)
theorem fr_num0 {n d : Nat} (hn : n = 0) : (fr n d).1 = 0 := by subst hn; exact Nat.zero_div _
theorem fr_le (n d : Nat) : (fr n d).1 ≤ n ∧ (fr n d).2 ≤ d := ⟨Nat.div_le_self _ _, Nat.div_le_self _ _⟩
theorem fr_cop {n d : Nat} (h : 0 < d) : Nat.Coprime (fr n d).1 (fr n d).2 := Nat.coprime_div_gcd_div_gcd (gcd_pos' h)
theorem fr_cross {n d : Nat} (h : 0 < d) : (fr n d).1 * d = n * (fr n d).2 := by
  obtain ⟨h1, h2⟩ := fr_mul (n := n) h
  calc (fr n d).1 * d = (fr n d).1 * ((fr n d).2 * Nat.gcd n d) := by rw [h2]
    _ = (fr n d).1 * Nat.gcd n d * (fr n d).2 := by ac_rfl
    _ = n * (fr n d).2 := by rw [h1]
theorem fr_of_cop {n d : Nat} (h : Nat.Coprime n d) : fr n d = (n, d) := by
  unfold fr
  rw [show Nat.gcd n d = 1 from h, Nat.div_one, Nat.div_one]
theorem cop_eq {a b c d : Nat} (h1 : Nat.Coprime a b) (h2 : Nat.Coprime c d) (hb : 0 < b) (h : a * d = c * b) : a = c ∧ b = d := by
  have k1 : b ∣ d := (Nat.Coprime.symm h1).dvd_of_dvd_mul_left (by rw [h]; exact Nat.dvd_mul_left b c)
  have k2 : d ∣ b := (Nat.Coprime.symm h2).dvd_of_dvd_mul_left (by rw [← h]; exact Nat.dvd_mul_left d a)
  have e : b = d := Nat.dvd_antisymm k1 k2
  subst e
  exact ⟨Nat.eq_of_mul_eq_mul_right hb h, rfl⟩
theorem fr_eq {a b c d : Nat} (hb : 0 < b) (hd : 0 < d) (h : a * d = c * b) : fr a b = fr c d := by
  obtain ⟨a1, a2⟩ := fr_mul (n := a) hb
  obtain ⟨c1, c2⟩ := fr_mul (n := c) hd
  have k : (fr a b).1 * (fr c d).2 = (fr c d).1 * (fr a b).2 := by
    refine Nat.eq_of_mul_eq_mul_right (Nat.mul_pos (gcd_pos' (n := a) hb) (gcd_pos' (n := c) hd)) ?_
    calc (fr a b).1 * (fr c d).2 * (Nat.gcd a b * Nat.gcd c d) = (fr a b).1 * Nat.gcd a b * ((fr c d).2 * Nat.gcd c d) := by ac_rfl
      _ = c * b := by rw [a1, c2, h]
      _ = (fr c d).1 * Nat.gcd c d * ((fr a b).2 * Nat.gcd a b) := by rw [c1, a2]
      _ = _ := by ac_rfl
  obtain ⟨e1, e2⟩ := cop_eq (fr_cop hb) (fr_cop hd) (fr_pos hb) k
  exact Prod.ext e1 e2
theorem fr_self {n : Nat} (h : 0 < n) : fr n n = (1, 1) := by
  unfold fr
  rw [Nat.gcd_self, Nat.div_self h]
/-- Fractions in lowest terms compare as the fractions. -/
theorem fr_lt {a b c d : Nat} (hb : 0 < b) (hd : 0 < d) : (fr a b).1 * (fr c d).2 < (fr c d).1 * (fr a b).2 ↔ a * d < c * b := by
  obtain ⟨a1, a2⟩ := fr_mul (n := a) hb
  obtain ⟨c1, c2⟩ := fr_mul (n := c) hd
  have hp := Nat.mul_pos (gcd_pos' (n := a) hb) (gcd_pos' (n := c) hd)
  have e1 : a * d = (fr a b).1 * (fr c d).2 * (Nat.gcd a b * Nat.gcd c d) := by
    calc a * d = (fr a b).1 * Nat.gcd a b * ((fr c d).2 * Nat.gcd c d) := by rw [a1, c2]
      _ = _ := by ac_rfl
  have e2 : c * b = (fr c d).1 * (fr a b).2 * (Nat.gcd a b * Nat.gcd c d) := by
    calc c * b = (fr c d).1 * Nat.gcd c d * ((fr a b).2 * Nat.gcd a b) := by rw [c1, a2]
      _ = _ := by ac_rfl
  rw [e1, e2]
  exact (Nat.mul_lt_mul_right hp).symm
/-- A fraction in lowest terms against another one. -/
theorem fr_lt_l {a b p q : Nat} (hb : 0 < b) : p * (fr a b).2 < (fr a b).1 * q ↔ p * b < a * q := by
  obtain ⟨a1, a2⟩ := fr_mul (n := a) hb
  have hp := gcd_pos' (n := a) hb
  have e1 : p * b = p * (fr a b).2 * Nat.gcd a b := by
    calc p * b = p * ((fr a b).2 * Nat.gcd a b) := by rw [a2]
      _ = _ := by ac_rfl
  have e2 : a * q = (fr a b).1 * q * Nat.gcd a b := by
    calc a * q = (fr a b).1 * Nat.gcd a b * q := by rw [a1]
      _ = _ := by ac_rfl
  rw [e1, e2]
  exact (Nat.mul_lt_mul_right hp).symm
/-- What is left of 1. -/
theorem fr_rest {a b p q : Nat} (hb : 0 < b) (hab : a ≤ b) : p * (fr a b).2 < ((fr a b).2 - (fr a b).1) * q ↔ p * b < (b - a) * q := by
  obtain ⟨a1, a2⟩ := fr_mul (n := a) hb
  have hp := gcd_pos' (n := a) hb
  have e1 : p * b = p * (fr a b).2 * Nat.gcd a b := by
    calc p * b = p * ((fr a b).2 * Nat.gcd a b) := by rw [a2]
      _ = _ := by ac_rfl
  have e2 : (b - a) * q = ((fr a b).2 - (fr a b).1) * q * Nat.gcd a b := by
    calc (b - a) * q = ((fr a b).2 * Nat.gcd a b - (fr a b).1 * Nat.gcd a b) * q := by rw [a1, a2]
      _ = ((fr a b).2 - (fr a b).1) * Nat.gcd a b * q := by rw [Nat.sub_mul _ _ (Nat.gcd a b)]
      _ = _ := by ac_rfl
  rw [e1, e2]
  exact (Nat.mul_lt_mul_right hp).symm
theorem fr_sub_le {a b : Nat} (hb : 0 < b) (hab : a ≤ b) : (fr a b).1 ≤ (fr a b).2 := Nat.div_le_div_right hab

/-- One fraction divided by another one, common divisors taken away across. -/
def quo (x y : Nat × Nat) : Nat × Nat := (x.1 / Nat.gcd x.1 y.1 * (y.2 / Nat.gcd x.2 y.2), x.2 / Nat.gcd x.2 y.2 * (y.1 / Nat.gcd x.1 y.1))
theorem quo_eq {a b c d n m : Nat} (hb : 0 < b) (hd : 0 < d) (hc : 0 < c) (hm : 0 < m) (h : a * d * m = c * b * n) :
    quo (fr a b) (fr c d) = fr n m := by
  have px := fr_pos (n := a) hb
  have py := fr_pos (n := c) hd
  have pn := fr_num (d := d) hc
  have cx := fr_cop (n := a) hb
  have cy := fr_cop (n := c) hd
  have kx := fr_cross (n := a) hb
  have ky := fr_cross (n := c) hd
  generalize fr a b = x at *
  generalize fr c d = y at *
  obtain ⟨x1, x2⟩ := x
  obtain ⟨y1, y2⟩ := y
  simp only at *
  unfold quo
  simp only
  have hg : 0 < Nat.gcd x1 y1 := Nat.gcd_pos_of_pos_right _ pn
  have hh : 0 < Nat.gcd x2 y2 := Nat.gcd_pos_of_pos_right _ py
  have g1 := Nat.div_mul_cancel (Nat.gcd_dvd_left x1 y1)
  have g2 := Nat.div_mul_cancel (Nat.gcd_dvd_right x1 y1)
  have h1 := Nat.div_mul_cancel (Nat.gcd_dvd_left x2 y2)
  have h2 := Nat.div_mul_cancel (Nat.gcd_dvd_right x2 y2)
  have cg : Nat.Coprime (x1 / Nat.gcd x1 y1) (y1 / Nat.gcd x1 y1) := Nat.coprime_div_gcd_div_gcd hg
  have chh : Nat.Coprime (x2 / Nat.gcd x2 y2) (y2 / Nat.gcd x2 y2) := Nat.coprime_div_gcd_div_gcd hh
  have c1 : Nat.Coprime (x1 / Nat.gcd x1 y1) (x2 / Nat.gcd x2 y2) := (cx.coprime_div_left (Nat.gcd_dvd_left x1 y1)).coprime_div_right (Nat.gcd_dvd_left x2 y2)
  have c2 : Nat.Coprime (y1 / Nat.gcd x1 y1) (y2 / Nat.gcd x2 y2) := (cy.coprime_div_left (Nat.gcd_dvd_right x1 y1)).coprime_div_right (Nat.gcd_dvd_right x2 y2)
  generalize hga : Nat.gcd x1 y1 = g at *
  generalize hgb : Nat.gcd x2 y2 = hq at *
  generalize x1 / g = u1 at *
  generalize y1 / g = v1 at *
  generalize x2 / hq = u2 at *
  generalize y2 / hq = v2 at *
  have cop : Nat.Coprime (u1 * v2) (u2 * v1) :=
    Nat.Coprime.mul_left (Nat.Coprime.mul_right c1 cg) (Nat.Coprime.mul_right chh.symm c2.symm)
  rw [← fr_of_cop cop]
  have p2 : 0 < u2 := by
    rcases Nat.eq_zero_or_pos u2 with h0 | h0
    · rw [h0, Nat.zero_mul] at h1; omega
    · exact h0
  have p1 : 0 < v1 := by
    rcases Nat.eq_zero_or_pos v1 with h0 | h0
    · rw [h0, Nat.zero_mul] at g2; omega
    · exact h0
  refine fr_eq (Nat.mul_pos p2 p1) hm ?_
  -- x1 * b = a * x2, y1 * d = c * y2
  have hz : 0 < g * hq * (b * d) * (x2 * y2) := Nat.mul_pos (Nat.mul_pos (Nat.mul_pos hg hh) (Nat.mul_pos hb hd)) (Nat.mul_pos px py)
  have hcy : 0 < c * y2 := Nat.mul_pos hc py
  refine Nat.eq_of_mul_eq_mul_right hz ?_
  calc u1 * v2 * m * (g * hq * (b * d) * (x2 * y2)) = (u1 * g * b) * (v2 * hq) * d * m * x2 * y2 := by ac_rfl
    _ = (a * x2) * y2 * d * m * x2 * y2 := by rw [g1, kx, h2]
    _ = (a * d * m) * (x2 * x2 * y2 * y2) := by ac_rfl
    _ = (c * b * n) * (x2 * x2 * y2 * y2) := by rw [h]
    _ = n * x2 * (c * y2) * b * (x2 * y2) := by ac_rfl
    _ = n * (u2 * hq) * (v1 * g * d) * b * (x2 * y2) := by rw [g2, ky, h1]
    _ = _ := by ac_rfl

/-- The ways, where marked and caught are not above birds. -/
def wy (n m c a : Nat) : Nat := if a ≤ c then ch m a * ch (n - m) (c - a) else 0
theorem wy_le {n m c a : Nat} (hm : m ≤ n) : wy n m c a ≤ ch n c := by
  unfold wy
  split
  · rename_i h
    have h1 := ch_vand m (n - m) c
    rw [show m + (n - m) = n by omega] at h1
    rw [← h1]
    have h2 := sumTo_mono (fun i => ch m i * ch (n - m) (c - i)) (show a + 1 ≤ c + 1 by omega)
    exact Nat.le_trans (Nat.le_add_left _ (sumTo (fun i => ch m i * ch (n - m) (c - i)) a)) h2
  · exact Nat.zero_le _
/-- All ways of 0 .. a - 1. -/
def upW (n m c a : Nat) : Nat := sumTo (wy n m c) a
theorem upW_all {n m c : Nat} (hm : m ≤ n) : upW n m c (c + 1) = ch n c := by
  have h1 := ch_vand m (n - m) c
  rw [show m + (n - m) = n by omega] at h1
  rw [← h1]
  refine sumTo_congr _ fun i hi => ?_
  unfold wy
  rw [if_pos (by omega)]
theorem upW_le {n m c : Nat} (hm : m ≤ n) (a : Nat) : upW n m c a ≤ ch n c := by
  rw [← upW_all hm]
  rcases Nat.lt_or_ge c a with h | h
  · have : ∀ d, upW n m c (c + 1 + d) = upW n m c (c + 1) := by
      intro d
      induction d with
      | zero => rfl
      | succ d ih =>
        show upW n m c (c + 1 + d) + wy n m c (c + 1 + d) = _
        rw [ih]
        unfold wy
        rw [if_neg (by omega)]
        omega
    rw [show a = c + 1 + (a - (c + 1)) by omega, this]
    exact Nat.le_refl _
  · exact sumTo_mono _ (by omega)
theorem ch_row (n k : Nat) : ch (n + 1) k * (n + 1 - k) = (n + 1) * ch n k := by rw [← ch_next, ch_mul]
/-- Neighbors: the ways and choices of n + 1 birds against those of n. -/
theorem wy_next {n m c a : Nat} (hm : m ≤ n) (hc : c ≤ n) (ha : a ≤ c) (hl : m + c ≤ n + 1 + a) :
    wy (n + 1) m c a * ch n c * ((n + 1) * (n + 1 + a - m - c)) = wy n m c a * ch (n + 1) c * ((n + 1 - m) * (n + 1 - c)) := by
  unfold wy
  rw [if_pos ha, if_pos ha]
  have h1 := ch_row (n - m) (c - a)
  have h2 := ch_row n c
  rw [show n - m + 1 = n + 1 - m by omega] at h1
  rw [show n + 1 - m - (c - a) = n + 1 + a - m - c by omega] at h1
  calc ch m a * ch (n + 1 - m) (c - a) * ch n c * ((n + 1) * (n + 1 + a - m - c)) = ch m a * (ch (n + 1 - m) (c - a) * (n + 1 + a - m - c)) * ((n + 1) * ch n c) := by ac_rfl
    _ = ch m a * ((n + 1 - m) * ch (n - m) (c - a)) * (ch (n + 1) c * (n + 1 - c)) := by rw [h1, h2]
    _ = _ := by ac_rfl
theorem wy_pos {n m c a : Nat} (ha : a ≤ c) (hm : a ≤ m) (hl : m + c ≤ n + a) : 0 < wy n m c a := by
  unfold wy
  rw [if_pos ha]
  exact Nat.mul_pos (ch_pos hm) (ch_pos (by omega))
/-- (n - m)(n - c) against n (n - m - c + a): m c against n a. -/
theorem odds_lt {n m c a : Nat} (hm : m ≤ n) (hc : c ≤ n) (hl : m + c ≤ n + a) : n * (n + a - m - c) < (n - m) * (n - c) ↔ n * a < m * c := by
  obtain ⟨p, rfl⟩ := Nat.exists_eq_add_of_le hm
  obtain ⟨q, hq⟩ := Nat.exists_eq_add_of_le hc
  have e1 : m + p - m = p := by omega
  have e2 : m + p - c = q := by omega
  obtain ⟨s, hs⟩ := Nat.exists_eq_add_of_le hl
  have e3 : m + p + a - m - c = s := by omega
  rw [e1, e2, e3]
  -- s + m + c = m + p + a, m + p = c + q: q = s + m - a .. as products
  have hp : p + a = s + c := by omega
  have hqq : q + a = s + m := by omega
  have k1 : (m + p) * s + m * c + (p * a) = p * q + (m + p) * a + p * a := by
    have x1 : p * q + p * a = p * s + p * m := by rw [← Nat.mul_add, hqq, Nat.mul_add]
    have x2 : m * s + m * c = m * p + m * a := by rw [← Nat.mul_add, ← hp, Nat.mul_add]
    rw [Nat.add_mul, Nat.add_mul]
    have x3 : p * m = m * p := Nat.mul_comm _ _
    omega
  omega
/-- Which of b and n is more likely: the first greatest from l on. -/
def bst (W A : Nat → Nat) (l : Nat) : Nat → Nat
  | 0 => l
  | k + 1 => if W (bst W A l k) * A (l + k + 1) < W (l + k + 1) * A (bst W A l k) then l + k + 1 else bst W A l k
theorem bst_range (W A : Nat → Nat) (l : Nat) : ∀ k, l ≤ bst W A l k ∧ bst W A l k ≤ l + k
  | 0 => ⟨Nat.le_refl _, Nat.le_refl _⟩
  | k + 1 => by
    obtain ⟨h1, h2⟩ := bst_range W A l k
    rw [bst]
    split
    · exact ⟨by omega, by omega⟩
    · exact ⟨h1, by omega⟩
/-- Where the chance grows exactly below a bound on n a < m c, the first greatest one is the last that still grew. -/
theorem bst_best {m c a l : Nat} (ha : a ≤ c) (hm : a ≤ m) (hl : l + a = m + c) : ∀ k, let b := bst (fun n => wy n m c a) (fun n => ch n c) l k
    (∀ j, l ≤ j → j ≤ l + k → wy j m c a * ch b c ≤ wy b m c a * ch j c) ∧ (b = l ∨ b * a < m * c) ∧ (∀ j, l < j → j ≤ l + k → j * a < m * c → j ≤ b)
  | 0 => by
    intro b
    refine ⟨fun j h1 h2 => ?_, .inl rfl, fun j h1 h2 => by omega⟩
    have : j = l := by omega
    rw [this]
    exact Nat.le_refl _
  | k + 1 => by
    intro b
    obtain ⟨i1, i2, i3⟩ := bst_best ha hm hl k
    obtain ⟨r1, r2⟩ := bst_range (fun n => wy n m c a) (fun n => ch n c) l k
    have hb : b = if wy (bst (fun n => wy n m c a) (fun n => ch n c) l k) m c a * ch (l + k + 1) c < wy (l + k + 1) m c a * ch (bst (fun n => wy n m c a) (fun n => ch n c) l k) c then l + k + 1 else bst (fun n => wy n m c a) (fun n => ch n c) l k := rfl
    generalize bst (fun n => wy n m c a) (fun n => ch n c) l k = b0 at *
    have kx := wy_next (n := l + k) (m := m) (c := c) (a := a) (by omega) (by omega) ha (by omega)
    have ko := odds_lt (n := l + k + 1) (m := m) (c := c) (a := a) (by omega) (by omega) (by omega)
    have p1 : 0 < wy (l + k) m c a := wy_pos ha hm (by omega)
    have p2 : 0 < wy (l + k + 1) m c a := wy_pos ha hm (by omega)
    have q1 : 0 < ch (l + k) c := ch_pos (by omega)
    have q2 : 0 < ch (l + k + 1) c := ch_pos (by omega)
    have q0 : 0 < ch b0 c := ch_pos (by omega)
    have w0 : 0 < wy b0 m c a := wy_pos ha hm (by omega)
    rcases Nat.lt_or_ge ((l + k + 1) * a) (m * c) with hlt | hge
    · -- it still grows: the one before was the greatest
      have hk : b0 = l + k := by
        rcases Nat.eq_zero_or_pos k with h0 | h0
        · omega
        · have := i3 (l + k) (by omega) (Nat.le_refl _) (Nat.lt_of_le_of_lt (Nat.mul_le_mul_right a (Nat.le_succ _)) hlt)
          omega
      have hs := ko.2 hlt
      have hgrow : wy (l + k) m c a * ch (l + k + 1) c < wy (l + k + 1) m c a * ch (l + k) c := by
        rcases Nat.lt_or_ge (wy (l + k) m c a * ch (l + k + 1) c) (wy (l + k + 1) m c a * ch (l + k) c) with h | h
        · exact h
        · exfalso
          have z1 : 0 < wy (l + k) m c a * ch (l + k + 1) c := Nat.mul_pos p1 q2
          have z2 := Nat.mul_lt_mul_of_le_of_lt h hs z1
          omega
      rw [hk, if_pos hgrow] at hb
      refine ⟨fun j j1 j2 => ?_, .inr (by rw [hb]; exact hlt), fun j j1 j2 j3 => by omega⟩
      rw [hb]
      rcases Nat.lt_or_ge j (l + k + 1) with h | h
      · have t1 := i1 j j1 (by omega)
        rw [hk] at t1
        have t2 := Nat.mul_le_mul t1 (Nat.le_of_lt hgrow)
        refine Nat.le_of_mul_le_mul_right ?_ (Nat.mul_pos p1 q1)
        calc wy j m c a * ch (l + k + 1) c * (wy (l + k) m c a * ch (l + k) c) = wy j m c a * ch (l + k) c * (wy (l + k) m c a * ch (l + k + 1) c) := by ac_rfl
          _ ≤ wy (l + k) m c a * ch j c * (wy (l + k + 1) m c a * ch (l + k) c) := t2
          _ = _ := by ac_rfl
      · have : j = l + k + 1 := by omega
        rw [this]; exact Nat.le_refl _
    · -- it does not grow any more
      have hs : (l + k + 1 - m) * (l + k + 1 - c) ≤ (l + k + 1) * (l + k + 1 + a - m - c) := by
        rcases Nat.lt_or_ge ((l + k + 1) * (l + k + 1 + a - m - c)) ((l + k + 1 - m) * (l + k + 1 - c)) with h | h
        · have := ko.1 h; omega
        · exact h
      have hd : 0 < (l + k + 1) * (l + k + 1 + a - m - c) := Nat.mul_pos (by omega) (by omega)
      have hfall : wy (l + k + 1) m c a * ch (l + k) c ≤ wy (l + k) m c a * ch (l + k + 1) c := by
        refine Nat.le_of_mul_le_mul_right ?_ hd
        rw [kx]
        exact Nat.mul_le_mul_left _ hs
      have t1 := i1 (l + k) (by omega) (Nat.le_refl _)
      have hb0 : wy (l + k + 1) m c a * ch b0 c ≤ wy b0 m c a * ch (l + k + 1) c := by
        have t2 := Nat.mul_le_mul hfall t1
        refine Nat.le_of_mul_le_mul_right ?_ (Nat.mul_pos p1 q1)
        calc wy (l + k + 1) m c a * ch b0 c * (wy (l + k) m c a * ch (l + k) c) = wy (l + k + 1) m c a * ch (l + k) c * (wy (l + k) m c a * ch b0 c) := by ac_rfl
          _ ≤ wy (l + k) m c a * ch (l + k + 1) c * (wy b0 m c a * ch (l + k) c) := t2
          _ = _ := by ac_rfl
      rw [if_neg (by omega)] at hb
      rw [hb]
      refine ⟨fun j j1 j2 => ?_, i2, fun j j1 j2 j3 => ?_⟩
      · rcases Nat.lt_or_ge j (l + k + 1) with h | h
        · exact i1 j j1 (by omega)
        · have : j = l + k + 1 := by omega
          rw [this]; exact hb0
      · rcases Nat.lt_or_ge j (l + k + 1) with h | h
        · exact i3 j j1 (by omega) j3
        · have : j = l + k + 1 := by omega
          rw [this] at j3; omega
end Go.Proofs.YtegehfcnclpdeabDoor
