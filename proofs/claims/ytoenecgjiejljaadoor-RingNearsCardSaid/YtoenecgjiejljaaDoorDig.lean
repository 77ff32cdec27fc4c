/-
  Plain mathematics of the ten digits: the product, the turn, the sum of a list, what errors it finds. No Go in sight.
-/
namespace Go.Proofs.YtoenecgjiejljaaDoor

/-- The product of two digits. -/
def mulD (x y : Int) : Int :=
  if x < 5 then (if y < 5 then (x + y) % 5 else 5 + (x + y - 5) % 5)
  else (if y < 5 then 5 + (x - 5 - y) % 5 else (x - y) % 5)
/-- The inverse. -/
def invD (x : Int) : Int := if x < 5 then (5 - x) % 5 else x
/-- The turn. -/
def trnD (x : Int) : Int :=
  if x = 0 then 1 else if x = 1 then 5 else if x = 2 then 7 else if x = 3 then 6 else if x = 4 then 2 else
  if x = 5 then 8 else if x = 6 then 3 else if x = 7 then 0 else if x = 8 then 9 else 4
def turnN : Nat → Int → Int
  | 0, x => x
  | k + 1, x => trnD (turnN k x)
/-- The sum of a list of digits. -/
def sumL : List Int → Int
  | [] => 0
  | d :: l => mulD (sumL l) (turnN l.length d)

def Dig (x : Int) : Prop := 0 ≤ x ∧ x ≤ 9
def isDig (x : Int) : Bool := decide (0 ≤ x) && decide (x ≤ 9)
theorem isDig_iff {x : Int} : isDig x = true ↔ Dig x := by simp [isDig, Dig]
theorem isDig_not {x : Int} : isDig x = false ↔ (x < 0 ∨ 9 < x) := by
  unfold isDig; simp; omega
theorem Dig.fin {x : Int} (h : Dig x) : ∃ i : Fin 10, x = (i.val : Int) := by
  obtain ⟨a, b⟩ := h
  exact ⟨⟨x.toNat, by omega⟩, by simp; omega⟩
theorem dig_mul {x y : Int} (hx : Dig x) (hy : Dig y) : Dig (mulD x y) := by
  obtain ⟨a, b⟩ := hx; obtain ⟨c, d⟩ := hy
  unfold Dig mulD; split <;> split <;> omega
theorem dig_inv {x : Int} (hx : Dig x) : Dig (invD x) := by
  unfold Dig at *; unfold invD; split <;> omega
theorem dig_trn (x : Int) : Dig (trnD x) := by
  unfold Dig trnD; repeat' split
  all_goals omega
theorem dig_turn {x : Int} (hx : Dig x) (k : Nat) : Dig (turnN k x) := by
  cases k with
  | zero => exact hx
  | succ k => exact dig_trn _
theorem dig_sum {l : List Int} (h : ∀ d ∈ l, Dig d) : Dig (sumL l) := by
  induction l with
  | nil => exact ⟨by decide, by decide⟩
  | cons d l ih => exact dig_mul (ih fun x hx => h x (List.mem_cons_of_mem _ hx)) (dig_turn (h d List.mem_cons_self) _)

theorem assoc_fin : ∀ x y z : Fin 10, mulD (mulD x.val y.val) z.val = mulD x.val (mulD y.val z.val) := by decide +kernel
theorem one_fin : ∀ x : Fin 10, mulD 0 x.val = x.val ∧ mulD x.val 0 = x.val ∧ mulD (invD x.val) x.val = 0 ∧ mulD x.val (invD x.val) = 0 := by decide +kernel
theorem inv_fin : ∀ x y : Fin 10, (mulD x.val y.val = 0 ↔ (y.val : Int) = invD x.val) := by decide +kernel
theorem trn_fin : ∀ x y : Fin 10, trnD x.val = trnD y.val → x = y := by decide +kernel
theorem swap_fin : ∀ x y : Fin 10, mulD x.val (trnD y.val) = mulD y.val (trnD x.val) → x = y := by decide +kernel

theorem mul_assoc' {x y z : Int} (hx : Dig x) (hy : Dig y) (hz : Dig z) : mulD (mulD x y) z = mulD x (mulD y z) := by
  obtain ⟨i, rfl⟩ := hx.fin; obtain ⟨j, rfl⟩ := hy.fin; obtain ⟨k, rfl⟩ := hz.fin
  exact assoc_fin i j k
theorem one_mul' {x : Int} (hx : Dig x) : mulD 0 x = x := by obtain ⟨i, rfl⟩ := hx.fin; exact (one_fin i).1
theorem mul_one' {x : Int} (hx : Dig x) : mulD x 0 = x := by obtain ⟨i, rfl⟩ := hx.fin; exact (one_fin i).2.1
theorem inv_mul {x : Int} (hx : Dig x) : mulD (invD x) x = 0 := by obtain ⟨i, rfl⟩ := hx.fin; exact (one_fin i).2.2.1
theorem mul_inv {x : Int} (hx : Dig x) : mulD x (invD x) = 0 := by obtain ⟨i, rfl⟩ := hx.fin; exact (one_fin i).2.2.2
theorem mul_eq_zero {x y : Int} (hx : Dig x) (hy : Dig y) : mulD x y = 0 ↔ y = invD x := by
  obtain ⟨i, rfl⟩ := hx.fin; obtain ⟨j, rfl⟩ := hy.fin; exact inv_fin i j
theorem cancel_left {x y z : Int} (hx : Dig x) (hy : Dig y) (hz : Dig z) (h : mulD x y = mulD x z) : y = z := by
  have e := congrArg (mulD (invD x)) h
  rwa [← mul_assoc' (dig_inv hx) hx hy, ← mul_assoc' (dig_inv hx) hx hz, inv_mul hx, one_mul' hy, one_mul' hz] at e
theorem cancel_right {x y z : Int} (hx : Dig x) (hy : Dig y) (hz : Dig z) (h : mulD y x = mulD z x) : y = z := by
  have e : mulD (mulD y x) (invD x) = mulD (mulD z x) (invD x) := by rw [h]
  rwa [mul_assoc' hy hx (dig_inv hx), mul_assoc' hz hx (dig_inv hx), mul_inv hx, mul_one' hy, mul_one' hz] at e
theorem trn_inj {x y : Int} (hx : Dig x) (hy : Dig y) (h : trnD x = trnD y) : x = y := by
  obtain ⟨i, rfl⟩ := hx.fin; obtain ⟨j, rfl⟩ := hy.fin; rw [trn_fin i j h]
theorem turn_inj {x y : Int} (hx : Dig x) (hy : Dig y) : ∀ k, turnN k x = turnN k y → x = y
  | 0, h => h
  | k + 1, h => turn_inj hx hy k (trn_inj (dig_turn hx k) (dig_turn hy k) h)
theorem swap_ne {x y : Int} (hx : Dig x) (hy : Dig y) (h : mulD x (trnD y) = mulD y (trnD x)) : x = y := by
  obtain ⟨i, rfl⟩ := hx.fin; obtain ⟨j, rfl⟩ := hy.fin; rw [swap_fin i j h]

/-- What stands ahead of a list multiplies from the right. -/
def sumA : List Int → Nat → Int
  | [], _ => 0
  | d :: l, k => mulD (sumA l k) (turnN (l.length + k) d)
theorem dig_sumA {l : List Int} (h : ∀ d ∈ l, Dig d) (k : Nat) : Dig (sumA l k) := by
  induction l with
  | nil => exact ⟨by simp [sumA], by simp [sumA]⟩
  | cons d l ih => exact dig_mul (ih fun x hx => h x (List.mem_cons_of_mem _ hx)) (dig_turn (h d List.mem_cons_self) _)
theorem sum_append {a l : List Int} (ha : ∀ d ∈ a, Dig d) (hl : ∀ d ∈ l, Dig d) : sumL (a ++ l) = mulD (sumL l) (sumA a l.length) := by
  induction a with
  | nil => simp [sumA, mul_one' (dig_sum hl)]
  | cons d a ih =>
    have ha' : ∀ x ∈ a, Dig x := fun x hx => ha x (List.mem_cons_of_mem _ hx)
    simp only [List.cons_append, sumL, sumA, List.length_append]
    rw [ih ha', mul_assoc' (dig_sum hl) (dig_sumA ha' _) (dig_turn (ha d List.mem_cons_self) _)]

/-- A wrong digit changes the sum. -/
theorem sum_wrong {a l : List Int} {d e : Int} (ha : ∀ x ∈ a, Dig x) (hl : ∀ x ∈ l, Dig x) (hd : Dig d) (he : Dig e) (h : sumL (a ++ d :: l) = sumL (a ++ e :: l)) : d = e := by
  have h1 : ∀ x ∈ d :: l, Dig x := fun x hx => by rcases List.mem_cons.1 hx with rfl | hx; exact hd; exact hl x hx
  have h2 : ∀ x ∈ e :: l, Dig x := fun x hx => by rcases List.mem_cons.1 hx with rfl | hx; exact he; exact hl x hx
  rw [sum_append ha h1, sum_append ha h2] at h
  simp only [List.length_cons] at h
  have h3 := cancel_right (dig_sumA ha _) (dig_sum h1) (dig_sum h2) h
  exact turn_inj hd he _ (cancel_left (dig_sum hl) (dig_turn hd _) (dig_turn he _) h3)
/-- Two different neighbors exchanged change the sum. -/
theorem sum_swap {a l : List Int} {d e : Int} (ha : ∀ x ∈ a, Dig x) (hl : ∀ x ∈ l, Dig x) (hd : Dig d) (he : Dig e) (h : sumL (a ++ d :: e :: l) = sumL (a ++ e :: d :: l)) : d = e := by
  have h1 : ∀ x ∈ d :: e :: l, Dig x := fun x hx => by
    rcases List.mem_cons.1 hx with rfl | hx; exact hd
    rcases List.mem_cons.1 hx with rfl | hx; exact he; exact hl x hx
  have h2 : ∀ x ∈ e :: d :: l, Dig x := fun x hx => by
    rcases List.mem_cons.1 hx with rfl | hx; exact he
    rcases List.mem_cons.1 hx with rfl | hx; exact hd; exact hl x hx
  rw [sum_append ha h1, sum_append ha h2] at h
  simp only [List.length_cons] at h
  have h3 := cancel_right (dig_sumA ha _) (dig_sum h1) (dig_sum h2) h
  simp only [sumL, List.length_cons, turnN] at h3
  have D1 := dig_turn hd l.length
  have D2 := dig_turn he l.length
  rw [mul_assoc' (dig_sum hl) D2 (dig_trn _), mul_assoc' (dig_sum hl) D1 (dig_trn _)] at h3
  have h4 := cancel_left (dig_sum hl) (dig_mul D2 (dig_trn _)) (dig_mul D1 (dig_trn _)) h3
  exact (turn_inj he hd _ (swap_ne D2 D1 h4)).symm
end Go.Proofs.YtoenecgjiejljaaDoor
