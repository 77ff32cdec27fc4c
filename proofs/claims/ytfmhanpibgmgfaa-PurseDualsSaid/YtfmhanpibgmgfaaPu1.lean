/-
  Purses in plain numbers: sums, valid purses, excesses, the core, balances, weak duality; what the Shapley number reckons. No program in sight.
-/
import Derived.Test.YtfmhanpibgmgfaaPnt
namespace Go.Proofs.Ytfmhanpibgmgfaa
set_option linter.unusedVariables false

/-- A sum of the first n numbers. -/
def sI (f : Nat → Int) : Nat → Int
  | 0 => 0
  | n + 1 => sI f n + f n
theorem sI_congr {f g : Nat → Int} : ∀ {n : Nat}, (∀ i, i < n → f i = g i) → sI f n = sI g n
  | 0, _ => rfl
  | n + 1, h => by
    show sI f n + f n = sI g n + g n
    rw [sI_congr (n := n) fun i hi => h i (by omega), h n (by omega)]
theorem sI_add (f g : Nat → Int) : ∀ n, sI (fun i => f i + g i) n = sI f n + sI g n
  | 0 => rfl
  | n + 1 => by
    show sI (fun i => f i + g i) n + (f n + g n) = (sI f n + f n) + (sI g n + g n)
    rw [sI_add f g n]
    omega
theorem sI_mul (c : Int) (f : Nat → Int) : ∀ n, sI (fun i => c * f i) n = c * sI f n
  | 0 => by simp [sI]
  | n + 1 => by
    show sI (fun i => c * f i) n + c * f n = c * (sI f n + f n)
    rw [sI_mul c f n, Int.mul_add]
theorem sI_zero : ∀ n, sI (fun _ => 0) n = 0
  | 0 => rfl
  | n + 1 => by
    show sI (fun _ => 0) n + 0 = 0
    rw [sI_zero n]
    rfl
theorem sI_comm (f : Nat → Nat → Int) (m : Nat) : ∀ n, sI (fun i => sI (fun k => f i k) m) n = sI (fun k => sI (fun i => f i k) n) m
  | 0 => (sI_zero m).symm
  | n + 1 => by
    show sI (fun i => sI (fun k => f i k) m) n + sI (fun k => f n k) m = sI (fun k => sI (fun i => f i k) n + f n k) m
    rw [sI_comm f m n, sI_add]
theorem sI_le {f g : Nat → Int} : ∀ {n : Nat}, (∀ i, i < n → f i ≤ g i) → sI f n ≤ sI g n
  | 0, _ => Int.le_refl _
  | n + 1, h => by
    show sI f n + f n ≤ sI g n + g n
    have h1 := sI_le (n := n) fun i hi => h i (by omega)
    have h2 := h n (by omega)
    omega
theorem sI_abs {f : Nat → Int} {B : Int} : ∀ {n : Nat}, (∀ i, i < n → -B ≤ f i ∧ f i ≤ B) → -(n * B) ≤ sI f n ∧ sI f n ≤ n * B
  | 0, _ => by simp [sI]
  | n + 1, h => by
    have h1 := sI_abs (n := n) fun i hi => h i (by omega)
    have h2 := h n (by omega)
    show -(((n + 1 : Nat) : Int) * B) ≤ sI f n + f n ∧ sI f n + f n ≤ ((n + 1 : Nat) : Int) * B
    rw [show ((n + 1 : Nat) : Int) * B = n * B + B by rw [Int.natCast_add, Int.add_mul]; simp]
    omega

/-- The number at a place of a list, 0 beyond its end. -/
def nth (l : List Int) (i : Nat) : Int := l.getD i 0
theorem nth_get {l : List Int} {i : Nat} {d : Int} (h : l[i]? = some d) : nth l i = d := by
  unfold nth
  rw [List.getD_eq_getElem?_getD, h]
  rfl
theorem get_nth {l : List Int} {i : Nat} (h : i < l.length) : l[i]? = some (nth l i) := by
  unfold nth
  rw [List.getD_eq_getElem?_getD, List.getElem?_eq_getElem h]
  rfl
def inUp (m n : Int) : Bool := decide (-m ≤ n) && decide (n ≤ m)
theorem inUp_iff {m n : Int} : inUp m n = true ↔ -m ≤ n ∧ n ≤ m := by simp [inUp]
def upB (m : Int) (l : List Int) : Bool := l.all (inUp m)
theorem upB_nth {m : Int} {l : List Int} (h : upB m l = true) (hm : 0 ≤ m) (i : Nat) : -m ≤ nth l i ∧ nth l i ≤ m := by
  rcases Nat.lt_or_ge i l.length with hi | hi
  · exact inUp_iff.1 (List.all_eq_true.1 h _ (List.mem_of_getElem? (get_nth hi)))
  · unfold nth
    rw [List.getD_eq_getElem?_getD, List.getElem?_eq_none hi]
    show -m ≤ (0 : Int) ∧ (0 : Int) ≤ m
    omega
/-- Numbers for each group of one to five players, 0 for the empty one, none too great. -/
def fgB (l : List Int) (most : Int) : Bool := (decide (l.length = 2) || decide (l.length = 4) || decide (l.length = 8) || decide (l.length = 16) || decide (l.length = 32)) && (nth l 0 == 0) && upB most l
/-- So many players have so many groups. -/
def plN (n : Nat) : Nat := if n = 2 then 1 else if n = 4 then 2 else if n = 8 then 3 else if n = 16 then 4 else if n = 32 then 5 else 0
def vdE (v : List Int) : Int := if fgB v 1000 = true then 0 else 1
structure Pv (v : List Int) (n : Nat) : Prop where
  one : 1 ≤ n
  five : n ≤ 5
  len : v.length = 2 ^ n
  pl : plN v.length = n
  zero : nth v 0 = 0
theorem fgB_pv {l : List Int} {m : Int} (h : fgB l m = true) : ∃ n, Pv l n ∧ upB m l = true := by
  unfold fgB at h
  rw [Bool.and_eq_true, Bool.and_eq_true] at h
  obtain ⟨⟨h1, h2⟩, h3⟩ := h
  have hz : nth l 0 = 0 := by simpa using h2
  have h4 : l.length = 2 ∨ l.length = 4 ∨ l.length = 8 ∨ l.length = 16 ∨ l.length = 32 := by
    simp only [Bool.or_eq_true, decide_eq_true_eq] at h1
    omega
  rcases h4 with h4 | h4 | h4 | h4 | h4
  · exact ⟨1, ⟨by omega, by omega, h4, by rw [h4]; rfl, hz⟩, h3⟩
  · exact ⟨2, ⟨by omega, by omega, h4, by rw [h4]; rfl, hz⟩, h3⟩
  · exact ⟨3, ⟨by omega, by omega, h4, by rw [h4]; rfl, hz⟩, h3⟩
  · exact ⟨4, ⟨by omega, by omega, h4, by rw [h4]; rfl, hz⟩, h3⟩
  · exact ⟨5, ⟨by omega, by omega, h4, by rw [h4]; rfl, hz⟩, h3⟩
theorem vdE_pv {v : List Int} (h : vdE v = 0) : ∃ n, Pv v n ∧ upB 1000 v = true := by
  unfold vdE at h
  split at h
  · rename_i h1; exact fgB_pv h1
  · cases h
theorem vdE_01 (v : List Int) : vdE v = 0 ∨ vdE v = 1 := by
  unfold vdE
  split
  · exact .inl rfl
  · exact .inr rfl
theorem Pv.le {v : List Int} {n : Nat} (h : Pv v n) : v.length ≤ 32 := by
  have h1 := h.five
  rw [h.len]
  have : 2 ^ n ≤ 2 ^ 5 := Nat.pow_le_pow_right (by omega) h1
  omega

/-! ### Pays -/
/-- What the players of a group get. -/
def getsF (p : Nat → Int) (g n : Nat) : Int := sI (fun i => if g.testBit i then p i else 0) n
def excF (v : List Int) (den : Int) (p : List Int) (g : Nat) : Int := den * nth v g - getsF (nth p) g p.length
def payBad (n : Nat) (den : Int) (p : List Int) : Bool := !(decide (1 ≤ den) && decide (den ≤ 1000) && decide (p.length = n) && upB 10000000 p)
def payE (v : List Int) (den : Int) (p : List Int) : Int := if vdE v = 0 then (if payBad (plN v.length) den p = true then 1 else 0) else vdE v
/-- Is the pay in the core? -/
def coreB (f : Nat → Int) (m : Nat) : Bool := decide (f (m - 1) = 0) && (List.range m).all fun g => decide (f g ≤ 0)
def ccE (v : List Int) (den : Int) (p : List Int) : Int := if payE v den p = 0 then (if coreB (excF v den p) v.length = true then 0 else 7) else payE v den p
theorem coreB_iff {f : Nat → Int} {m : Nat} : coreB f m = true ↔ f (m - 1) = 0 ∧ ∀ g, g < m → f g ≤ 0 := by
  unfold coreB
  rw [Bool.and_eq_true, decide_eq_true_iff, List.all_eq_true]
  constructor
  · rintro ⟨h1, h2⟩
    exact ⟨h1, fun g hg => of_decide_eq_true (h2 g (List.mem_range.2 hg))⟩
  · rintro ⟨h1, h2⟩
    exact ⟨h1, fun g hg => decide_eq_true (h2 g (List.mem_range.1 hg))⟩

/-! ### Balances -/
def partOk (m : Nat) (x : Pt) : Bool := decide (1 ≤ x.x) && decide (x.x < (m : Int)) && decide (1 ≤ x.y) && decide (x.y ≤ 1000)
/-- The weight of the groups of one player. -/
def wtF (xs : List Pt) (i : Nat) : Int := (xs.map fun x => if x.x.toNat.testBit i then x.y else 0).sum
def balB (xs : List Pt) (den : Int) (n : Nat) : Bool := (List.range n).all fun i => decide (wtF xs i = den)
def earnF (v : List Int) (xs : List Pt) : Int := (xs.map fun x => x.y * nth v x.x.toNat).sum
def cbE (v : List Int) (den : Int) (xs : List Pt) : Int :=
  if vdE v = 0 then
    (if (decide (1 ≤ den) && decide (den ≤ 1000) && decide (xs.length ≤ 32) && xs.all (partOk v.length) && balB xs den (plN v.length)) = true then (if earnF v xs ≤ den * nth v (v.length - 1) then 7 else 0) else 1)
  else vdE v

/-- All of a whole's players. -/
theorem gets_whole (p : Nat → Int) (n : Nat) : getsF p (2 ^ n - 1) n = sI p n :=
  sI_congr fun i hi => by rw [if_pos (by rw [Nat.testBit_two_pow_sub_one]; exact decide_eq_true hi)]
/-- What the groups of a balance are paid, weighted. -/
theorem paid_sum (p : Nat → Int) (n : Nat) : ∀ xs : List Pt, (xs.map fun x => x.y * getsF p x.x.toNat n).sum = sI (fun i => wtF xs i * p i) n
  | [] => by
    show (0 : Int) = _
    rw [sI_congr (g := fun _ => 0) fun i _ => by simp [wtF], sI_zero]
  | x :: r => by
    rw [List.map_cons, List.sum_cons, paid_sum p n r]
    have h1 : x.y * getsF p x.x.toNat n = sI (fun i => x.y * (if x.x.toNat.testBit i then p i else 0)) n := (sI_mul _ _ _).symm
    rw [h1, ← sI_add]
    refine sI_congr fun i _ => ?_
    show _ = (List.map _ (x :: r)).sum * p i
    rw [List.map_cons, List.sum_cons, Int.add_mul]
    congr 1
    by_cases h : x.x.toNat.testBit i = true
    · rw [if_pos h, if_pos h]
    · rw [if_neg h, if_neg h, Int.mul_zero, Int.zero_mul]
theorem sum_le {f g : Pt → Int} : ∀ {xs : List Pt}, (∀ x ∈ xs, f x ≤ g x) → (xs.map f).sum ≤ (xs.map g).sum
  | [], _ => Int.le_refl _
  | x :: r, h => by
    rw [List.map_cons, List.map_cons, List.sum_cons, List.sum_cons]
    have h1 := h x (by simp)
    have h2 := sum_le (xs := r) fun y hy => h y (by simp [hy])
    omega
theorem sum_mul (c : Int) (f : Pt → Int) : ∀ xs : List Pt, (xs.map fun x => c * f x).sum = c * (xs.map f).sum
  | [] => by simp
  | x :: r => by
    rw [List.map_cons, List.map_cons, List.sum_cons, List.sum_cons, sum_mul c f r, Int.mul_add]
/-- A pay in the core and a balance against it exclude each other. -/
theorem never_both {v : List Int} {den bden : Int} {p : List Int} {xs : List Pt} (hc : ccE v den p = 0) (hb : cbE v bden xs = 0) : False := by
  unfold ccE at hc
  split at hc
  case isFalse => contradiction
  rename_i hp
  split at hc
  case isFalse => cases hc
  rename_i hcore
  unfold payE at hp
  split at hp
  case isFalse => contradiction
  rename_i hv
  split at hp
  case isTrue => cases hp
  rename_i hbad
  unfold cbE at hb
  rw [if_pos hv] at hb
  split at hb
  case isFalse => cases hb
  rename_i hgood
  split at hb
  case isTrue => cases hb
  rename_i hearn
  obtain ⟨n, pv, hup⟩ := vdE_pv hv
  rw [pv.pl] at hbad hgood
  have hbad' : payBad n den p = false := by simpa using hbad
  unfold payBad at hbad'
  rw [Bool.not_eq_false'] at hbad'
  simp only [Bool.and_eq_true, decide_eq_true_eq] at hbad' hgood
  obtain ⟨⟨⟨hd1, _⟩, hpl⟩, _⟩ := hbad'
  obtain ⟨⟨⟨⟨hb1, _⟩, _⟩, hparts⟩, hbal⟩ := hgood
  obtain ⟨h0, hle⟩ := coreB_iff.1 hcore
  have hwt : ∀ i, i < n → wtF xs i = bden := fun i hi => of_decide_eq_true (List.all_eq_true.1 hbal i (List.mem_range.2 hi))
  have hps := paid_sum (nth p) n xs
  rw [sI_congr (g := fun i => bden * nth p i) fun i hi => by rw [hwt i hi], sI_mul] at hps
  have hw := gets_whole (nth p) n
  unfold excF at h0 hle
  rw [pv.len, hpl, hw] at h0
  have h1 : (xs.map fun x => den * (x.y * nth v x.x.toNat)).sum ≤ (xs.map fun x => x.y * getsF (nth p) x.x.toNat n).sum := by
    refine sum_le fun x hx => ?_
    have hx1 := List.all_eq_true.1 hparts x hx
    unfold partOk at hx1
    simp only [Bool.and_eq_true, decide_eq_true_eq] at hx1
    have h2 := hle x.x.toNat (by omega)
    rw [hpl] at h2
    have h3 : x.y * (den * nth v x.x.toNat) ≤ x.y * getsF (nth p) x.x.toNat n := Int.mul_le_mul_of_nonneg_left (by omega) (by omega)
    have h4 : den * (x.y * nth v x.x.toNat) = x.y * (den * nth v x.x.toNat) := by rw [← Int.mul_assoc, ← Int.mul_assoc, Int.mul_comm den]
    omega
  rw [sum_mul] at h1
  have h5 : den * earnF v xs ≤ bden * sI (nth p) n := by rw [← hps]; exact h1
  have h6 : bden * sI (nth p) n = den * (bden * nth v (2 ^ n - 1)) := by
    rw [show sI (nth p) n = den * nth v (2 ^ n - 1) by omega, ← Int.mul_assoc, ← Int.mul_assoc, Int.mul_comm bden]
  rw [h6] at h5
  have h7 := Int.le_of_mul_le_mul_left h5 (by omega)
  rw [pv.len] at hearn
  omega
end Go.Proofs.Ytfmhanpibgmgfaa
