/-
  Orders of players, and what each adds: theory. No program in sight.
-/
import Derived.Test.YtfmhanpibgmgfaaPu2
namespace Go.Proofs.Ytfmhanpibgmgfaa
set_option linter.unusedVariables false

/-- The numbers of n players. -/
def rgI (n : Nat) : List Int := (List.range n).map fun (k : Nat) => (k : Int)
theorem mem_rgI {n : Nat} {x : Int} : x ∈ rgI n ↔ 0 ≤ x ∧ x < (n : Int) := by
  unfold rgI
  rw [List.mem_map]
  constructor
  · rintro ⟨k, hk, rfl⟩
    have := List.mem_range.1 hk
    omega
  · rintro ⟨h1, h2⟩
    exact ⟨x.toNat, List.mem_range.2 (by omega), by omega⟩
theorem rgI_len (n : Nat) : (rgI n).length = n := by simp [rgI]
theorem rgI_nodup (n : Nat) : (rgI n).Nodup := by
  unfold rgI
  rw [List.nodup_iff_pairwise_ne, List.pairwise_map]
  exact (List.nodup_range (n := n)).imp fun h e => h (by omega)
/-- Lists as long as one another, one without twins within the other. -/
theorem perm_of {R l : List Int} (hn : R.Nodup) (hs : ∀ x ∈ R, x ∈ l) (hl : l.length = R.length) : R.Perm l := by
  induction R generalizing l with
  | nil =>
    have : l = [] := List.eq_nil_of_length_eq_zero hl
    rw [this]
  | cons a r ih =>
    have ha : a ∈ l := hs a (by simp)
    have hp := List.perm_cons_erase ha
    have hn' := List.nodup_cons.1 hn
    refine (List.Perm.cons a (ih hn'.2 (fun x hx => ?_) ?_)).trans hp.symm
    · have hne : x ≠ a := fun e => hn'.1 (e ▸ hx)
      exact (List.mem_erase_of_ne hne).2 (hs x (by simp [hx]))
    · have h1 := hp.length_eq
      rw [List.length_cons] at h1 hl
      omega
/-- An order names each player once. -/
def ordB (o : List Int) (n : Nat) : Bool := decide (o.length = n) && (List.range n).all fun k => o.contains ((k : Nat) : Int)
theorem ordB_perm {o : List Int} {n : Nat} : ordB o n = true ↔ (rgI n).Perm o := by
  unfold ordB
  rw [Bool.and_eq_true, decide_eq_true_iff, List.all_eq_true]
  constructor
  · rintro ⟨h1, h2⟩
    refine perm_of (rgI_nodup n) (fun x hx => ?_) (by rw [rgI_len, h1])
    obtain ⟨h3, h4⟩ := mem_rgI.1 hx
    have := h2 x.toNat (List.mem_range.2 (by omega))
    rw [show ((x.toNat : Nat) : Int) = x by omega] at this
    exact List.contains_iff_mem.1 this
  · intro h
    refine ⟨by rw [← h.length_eq, rgI_len], fun k hk => ?_⟩
    exact List.contains_iff_mem.2 (h.mem_iff.1 (mem_rgI.2 ⟨by omega, by have := List.mem_range.1 hk; omega⟩))
theorem ord_of {o : List Int} {n : Nat} (hn : o.Nodup) (hr : ∀ x ∈ o, 0 ≤ x ∧ x < (n : Int)) (hl : o.length = n) : ordB o n = true :=
  ordB_perm.2 (perm_of hn (fun x hx => mem_rgI.2 (hr x hx)) (by rw [rgI_len, hl])).symm
structure Ord (o : List Int) (n : Nat) : Prop where
  len : o.length = n
  nd : o.Nodup
  rg : ∀ x ∈ o, 0 ≤ x ∧ x < (n : Int)
  al : ∀ k : Nat, k < n → (k : Int) ∈ o
theorem ordB_ok {o : List Int} {n : Nat} (h : ordB o n = true) : Ord o n := by
  have hp := ordB_perm.1 h
  exact ⟨by rw [← hp.length_eq, rgI_len], hp.nodup_iff.1 (rgI_nodup n), fun x hx => mem_rgI.1 (hp.mem_iff.2 hx), fun k hk => hp.mem_iff.1 (mem_rgI.2 ⟨by omega, by omega⟩)⟩
/-- The player at a place of an order. -/
def plA (o : List Int) (k : Nat) : Nat := (nth o k).toNat
theorem plA_lt {o : List Int} {n k : Nat} (h : Ord o n) (hk : k < n) : plA o k < n ∧ nth o k = (plA o k : Int) := by
  have := h.rg _ (List.mem_of_getElem? (get_nth (l := o) (i := k) (by rw [h.len]; exact hk)))
  unfold plA
  omega
theorem plA_inj {o : List Int} {n j k : Nat} (h : Ord o n) (hj : j < n) (hk : k < n) (e : plA o j = plA o k) : j = k := by
  have h1 := (plA_lt h hj).2
  have h2 := (plA_lt h hk).2
  have g1 := get_nth (l := o) (i := j) (by rw [h.len]; exact hj)
  have g2 := get_nth (l := o) (i := k) (by rw [h.len]; exact hk)
  rw [h1, e, ← h2, ← g2] at g1
  exact (List.getElem?_inj (by rw [h.len]; exact hj) h.nd).1 g1
/-- The group of the first k players of an order. -/
def msk (o : List Int) : Nat → Nat
  | 0 => 0
  | k + 1 => msk o k ||| 2 ^ plA o k
theorem msk_test (o : List Int) (i : Nat) : ∀ k, (msk o k).testBit i = (List.range k).any fun j => decide (plA o j = i)
  | 0 => by simp [msk]
  | k + 1 => by
    unfold msk
    rw [Nat.testBit_or, msk_test o i k, Nat.testBit_two_pow, List.range_succ, List.any_append]
    simp
theorem msk_new {o : List Int} {n k : Nat} (h : Ord o n) (hk : k < n) : (msk o k).testBit (plA o k) = false := by
  rw [msk_test, List.any_eq_false]
  intro j hj
  have hjk := List.mem_range.1 hj
  simp only [decide_eq_true_eq]
  intro e
  have := plA_inj h (by omega) hk e
  omega
theorem msk_lt {o : List Int} {n : Nat} (h : Ord o n) : ∀ k, k ≤ n → msk o k < 2 ^ n
  | 0, _ => Nat.two_pow_pos n
  | k + 1, hk => Nat.or_lt_two_pow (msk_lt h k (by omega)) (Nat.pow_lt_pow_right (by omega) (plA_lt h (by omega)).1)
theorem or_small : ∀ a : Fin 32, ∀ p : Fin 5, a.val.testBit p.val = false → a.val ||| 2 ^ p.val = a.val + 2 ^ p.val := by decide +kernel
theorem or_add {a p : Nat} (ha : a < 32) (hp : p < 5) (h : a.testBit p = false) : a ||| 2 ^ p = a + 2 ^ p := or_small ⟨a, ha⟩ ⟨p, hp⟩ h
theorem msk_add {o : List Int} {n k : Nat} (h : Ord o n) (hn : n ≤ 5) (hk : k < n) : msk o (k + 1) = msk o k + 2 ^ plA o k := by
  have h2 : 2 ^ n ≤ 2 ^ 5 := Nat.pow_le_pow_right (by omega) hn
  exact or_add (Nat.lt_of_lt_of_le (msk_lt h k (by omega)) h2) (Nat.lt_of_lt_of_le (plA_lt h hk).1 hn) (msk_new h hk)
theorem msk_all {o : List Int} {n : Nat} (h : Ord o n) : msk o n = 2 ^ n - 1 := by
  refine Nat.eq_of_testBit_eq fun i => ?_
  rw [Nat.testBit_two_pow_sub_one]
  by_cases hi : i < n
  · rw [decide_eq_true hi, msk_test, List.any_eq_true]
    obtain ⟨k, hk, he⟩ := List.getElem_of_mem (h.al i hi)
    refine ⟨k, List.mem_range.2 (by rw [← h.len]; exact hk), decide_eq_true ?_⟩
    unfold plA
    rw [nth_get (l := o) (i := k) (d := (i : Int)) (by rw [List.getElem?_eq_getElem hk, he])]
    rfl
  · rw [decide_eq_false hi]
    exact Nat.testBit_lt_two_pow (Nat.lt_of_lt_of_le (msk_lt h n (Nat.le_refl _)) (Nat.pow_le_pow_right (by omega) (by omega)))
/-- What each player has added, when the first k have come. -/
def stF (v o : List Int) : Nat → Nat → Int
  | 0, _ => 0
  | k + 1, i => if i = plA o k then nth v (msk o (k + 1)) - nth v (msk o k) else stF v o k i
theorem stF_new {v o : List Int} {n : Nat} (h : Ord o n) {k : Nat} (hk : k < n) : ∀ j, j ≤ k → stF v o j (plA o k) = 0
  | 0, _ => rfl
  | j + 1, hj => by
    show (if plA o k = plA o j then _ else stF v o j (plA o k)) = 0
    rw [if_neg (fun e => by have := plA_inj h hk (show j < n by omega) e; omega)]
    exact stF_new h hk j (by omega)
theorem sI_one (f g : Nat → Int) (q : Nat) (x : Int) (h : ∀ i, i ≠ q → g i = f i) (hg : g q = f q + x) : ∀ n, sI g n = sI f n + if q < n then x else 0
  | 0 => by simp [sI]
  | n + 1 => by
    show sI g n + g n = sI f n + f n + _
    rw [sI_one f g q x h hg n]
    by_cases e : n = q
    · subst e
      rw [hg, if_neg (by omega), if_pos (by omega)]
      omega
    · rw [h n e]
      by_cases hq : q < n
      · rw [if_pos hq, if_pos (by omega)]
        omega
      · rw [if_neg hq, if_neg (by omega)]
        omega
/-- Together they add the whole. -/
theorem st_sum {v o : List Int} {n : Nat} (h : Ord o n) : ∀ k, k ≤ n → sI (stF v o k) n = nth v (msk o k) - nth v 0
  | 0, _ => by
    have e : sI (stF v o 0) n = 0 := (sI_congr (f := stF v o 0) (g := fun _ => 0) fun i _ => rfl).trans (sI_zero n)
    rw [e]
    show 0 = nth v 0 - nth v 0
    omega
  | k + 1, hk => by
    rw [sI_one (stF v o k) (stF v o (k + 1)) (plA o k) (nth v (msk o (k + 1)) - nth v (msk o k)) (fun i hi => by show (if i = plA o k then _ else stF v o k i) = _; rw [if_neg hi]) (by show (if plA o k = plA o k then _ else _) = _; rw [if_pos rfl, stF_new h (by omega) k (Nat.le_refl _)]; omega), st_sum h k (by omega), if_pos (plA_lt h (by omega)).1]
    omega
def orE (v o : List Int) : Int := if vdE v = 0 then (if ordB o (plN v.length) = true then 0 else 1) else vdE v
def mgLen (v o : List Int) : Nat := if orE v o = 0 then o.length else 0
def mgL (v o : List Int) : List Int := if orE v o = 0 then rowF (stF v o o.length) o.length else []
theorem orE_ok {v o : List Int} (h : orE v o = 0) : ∃ n, Pv v n ∧ upB 1000 v = true ∧ Ord o n ∧ vdE v = 0 := by
  unfold orE at h
  split at h
  · rename_i hv
    obtain ⟨n, pv, hup⟩ := vdE_pv hv
    rw [pv.pl] at h
    split at h
    · rename_i ho
      exact ⟨n, pv, hup, ordB_ok ho, hv⟩
    · cases h
  · contradiction
theorem orE_01 (v o : List Int) : orE v o = 0 ∨ orE v o = 1 := by
  unfold orE
  split
  · split
    · exact .inl rfl
    · exact .inr rfl
  · exact vdE_01 v
end Go.Proofs.Ytfmhanpibgmgfaa
