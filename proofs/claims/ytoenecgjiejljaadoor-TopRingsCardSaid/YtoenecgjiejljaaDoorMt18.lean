/-
  Texts merged into one (Bt1, Bt2): contracts of the functions of package lure, what is reckoned of games. Conditions: as each says.
-/
import Derived.Test.YtoenecgjiejljaaDoorMt1
namespace Go.Proofs.YtoenecgjiejljaaDoor
set_option linter.unusedVariables false

def pB (c : UInt8) : Bool := decide (32 ≤ c.toNat) && decide (c.toNat ≤ 126)
/-- Is a text a page? -/
def pgB (s : ByteArray) : Bool := (decide (1 ≤ s.size) && decide (s.size ≤ 60)) && (bl s).all pB
def lfG (n : Int) (c : UInt8) : Int := (n * 257 + (c.toNat : Int) + 1) % 2147483647
/-- The sum of a page. -/
def lfS (s : ByteArray) : Int := (bl s).foldl lfG 1
/-- The sum of two sums. -/
def jn (x y : Int) : Int := (x * 48271 + y * 16807 + 1) % 2147483647
def smB (x : Int) : Bool := decide (0 ≤ x) && decide (x < 2147483647)
def Sm1 (x : Int) : Prop := 0 ≤ x ∧ x < 2147483647
theorem smB_iff {x : Int} : smB x = true ↔ Sm1 x := by unfold smB Sm1; simp
theorem jn_sm (x y : Int) : Sm1 (jn x y) := by unfold jn Sm1; omega
theorem lfG_sm (x : Int) (c : UInt8) : Sm1 (lfG x c) := by unfold lfG Sm1; omega
theorem lfS_sm (s : ByteArray) : Sm1 (lfS s) := by
  have h : ∀ (l : List UInt8) (a : Int), Sm1 a → Sm1 (l.foldl lfG a) := by
    intro l
    induction l with
    | nil => exact fun a h => h
    | cons c r ih => exact fun a _ => ih _ (lfG_sm a c)
  exact h _ _ (by unfold Sm1; omega)
def smsB (p : List Int) : Bool := p.all smB
def AllSm (p : List Int) : Prop := ∀ x ∈ p, Sm1 x
theorem smsB_iff {p : List Int} : smsB p = true ↔ AllSm p := by
  unfold smsB AllSm
  rw [List.all_eq_true]
  exact ⟨fun h x hx => smB_iff.1 (h x hx), fun h x hx => smB_iff.2 (h x hx)⟩
theorem AllSm.take {p : List Int} (h : AllSm p) (n : Nat) : AllSm (p.take n) := fun x hx => h x (List.mem_of_mem_take hx)
theorem AllSm.drop {p : List Int} (h : AllSm p) (n : Nat) : AllSm (p.drop n) := fun x hx => h x (List.mem_of_mem_drop hx)
/-- The errors of a list of pages. -/
def vpE (l : List ByteArray) : Int := if 64 < l.length then 3 else if l.all pgB = true then 0 else 1
theorem vpE_ok {l : List ByteArray} (h : vpE l = 0) : l.length ≤ 64 ∧ ∀ s ∈ l, pgB s = true := by
  unfold vpE at h
  by_cases h1 : 64 < l.length
  · rw [if_pos h1] at h; cases h
  · rw [if_neg h1] at h
    by_cases h2 : l.all pgB = true
    · exact ⟨by omega, fun s hs => List.all_eq_true.1 h2 s hs⟩
    · rw [if_neg h2] at h; cases h
theorem vpE_of {l : List ByteArray} (h : l.length ≤ 64) (h2 : ∀ s ∈ l, pgB s = true) : vpE l = 0 := by
  unfold vpE
  rw [if_neg (by omega), if_pos (List.all_eq_true.2 h2)]
theorem vpE_take {l : List ByteArray} (h : vpE l = 0) (n : Nat) : vpE (l.take n) = 0 := by
  obtain ⟨h1, h2⟩ := vpE_ok h
  exact vpE_of (by rw [List.length_take]; omega) fun s hs => h2 s (List.mem_of_mem_take hs)
theorem vpE_drop {l : List ByteArray} (h : vpE l = 0) (n : Nat) : vpE (l.drop n) = 0 := by
  obtain ⟨h1, h2⟩ := vpE_ok h
  exact vpE_of (by rw [List.length_drop]; omega) fun s hs => h2 s (List.mem_of_mem_drop hs)
/-- The sums of pages. -/
def smsL (l : List ByteArray) : List Int := l.map lfS
theorem smsL_len (l : List ByteArray) : (smsL l).length = l.length := by simp [smsL]
theorem smsL_take (l : List ByteArray) (n : Nat) : smsL (l.take n) = (smsL l).take n := by simp [smsL, List.map_take]
theorem smsL_drop (l : List ByteArray) (n : Nat) : smsL (l.drop n) = (smsL l).drop n := by simp [smsL, List.map_drop]
theorem smsL_sm (l : List ByteArray) : AllSm (smsL l) := by
  intro x hx
  obtain ⟨s, _, rfl⟩ := List.mem_map.1 hx
  exact lfS_sm s

/-- Where n sums are parted: the greatest power of two below n (for n up to 64). -/
def spN (n : Nat) : Nat := if n ≤ 2 then 1 else if n ≤ 4 then 2 else if n ≤ 8 then 4 else if n ≤ 16 then 8 else if n ≤ 32 then 16 else 32
theorem sp_lt {n : Nat} (h : 2 ≤ n) : 1 ≤ spN n ∧ spN n < n := by
  unfold spN
  repeat' split
  all_goals omega
theorem sp_dbl {n : Nat} (h : n ≤ 64) : n ≤ 2 * spN n := by
  unfold spN
  repeat' split
  all_goals omega
theorem sp_same {m n : Nat} (h : spN n < m) (h2 : m ≤ n) : spN m = spN n := by
  unfold spN at *
  repeat' split
  all_goals (repeat' split at h)
  all_goals omega
/-- A power of two that is below n, and whose double isn't. -/
theorem sp_of {n j : Nat} (h : 2 ≤ n) (h64 : n ≤ 64) (h1 : 2 ^ j < n) (h2 : n ≤ 2 ^ j * 2) : 2 ^ j = spN n := by
  have hj : j < 6 := by
    rcases Nat.lt_or_ge j 6 with h | h
    · exact h
    · have := Nat.pow_le_pow_right (show 0 < 2 by omega) h
      omega
  have : j = 0 ∨ j = 1 ∨ j = 2 ∨ j = 3 ∨ j = 4 ∨ j = 5 := by omega
  rcases this with rfl | rfl | rfl | rfl | rfl | rfl <;> (simp at h1 h2 ⊢; unfold spN; repeat' split) <;> omega
/-- A number of a list. -/
def gI (l : List Int) (k : Nat) : Int := l[k]?.getD 0
theorem gI_get {l : List Int} {k : Nat} {x : Int} (h : l[k]? = some x) : gI l k = x := by simp [gI, h]
theorem get_gI {l : List Int} {k : Nat} (h : k < l.length) : l[k]? = some (gI l k) := by simp [gI, h]
theorem gI_sm {p : List Int} (h : AllSm p) (k : Nat) : Sm1 (gI p k) := by
  unfold gI
  cases hx : p[k]? with
  | none => unfold Sm1; simp
  | some x => exact h x (List.mem_of_getElem? hx)

/-- The root of sums. -/
def rt (l : List Int) : Int :=
  if h : l.length < 2 then gI l 0 else jn (rt (l.take (spN l.length))) (rt (l.drop (spN l.length)))
termination_by l.length
decreasing_by all_goals (simp only [List.length_take, List.length_drop]; have := sp_lt (n := l.length) (by omega); omega)
theorem rt_one {l : List Int} (h : l.length < 2) : rt l = gI l 0 := by rw [rt, dif_pos h]
theorem rt_two {l : List Int} (h : 2 ≤ l.length) : rt l = jn (rt (l.take (spN l.length))) (rt (l.drop (spN l.length))) := by rw [rt, dif_neg (by omega)]
theorem rt_sm {l : List Int} (h : AllSm l) : Sm1 (rt l) := by
  by_cases h2 : l.length < 2
  · rw [rt_one h2]; exact gI_sm h 0
  · rw [rt_two (by omega)]; exact jn_sm _ _

/-- The proof of a page. -/
def pfL (l : List Int) (i : Nat) : List Int :=
  if h : l.length < 2 then [] else if i < spN l.length then pfL (l.take (spN l.length)) i ++ [rt (l.drop (spN l.length))] else pfL (l.drop (spN l.length)) (i - spN l.length) ++ [rt (l.take (spN l.length))]
termination_by l.length
decreasing_by all_goals (simp only [List.length_take, List.length_drop]; have := sp_lt (n := l.length) (by omega); omega)
theorem pf_one {l : List Int} {i : Nat} (h : l.length < 2) : pfL l i = [] := by rw [pfL, dif_pos h]
theorem pf_left {l : List Int} {i : Nat} (h : 2 ≤ l.length) (hi : i < spN l.length) : pfL l i = pfL (l.take (spN l.length)) i ++ [rt (l.drop (spN l.length))] := by rw [pfL, dif_neg (by omega), if_pos hi]
theorem pf_right {l : List Int} {i : Nat} (h : 2 ≤ l.length) (hi : spN l.length ≤ i) : pfL l i = pfL (l.drop (spN l.length)) (i - spN l.length) ++ [rt (l.take (spN l.length))] := by rw [pfL, dif_neg (by omega), if_neg (by omega)]
/-- How many sums a proof has. -/
def dpN (i n : Nat) : Nat :=
  if h : n < 2 then 0 else if i < spN n then dpN i (spN n) + 1 else dpN (i - spN n) (n - spN n) + 1
termination_by n
decreasing_by all_goals (have := sp_lt (n := n) (by omega); omega)
theorem dp_one {i n : Nat} (h : n < 2) : dpN i n = 0 := by rw [dpN, dif_pos h]
theorem dp_left {i n : Nat} (h : 2 ≤ n) (hi : i < spN n) : dpN i n = dpN i (spN n) + 1 := by rw [dpN, dif_neg (by omega), if_pos hi]
theorem dp_right {i n : Nat} (h : 2 ≤ n) (hi : spN n ≤ i) : dpN i n = dpN (i - spN n) (n - spN n) + 1 := by rw [dpN, dif_neg (by omega), if_neg (by omega)]
theorem take_len {l : List Int} (h : 2 ≤ l.length) : (l.take (spN l.length)).length = spN l.length := by
  have := sp_lt h
  rw [List.length_take]; omega
theorem drop_len (l : List Int) : (l.drop (spN l.length)).length = l.length - spN l.length := by rw [List.length_drop]
theorem pf_len : ∀ (n : Nat) (l : List Int) (i : Nat), l.length = n → (pfL l i).length = dpN i n := by
  intro n
  induction n using Nat.strongRecOn with
  | _ n ih =>
    intro l i hl
    subst hl
    by_cases h : l.length < 2
    · rw [pf_one h, dp_one h]; rfl
    · have hs := sp_lt (n := l.length) (by omega)
      by_cases hi : i < spN l.length
      · rw [pf_left (by omega) hi, dp_left (by omega) hi, List.length_append, ih _ hs.2 _ i (take_len (by omega))]
        rfl
      · rw [pf_right (by omega) (by omega), dp_right (by omega) (by omega), List.length_append, ih _ (by omega) _ _ (drop_len l)]
        rfl
theorem dp_le : ∀ (n i : Nat), dpN i n ≤ n := by
  intro n
  induction n using Nat.strongRecOn with
  | _ n ih =>
    intro i
    by_cases h : n < 2
    · rw [dp_one h]; omega
    · have hs := sp_lt (n := n) (by omega)
      by_cases hi : i < spN n
      · have := ih _ hs.2 i
        rw [dp_left (by omega) hi]; omega
      · have := ih (n - spN n) (by omega) (i - spN n)
        rw [dp_right (by omega) (by omega)]; omega
theorem pf_sm : ∀ (n : Nat) (l : List Int) (i : Nat), l.length = n → AllSm l → AllSm (pfL l i) := by
  intro n
  induction n using Nat.strongRecOn with
  | _ n ih =>
    intro l i hl hs
    subst hl
    by_cases h : l.length < 2
    · rw [pf_one h]; intro x hx; cases hx
    · have hp := sp_lt (n := l.length) (by omega)
      by_cases hi : i < spN l.length
      · rw [pf_left (by omega) hi]
        intro x hx
        rcases List.mem_append.1 hx with hx | hx
        · exact ih _ hp.2 _ i (take_len (by omega)) (hs.take _) x hx
        · rw [List.mem_singleton.1 hx]; exact rt_sm (hs.drop _)
      · rw [pf_right (by omega) (by omega)]
        intro x hx
        rcases List.mem_append.1 hx with hx | hx
        · exact ih _ (by omega) _ _ (drop_len l) (hs.drop _) x hx
        · rw [List.mem_singleton.1 hx]; exact rt_sm (hs.take _)
/-- The root that follows from the sum of a page and a proof. -/
def clI (leaf : Int) (i n : Nat) (p : List Int) : Int :=
  if h : n < 2 then leaf else if i < spN n then jn (clI leaf i (spN n) (p.take (p.length - 1))) (gI p (p.length - 1)) else jn (gI p (p.length - 1)) (clI leaf (i - spN n) (n - spN n) (p.take (p.length - 1)))
termination_by n
decreasing_by all_goals (have := sp_lt (n := n) (by omega); omega)
theorem cl_one {leaf : Int} {i n : Nat} {p : List Int} (h : n < 2) : clI leaf i n p = leaf := by rw [clI, dif_pos h]
theorem cl_left {leaf : Int} {i n : Nat} {p : List Int} (h : 2 ≤ n) (hi : i < spN n) : clI leaf i n p = jn (clI leaf i (spN n) (p.take (p.length - 1))) (gI p (p.length - 1)) := by rw [clI, dif_neg (by omega), if_pos hi]
theorem cl_right {leaf : Int} {i n : Nat} {p : List Int} (h : 2 ≤ n) (hi : spN n ≤ i) : clI leaf i n p = jn (gI p (p.length - 1)) (clI leaf (i - spN n) (n - spN n) (p.take (p.length - 1))) := by rw [clI, dif_neg (by omega), if_neg (by omega)]
theorem cl_sm (leaf : Int) (i n : Nat) (p : List Int) (h : Sm1 leaf) : Sm1 (clI leaf i n p) := by
  by_cases h2 : n < 2
  · rw [cl_one h2]; exact h
  · by_cases hi : i < spN n
    · rw [cl_left (by omega) hi]; exact jn_sm _ _
    · rw [cl_right (by omega) (by omega)]; exact jn_sm _ _
theorem snoc_last (p : List Int) (x : Int) : gI (p ++ [x]) ((p ++ [x]).length - 1) = x := by simp [gI]
theorem snoc_take (p : List Int) (x : Int) : (p ++ [x]).take ((p ++ [x]).length - 1) = p := by simp
theorem climb_pf : ∀ (n : Nat) (l : List Int) (i : Nat), l.length = n → i < n → clI (gI l i) i n (pfL l i) = rt l := by
  intro n
  induction n using Nat.strongRecOn with
  | _ n ih =>
    intro l i hl hin
    subst hl
    by_cases h : l.length < 2
    · rw [cl_one h, rt_one h, show i = 0 by omega]
    · have hp := sp_lt (n := l.length) (by omega)
      by_cases hi : i < spN l.length
      · rw [pf_left (by omega) hi, cl_left (by omega) hi, snoc_last, snoc_take, rt_two (l := l) (by omega)]
        have := ih _ hp.2 (l.take (spN l.length)) i (take_len (by omega)) hi
        rw [show gI (l.take (spN l.length)) i = gI l i by unfold gI; rw [List.getElem?_take, if_pos hi]] at this
        rw [this]
      · rw [pf_right (by omega) (by omega), cl_right (by omega) (by omega), snoc_last, snoc_take, rt_two (l := l) (by omega)]
        have := ih (l.length - spN l.length) (by omega) (l.drop (spN l.length)) (i - spN l.length) (drop_len l) (by omega)
        rw [show gI (l.drop (spN l.length)) (i - spN l.length) = gI l i by unfold gI; rw [List.getElem?_drop, show spN l.length + (i - spN l.length) = i by omega]] at this
        rw [this]
/-- On which side each sum of a proof stands, from the page up. -/
def sdL (i n : Nat) : List Bool :=
  if h : n < 2 then [] else if i < spN n then sdL i (spN n) ++ [false] else sdL (i - spN n) (n - spN n) ++ [true]
termination_by n
decreasing_by all_goals (have := sp_lt (n := n) (by omega); omega)
theorem sd_one {i n : Nat} (h : n < 2) : sdL i n = [] := by rw [sdL, dif_pos h]
theorem sd_left {i n : Nat} (h : 2 ≤ n) (hi : i < spN n) : sdL i n = sdL i (spN n) ++ [false] := by rw [sdL, dif_neg (by omega), if_pos hi]
theorem sd_right {i n : Nat} (h : 2 ≤ n) (hi : spN n ≤ i) : sdL i n = sdL (i - spN n) (n - spN n) ++ [true] := by rw [sdL, dif_neg (by omega), if_neg (by omega)]
theorem sd_len : ∀ (n i : Nat), (sdL i n).length = dpN i n := by
  intro n
  induction n using Nat.strongRecOn with
  | _ n ih =>
    intro i
    by_cases h : n < 2
    · rw [sd_one h, dp_one h]; rfl
    · have hs := sp_lt (n := n) (by omega)
      by_cases hi : i < spN n
      · rw [sd_left (by omega) hi, dp_left (by omega) hi, List.length_append, ih _ hs.2 i]; rfl
      · rw [sd_right (by omega) (by omega), dp_right (by omega) (by omega), List.length_append, ih _ (by omega)]; rfl
/-- The sums of a proof joined one after another, from the page up: after so many. -/
def stI (S : List Bool) (p : List Int) (leaf : Int) : Nat → Int
  | 0 => leaf
  | k + 1 => if S[k]? = some true then jn (gI p k) (stI S p leaf k) else jn (stI S p leaf k) (gI p k)
theorem stI_congr {S T : List Bool} {p q : List Int} {leaf : Int} : ∀ {k : Nat}, (∀ j, j < k → S[j]? = T[j]? ∧ gI p j = gI q j) → stI S p leaf k = stI T q leaf k
  | 0, _ => rfl
  | k + 1, h => by
    have h1 := h k (by omega)
    rw [stI, stI, h1.1, h1.2, stI_congr (k := k) fun j hj => h j (by omega)]
theorem gI_take {p : List Int} {k j : Nat} (h : j < k) : gI (p.take k) j = gI p j := by unfold gI; rw [List.getElem?_take, if_pos h]
theorem st_climb : ∀ (n i : Nat) (p : List Int) (leaf : Int), p.length = dpN i n → stI (sdL i n) p leaf p.length = clI leaf i n p := by
  intro n
  induction n using Nat.strongRecOn with
  | _ n ih =>
    intro i p leaf hp
    by_cases h : n < 2
    · rw [dp_one h] at hp
      rw [hp, cl_one h]; rfl
    · have hs := sp_lt (n := n) (by omega)
      by_cases hi : i < spN n
      · rw [dp_left (by omega) hi] at hp
        rw [cl_left (by omega) hi, sd_left (by omega) hi, hp, stI]
        have hl := sd_len (spN n) i
        have e : (sdL i (spN n) ++ [false])[dpN i (spN n)]? = some false := by rw [List.getElem?_append_right (by omega), hl]; simp
        rw [e, if_neg (by simp)]
        have hpt : (p.take (p.length - 1)).length = dpN i (spN n) := by rw [List.length_take]; omega
        rw [Nat.add_sub_cancel, ← ih _ hs.2 i (p.take (dpN i (spN n))) leaf (by rw [List.length_take]; omega), show (p.take (dpN i (spN n))).length = dpN i (spN n) by rw [List.length_take]; omega]
        congr 1
        exact stI_congr fun j hj => ⟨by rw [List.getElem?_append_left (by omega)], (gI_take hj).symm⟩
      · rw [dp_right (by omega) (by omega)] at hp
        rw [cl_right (by omega) (by omega), sd_right (by omega) (by omega), hp, stI]
        have hl := sd_len (n - spN n) (i - spN n)
        have e : (sdL (i - spN n) (n - spN n) ++ [true])[dpN (i - spN n) (n - spN n)]? = some true := by rw [List.getElem?_append_right (by omega), hl]; simp
        rw [e, if_pos rfl]
        rw [Nat.add_sub_cancel, ← ih (n - spN n) (by omega) (i - spN n) (p.take (dpN (i - spN n) (n - spN n))) leaf (by rw [List.length_take]; omega), show (p.take (dpN (i - spN n) (n - spN n))).length = dpN (i - spN n) (n - spN n) by rw [List.length_take]; omega]
        congr 1
        exact stI_congr fun j hj => ⟨by rw [List.getElem?_append_left (by omega)], (gI_take hj).symm⟩
end Go.Proofs.YtoenecgjiejljaaDoor
namespace Go.Proofs.YtoenecgjiejljaaDoor
set_option linter.unusedVariables false

/-- The proof of growth. -/
def grL (l : List Int) (m : Nat) (old : Bool) : List Int :=
  if h : l.length < 2 ∨ m = l.length then (if old = true then [] else [rt l])
  else if m ≤ spN l.length then grL (l.take (spN l.length)) m old ++ [rt (l.drop (spN l.length))] else grL (l.drop (spN l.length)) (m - spN l.length) false ++ [rt (l.take (spN l.length))]
termination_by l.length
decreasing_by all_goals (simp only [List.length_take, List.length_drop]; have := sp_lt (n := l.length) (by omega); omega)
/-- How many sums it has. -/
def gsN (m n : Nat) (old : Bool) : Nat :=
  if h : n < 2 ∨ m = n then (if old = true then 0 else 1) else if m ≤ spN n then gsN m (spN n) old + 1 else gsN (m - spN n) (n - spN n) false + 1
termination_by n
decreasing_by all_goals (have := sp_lt (n := n) (by omega); omega)
/-- The two roots that follow from it. -/
def unI (base : Int) (m n : Nat) (old : Bool) (p : List Int) : Int × Int :=
  if h : n < 2 ∨ m = n then (if old = true then (base, base) else (gI p (p.length - 1), gI p (p.length - 1)))
  else if m ≤ spN n then ((unI base m (spN n) old (p.take (p.length - 1))).1, jn (unI base m (spN n) old (p.take (p.length - 1))).2 (gI p (p.length - 1)))
  else (jn (gI p (p.length - 1)) (unI base (m - spN n) (n - spN n) false (p.take (p.length - 1))).1, jn (gI p (p.length - 1)) (unI base (m - spN n) (n - spN n) false (p.take (p.length - 1))).2)
termination_by n
decreasing_by all_goals (have := sp_lt (n := n) (by omega); omega)
section
variable {l p : List Int} {m n : Nat} {old : Bool} {base : Int}
theorem gr_end (h : l.length < 2 ∨ m = l.length) : grL l m old = if old = true then [] else [rt l] := by rw [grL, dif_pos h]
theorem gr_left (h : 2 ≤ l.length) (hm : m ≤ spN l.length) : grL l m old = grL (l.take (spN l.length)) m old ++ [rt (l.drop (spN l.length))] := by
  have := sp_lt h
  rw [grL, dif_neg (by omega), if_pos hm]
theorem gr_right (h : 2 ≤ l.length) (hm : spN l.length < m) (hn : m ≠ l.length) : grL l m old = grL (l.drop (spN l.length)) (m - spN l.length) false ++ [rt (l.take (spN l.length))] := by rw [grL, dif_neg (by omega), if_neg (by omega)]
theorem gs_end (h : n < 2 ∨ m = n) : gsN m n old = if old = true then 0 else 1 := by rw [gsN, dif_pos h]
theorem gs_left (h : 2 ≤ n) (hm : m ≤ spN n) : gsN m n old = gsN m (spN n) old + 1 := by
  have := sp_lt h
  rw [gsN, dif_neg (by omega), if_pos hm]
theorem gs_right (h : 2 ≤ n) (hm : spN n < m) (hn : m ≠ n) : gsN m n old = gsN (m - spN n) (n - spN n) false + 1 := by rw [gsN, dif_neg (by omega), if_neg (by omega)]
theorem un_end (h : n < 2 ∨ m = n) : unI base m n old p = if old = true then (base, base) else (gI p (p.length - 1), gI p (p.length - 1)) := by rw [unI, dif_pos h]
theorem un_left (h : 2 ≤ n) (hm : m ≤ spN n) : unI base m n old p = ((unI base m (spN n) old (p.take (p.length - 1))).1, jn (unI base m (spN n) old (p.take (p.length - 1))).2 (gI p (p.length - 1))) := by
  have := sp_lt h
  rw [unI, dif_neg (by omega), if_pos hm]
theorem un_right (h : 2 ≤ n) (hm : spN n < m) (hn : m ≠ n) : unI base m n old p = (jn (gI p (p.length - 1)) (unI base (m - spN n) (n - spN n) false (p.take (p.length - 1))).1, jn (gI p (p.length - 1)) (unI base (m - spN n) (n - spN n) false (p.take (p.length - 1))).2) := by rw [unI, dif_neg (by omega), if_neg (by omega)]
end
theorem gr_len : ∀ (n : Nat) (l : List Int) (m : Nat) (old : Bool), l.length = n → (grL l m old).length = gsN m n old := by
  intro n
  induction n using Nat.strongRecOn with
  | _ n ih =>
    intro l m old hl
    subst hl
    by_cases h : l.length < 2 ∨ m = l.length
    · rw [gr_end h, gs_end h]
      cases old <;> rfl
    · have hs := sp_lt (n := l.length) (by omega)
      by_cases hi : m ≤ spN l.length
      · rw [gr_left (by omega) hi, gs_left (by omega) hi, List.length_append, ih _ hs.2 _ m old (take_len (by omega))]
        rfl
      · rw [gr_right (by omega) (by omega) (by omega), gs_right (by omega) (by omega) (by omega), List.length_append, ih _ (by omega) _ _ _ (drop_len l)]
        rfl
theorem gs_le : ∀ (n m : Nat) (old : Bool), gsN m n old ≤ n + 1 := by
  intro n
  induction n using Nat.strongRecOn with
  | _ n ih =>
    intro m old
    by_cases h : n < 2 ∨ m = n
    · rw [gs_end h]
      cases old <;> simp
    · have hs := sp_lt (n := n) (by omega)
      by_cases hi : m ≤ spN n
      · have := ih _ hs.2 m old
        rw [gs_left (by omega) hi]; omega
      · have := ih (n - spN n) (by omega) (m - spN n) false
        rw [gs_right (by omega) (by omega) (by omega)]; omega
theorem gr_sm : ∀ (n : Nat) (l : List Int) (m : Nat) (old : Bool), l.length = n → AllSm l → AllSm (grL l m old) := by
  intro n
  induction n using Nat.strongRecOn with
  | _ n ih =>
    intro l m old hl hs
    subst hl
    by_cases h : l.length < 2 ∨ m = l.length
    · rw [gr_end h]
      cases old
      · intro x hx
        rw [show x = rt l by simpa using hx]
        exact rt_sm hs
      · intro x hx; cases hx
    · have hp := sp_lt (n := l.length) (by omega)
      by_cases hi : m ≤ spN l.length
      · rw [gr_left (by omega) hi]
        intro x hx
        rcases List.mem_append.1 hx with hx | hx
        · exact ih _ hp.2 _ m old (take_len (by omega)) (hs.take _) x hx
        · rw [List.mem_singleton.1 hx]; exact rt_sm (hs.drop _)
      · rw [gr_right (by omega) (by omega) (by omega)]
        intro x hx
        rcases List.mem_append.1 hx with hx | hx
        · exact ih _ (by omega) _ _ _ (drop_len l) (hs.drop _) x hx
        · rw [List.mem_singleton.1 hx]; exact rt_sm (hs.take _)
theorem un_sm : ∀ (n m : Nat) (old : Bool) (p : List Int) (base : Int), AllSm p → Sm1 base → Sm1 (unI base m n old p).1 ∧ Sm1 (unI base m n old p).2 := by
  intro n
  induction n using Nat.strongRecOn with
  | _ n ih =>
    intro m old p base hp hb
    by_cases h : n < 2 ∨ m = n
    · rw [un_end h]
      cases old
      · exact ⟨gI_sm hp _, gI_sm hp _⟩
      · exact ⟨hb, hb⟩
    · have hs := sp_lt (n := n) (by omega)
      by_cases hi : m ≤ spN n
      · rw [un_left (by omega) hi]
        exact ⟨(ih _ hs.2 m old _ base (hp.take _) hb).1, jn_sm _ _⟩
      · rw [un_right (by omega) (by omega) (by omega)]
        exact ⟨jn_sm _ _, jn_sm _ _⟩
/-- The proof of growth proves both roots. -/
theorem un_grow : ∀ (n : Nat) (l : List Int) (m : Nat) (old : Bool) (base : Int), l.length = n → 1 ≤ m → m ≤ n → (old = true → base = rt (l.take m)) → unI base m n old (grL l m old) = (rt (l.take m), rt l) := by
  intro n
  induction n using Nat.strongRecOn with
  | _ n ih =>
    intro l m old base hl h1 hmn hb
    subst hl
    by_cases h : l.length < 2 ∨ m = l.length
    · have hm : m = l.length := by omega
      subst hm
      rw [un_end h, gr_end h]
      cases old
      · simp [gI]
      · have hb' := hb rfl
        rw [List.take_length] at hb' ⊢
        simp [hb']
    · have hs := sp_lt (n := l.length) (by omega)
      by_cases hi : m ≤ spN l.length
      · rw [gr_left (by omega) hi, un_left (by omega) hi, snoc_last, snoc_take]
        have ht : (l.take (spN l.length)).take m = l.take m := by rw [List.take_take, Nat.min_eq_left hi]
        have := ih _ hs.2 (l.take (spN l.length)) m old base (take_len (by omega)) h1 hi (by rw [ht]; exact hb)
        rw [this, ht, rt_two (l := l) (by omega)]
      · have := ih (l.length - spN l.length) (by omega) (l.drop (spN l.length)) (m - spN l.length) false base (drop_len l) (by omega) (by omega) (fun h => by cases h)
        rw [gr_right (by omega) (by omega) (by omega), un_right (by omega) (by omega) (by omega), snoc_last, snoc_take, this, rt_two (l := l) (by omega)]
        have hlm : (l.take m).length = m := by rw [List.length_take]; omega
        have hsm : spN m = spN l.length := sp_same (by omega) hmn
        rw [rt_two (l := l.take m) (by omega), hlm, hsm, List.take_take, Nat.min_eq_left (by omega), List.drop_take]
/-- What the reference finds when it takes the sums from the front. -/
def uoK (m n : Nat) (old : Bool) (p : List Int) : Bool := decide (gsN m n old ≤ p.length)
def uoF (base : Int) (m n : Nat) (old : Bool) (p : List Int) : Int × Int := if gsN m n old ≤ p.length then unI base m n old (p.take (gsN m n old)) else (0, 0)
def uoU (m n : Nat) (old : Bool) (p : List Int) : Nat := if gsN m n old ≤ p.length then gsN m n old else 0
theorem uo_all {base : Int} {m n : Nat} {old : Bool} {p : List Int} (h : p.length = gsN m n old) : uoK m n old p = true ∧ uoF base m n old p = unI base m n old p ∧ uoU m n old p = p.length := by
  unfold uoK uoF uoU
  rw [h, decide_eq_true (Nat.le_refl _), if_pos (Nat.le_refl _), if_pos (Nat.le_refl _), ← h, List.take_length]
  exact ⟨rfl, rfl, rfl⟩
theorem uo_not {m n : Nat} {old : Bool} {p : List Int} (h : p.length ≠ gsN m n old) : uoK m n old p = false ∨ (uoK m n old p = true ∧ uoU m n old p ≠ p.length) := by
  by_cases hl : gsN m n old ≤ p.length
  · refine .inr ⟨decide_eq_true hl, ?_⟩
    unfold uoU
    rw [if_pos hl]
    exact fun e => h e.symm
  · exact .inl (decide_eq_false hl)
theorem uo_step {base : Int} {m n m' n' : Nat} {old old' : Bool} {p : List Int} (hg : gsN m n old = gsN m' n' old' + 1) :
    (uoK m' n' old' p = true ∧ uoU m' n' old' p < p.length ∧ uoK m n old p = true ∧ uoU m n old p = uoU m' n' old' p + 1 ∧ uoF base m' n' old' p = unI base m' n' old' ((p.take (gsN m n old)).take ((p.take (gsN m n old)).length - 1)) ∧ gI (p.take (gsN m n old)) ((p.take (gsN m n old)).length - 1) = gI p (uoU m' n' old' p) ∧ uoF base m n old p = unI base m n old (p.take (gsN m n old))) ∨
    (uoK m' n' old' p = true ∧ uoU m' n' old' p = p.length ∧ uoK m n old p = false ∧ uoU m n old p = 0 ∧ uoF base m n old p = (0, 0)) ∨
    (uoK m' n' old' p = false ∧ uoK m n old p = false ∧ uoU m n old p = 0 ∧ uoF base m n old p = (0, 0)) := by
  unfold uoK uoF uoU
  rcases Nat.lt_trichotomy (gsN m' n' old') p.length with h | h | h
  · refine .inl ?_
    rw [if_pos (by omega), if_pos (by omega), if_pos (by omega), if_pos (by omega), decide_eq_true (by omega), decide_eq_true (by omega)]
    have hl : (p.take (gsN m n old)).length - 1 = gsN m' n' old' := by rw [List.length_take]; omega
    rw [hl, List.take_take, Nat.min_eq_left (by omega)]
    exact ⟨rfl, h, rfl, hg, rfl, gI_take (by omega), rfl⟩
  · refine .inr (.inl ?_)
    rw [if_pos (by omega), if_neg (by omega), if_neg (by omega), decide_eq_true (by omega), decide_eq_false (by omega)]
    exact ⟨rfl, h, rfl, rfl, rfl⟩
  · refine .inr (.inr ?_)
    rw [if_neg (by omega), if_neg (by omega), decide_eq_false (by omega), decide_eq_false (by omega)]
    exact ⟨rfl, rfl, rfl, rfl⟩

/-- How many pages two lists have in common at their beginnings. -/
def cmN : List ByteArray → List ByteArray → Nat
  | s :: a, t :: b => if s = t then cmN a b + 1 else 0
  | _, _ => 0
theorem cm_take : ∀ (a b : List ByteArray), a.take (cmN a b) = b.take (cmN a b)
  | [], _ => by simp [cmN]
  | s :: a, [] => by simp [cmN]
  | s :: a, t :: b => by
    unfold cmN
    by_cases h : s = t
    · rw [if_pos h, List.take_succ_cons, List.take_succ_cons, h, cm_take a b]
    · rw [if_neg h]; rfl
theorem cm_le : ∀ (a b : List ByteArray), cmN a b ≤ a.length ∧ cmN a b ≤ b.length
  | [], _ => by simp [cmN]
  | s :: a, [] => by simp [cmN]
  | s :: a, t :: b => by
    have := cm_le a b
    unfold cmN
    split
    · simp only [List.length_cons]; omega
    · simp
/-- A number up to which they agree, and not further. -/
theorem cm_of : ∀ (a b : List ByteArray) (k : Nat), (∀ j, j < k → a[j]? = b[j]? ∧ j < a.length) → (a.length ≤ k ∨ b.length ≤ k ∨ a[k]? ≠ b[k]?) → cmN a b = k
  | [], b, k, h, _ => by
    rcases Nat.eq_zero_or_pos k with h0 | h0
    · rw [h0]; simp [cmN]
    · have := (h 0 h0).2
      simp at this
  | s :: a, [], k, h, _ => by
    rcases Nat.eq_zero_or_pos k with h0 | h0
    · rw [h0]; simp [cmN]
    · have := (h 0 h0).1
      simp at this
  | s :: a, t :: b, k, h, h2 => by
    unfold cmN
    rcases Nat.eq_zero_or_pos k with h0 | h0
    · subst h0
      rw [if_neg]
      intro e
      rcases h2 with h2 | h2 | h2
      · simp at h2
      · simp at h2
      · simp [e] at h2
    · obtain ⟨q, rfl⟩ : ∃ q, k = q + 1 := ⟨k - 1, by omega⟩
      have e : s = t := by simpa using (h 0 h0).1
      rw [if_pos e, cm_of a b q (fun j hj => by have := h (j + 1) (by omega); simpa using this) (by simpa using h2)]
end Go.Proofs.YtoenecgjiejljaaDoor
