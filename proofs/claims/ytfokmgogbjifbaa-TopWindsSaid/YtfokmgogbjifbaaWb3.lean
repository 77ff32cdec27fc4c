/-
  The arcs of a set of points: where they begin, how far they run, what they have. No program in sight.
-/
import Derived.Test.YtfokmgogbjifbaaWb2
namespace Go.Proofs.Ytfokmgogbjifbaa
open Go.RowKit
set_option linter.unusedVariables false

/-- The numbers below k that belong to a set, in ascending order. -/
def listK (f : Nat → Bool) (k : Nat) : List Int := ((List.range k).filter f).map fun (j : Nat) => (j : Int)
def listB (f : Nat → Bool) : List Int := listK f 32
theorem listK_zero (f : Nat → Bool) : listK f 0 = [] := rfl
theorem listK_yes {f : Nat → Bool} {k : Nat} (h : f k = true) : listK f (k + 1) = listK f k ++ [(k : Int)] := by simp [listK, List.range_succ, List.filter_append, h]
theorem listK_no {f : Nat → Bool} {k : Nat} (h : f k = false) : listK f (k + 1) = listK f k := by simp [listK, List.range_succ, List.filter_append, h]
theorem listK_le (f : Nat → Bool) (k : Nat) : (listK f k).length ≤ k := by
  have := List.length_filter_le f (List.range k)
  simpa [listK] using this
theorem listB_le (f : Nat → Bool) : (listB f).length ≤ 32 := listK_le f 32
theorem listK_mem {f : Nat → Bool} {k : Nat} {d : Int} (h : d ∈ listK f k) : ∃ j : Nat, d = (j : Int) ∧ j < k ∧ f j = true := by
  simp only [listK, List.mem_map, List.mem_filter, List.mem_range] at h
  obtain ⟨j, ⟨hj, hf⟩, rfl⟩ := h
  exact ⟨j, rfl, hj, hf⟩
theorem listK_congr {f g : Nat → Bool} {k : Nat} (h : ∀ j, j < k → f j = g j) : listK f k = listK g k := by
  unfold listK
  congr 1
  exact List.filter_congr fun j hj => h j (List.mem_range.1 hj)
theorem listK_none {f : Nat → Bool} {k : Nat} (h : ∀ j, j < k → f j = false) : listK f k = [] := by
  induction k with
  | zero => rfl
  | succ k ih => rw [listK_no (h k (by omega)), ih fun j hj => h j (by omega)]
theorem listK_one {f : Nat → Bool} {p : Nat} : ∀ {k : Nat}, p < k → (∀ j, j < k → (f j = true ↔ j = p)) → listK f k = [(p : Int)]
  | k + 1, hp, h => by
    by_cases hk : p = k
    · subst hk
      rw [listK_yes ((h p (by omega)).2 rfl), listK_none]
      · rfl
      · intro j hj
        have := h j (by omega)
        cases hf : f j
        · rfl
        · have := this.1 hf; omega
    · have hf : f k = false := by
        have := h k (by omega)
        cases hf : f k
        · rfl
        · have := this.1 hf; omega
      rw [listK_no hf]
      exact listK_one (by omega) fun j hj => h j (by omega)

/-- How many points follow each other from p on. -/
def runN (x p : Nat) : Nat := ((List.range 32).find? fun d => !x.testBit ((p + d) % 32)).getD 32
theorem run_is {x p d : Nat} (hd : d < 32) (h : ∀ j, j < d → x.testBit ((p + j) % 32) = true) (h0 : x.testBit ((p + d) % 32) = false) : runN x p = d := by
  have e : ((List.range 32).find? fun d => !x.testBit ((p + d) % 32)) = some d := by
    rw [List.find?_range_eq_some]
    refine ⟨by simp [h0], by simpa using hd, fun j hj => ?_⟩
    simp [h j hj]
  unfold runN
  rw [e]
  rfl
theorem run_in {x p j : Nat} (h : j < runN x p) : x.testBit ((p + j) % 32) = true := by
  unfold runN at h
  cases e : ((List.range 32).find? fun d => !x.testBit ((p + d) % 32)) with
  | none =>
    rw [e] at h
    have := List.find?_eq_none.1 e j (by simpa using h)
    simpa using this
  | some d =>
    rw [e] at h
    have := (List.find?_range_eq_some.1 e).2.2 j h
    simpa using this
theorem run_le (x p : Nat) : runN x p ≤ 32 := by
  unfold runN
  cases e : ((List.range 32).find? fun d => !x.testBit ((p + d) % 32)) with
  | none => simp
  | some d =>
    have h := (List.find?_range_eq_some.1 e).2.1
    rw [List.mem_range] at h
    simp
    omega
theorem run_ge {x p d : Nat} (hd : d < 32) (h : ∀ j, j ≤ d → x.testBit ((p + j) % 32) = true) : d < runN x p := by
  unfold runN
  cases e : ((List.range 32).find? fun d => !x.testBit ((p + d) % 32)) with
  | none => simpa using hd
  | some m =>
    have h1 := (List.find?_range_eq_some.1 e).1
    simp at h1
    rcases Nat.lt_or_ge d m with h2 | h2
    · simpa using h2
    · rw [h m h2] at h1; cases h1
theorem not_full {x : Nat} (hx : x < 4294967296) (hn : x ≠ 4294967295) : ∃ j, j < 32 ∧ x.testBit j = false := by
  apply Classical.byContradiction
  intro h
  apply hn
  have : bitK x.testBit 32 = bitK (fun _ => true) 32 := bitK_congr fun j hj => by
    cases hb : x.testBit j
    · exact absurd ⟨j, hj, hb⟩ h
    · rfl
  rw [← bitK_of hx, this, all32]
/-- Where an arc begins. -/
def startB (x p : Nat) : Bool := x.testBit p && !x.testBit ((p + 31) % 32)
def startN (x : Nat) : Nat := x &&& (4294967295 - rotN x 1)
theorem startN_lt {x : Nat} (hx : x < 4294967296) : startN x < 4294967296 := Nat.lt_of_le_of_lt Nat.and_le_left hx
theorem startN_test {x p : Nat} (hx : x < 4294967296) (hp : p < 32) : (startN x).testBit p = startB x p := by
  unfold startN startB
  have h := rot_lt (s := 1) hx
  rw [Nat.testBit_and, show (4294967295 - rotN x 1) = 2 ^ 32 - (rotN x 1 + 1) by omega, Nat.testBit_two_pow_sub_succ h, rot_test hx (by decide) hp]
  simp [hp]
/-- The arcs of a set. -/
def arcsN (x : Nat) : List Pt := (listB (startB x)).map fun p => ⟨p, (runN x p.toNat : Nat)⟩
def arcsL (x : Nat) : List Pt := if x = 4294967295 then [⟨0, 32⟩] else arcsN x
theorem arcsN_len (x : Nat) : (arcsN x).length ≤ 32 := by
  have := listB_le (startB x)
  simpa [arcsN] using this
theorem arcsL_len (x : Nat) : (arcsL x).length ≤ 32 := by
  unfold arcsL
  split
  · simp
  · exact arcsN_len x

/-! ### An arc is the arcs of its points -/
def normA (a : Pt) : Pt := if a.y = 32 then ⟨0, 32⟩ else a
theorem inArc_test {f w j : Nat} (hj : j < 32) : (ptsN f w).testBit j = inArc f w j := bitK_test _ _ _ hj
theorem inArc_iff {f w j : Nat} : inArc f w j = true ↔ (j + 32 - f) % 32 < w := by simp [inArc]
theorem arcs_arc {a : Pt} (h : (0 ≤ a.x ∧ a.x < 32) ∧ (1 ≤ a.y ∧ a.y ≤ 32)) : arcsL (arcN a) = [normA a] := by
  obtain ⟨x, y⟩ := a
  simp only at h
  obtain ⟨f, rfl⟩ := Int.eq_ofNat_of_zero_le h.1.1
  obtain ⟨w, rfl⟩ := Int.eq_ofNat_of_zero_le (show 0 ≤ y by omega)
  have hf : f < 32 := by omega
  have hw : 1 ≤ w ∧ w ≤ 32 := by omega
  unfold arcN normA
  simp only [Int.toNat_natCast]
  by_cases hfull : w = 32
  · subst hfull
    have e : ptsN f 32 = 4294967295 := by
      rw [← all32]
      exact bitK_congr fun j hj => by
        rw [inArc_iff]
        exact Nat.mod_lt _ (by decide)
    rw [e]
    rfl
  · have hne : ptsN f w ≠ 4294967295 := by
      intro e
      have := bitK_full e (j := (f + 31) % 32) (Nat.mod_lt _ (by decide))
      rw [inArc_iff] at this
      omega
    have hst : ∀ p, p < 32 → (startB (ptsN f w) p = true ↔ p = f) := by
      intro p hp
      unfold startB
      rw [inArc_test hp, inArc_test (Nat.mod_lt _ (by decide))]
      have h1 := inArc_iff (f := f) (w := w) (j := p)
      have h2 := inArc_iff (f := f) (w := w) (j := (p + 31) % 32)
      cases hb1 : inArc f w p <;> cases hb2 : inArc f w ((p + 31) % 32) <;> rw [hb1] at h1 <;> rw [hb2] at h2 <;> simp at h1 h2 ⊢ <;> omega
    have hrun : runN (ptsN f w) f = w := by
      refine run_is (by omega) (fun j hj => ?_) ?_
      · rw [inArc_test (Nat.mod_lt _ (by decide)), inArc_iff]; omega
      · rw [inArc_test (Nat.mod_lt _ (by decide))]
        cases hb : inArc f w ((f + w) % 32)
        · rfl
        · rw [inArc_iff] at hb; omega
    unfold arcsL arcsN listB
    rw [if_neg hne, listK_one hf hst, if_neg (by omega)]
    simp [hrun]

/-! ### The arcs of a set have just its points -/
theorem arc_in {x p j : Nat} (hp : p < 32) (hj : j < 32) (h : inArc p (runN x p) j = true) : x.testBit j = true := by
  rw [inArc_iff] at h
  have := run_in h
  rwa [show (p + (j + 32 - p) % 32) % 32 = j by omega] at this
theorem arc_apart {x p q j : Nat} (hp : p < 32) (hq : q < 32) (hj : j < 32) (sp : startB x p = true) (sq : startB x q = true) (h1 : inArc p (runN x p) j = true) (h2 : inArc q (runN x q) j = true) : p = q := by
  have key : ∀ p q : Nat, p < 32 → q < 32 → startB x p = true → inArc p (runN x p) j = true → inArc q (runN x q) j = true → ¬ (j + 32 - p) % 32 < (j + 32 - q) % 32 := by
    intro p q hp hq sp h1 h2 hlt
    rw [inArc_iff] at h1 h2
    have hb := run_in (show (j + 32 - q) % 32 - (j + 32 - p) % 32 - 1 < runN x q by omega)
    have e : (q + ((j + 32 - q) % 32 - (j + 32 - p) % 32 - 1)) % 32 = (p + 31) % 32 := by omega
    rw [e] at hb
    unfold startB at sp
    rw [hb] at sp
    simp at sp
  have a := key p q hp hq sp h1 h2
  have b := key q p hq hp sq h2 h1
  omega
theorem arc_some {x j : Nat} (hj : j < 32) (h : x.testBit j = true) (hz : ∃ i, i < 32 ∧ x.testBit i = false) : ∃ p, p < 32 ∧ startB x p = true ∧ inArc p (runN x p) j = true := by
  obtain ⟨i, hi, h0⟩ := hz
  -- the first point, backwards, that is missing
  have hex : ∃ d, d < 32 ∧ x.testBit ((j + 32 - d) % 32) = false := ⟨(j + 32 - i) % 32, Nat.mod_lt _ (by decide), by rw [show (j + 32 - (j + 32 - i) % 32) % 32 = i by omega]; exact h0⟩
  have hmin : ∃ d, d < 32 ∧ x.testBit ((j + 32 - d) % 32) = false ∧ ∀ e, e < d → x.testBit ((j + 32 - e) % 32) = true := by
    obtain ⟨d, hd, hb⟩ := hex
    induction d using Nat.strongRecOn with
    | _ d ih =>
      by_cases hall : ∀ e, e < d → x.testBit ((j + 32 - e) % 32) = true
      · exact ⟨d, hd, hb, hall⟩
      · obtain ⟨e, he⟩ := Classical.not_forall.1 hall
        obtain ⟨he1, he2⟩ := Classical.not_imp.1 he
        exact ih e he1 (by omega) (by simpa using he2)
  obtain ⟨d, hd, hb, hall⟩ := hmin
  have hd0 : d ≠ 0 := by
    intro e
    subst e
    rw [show (j + 32 - 0) % 32 = j by omega, h] at hb
    cases hb
  refine ⟨(j + 32 - (d - 1)) % 32, Nat.mod_lt _ (by decide), ?_, ?_⟩
  · unfold startB
    rw [hall (d - 1) (by omega), show ((j + 32 - (d - 1)) % 32 + 31) % 32 = (j + 32 - d) % 32 by omega, hb]
    rfl
  · rw [inArc_iff]
    have := run_ge (x := x) (p := (j + 32 - (d - 1)) % 32) (d := d - 1) (by omega) fun e he => by
      have := hall (d - 1 - e) (by omega)
      rwa [show (j + 32 - (d - 1 - e)) % 32 = ((j + 32 - (d - 1)) % 32 + e) % 32 by omega] at this
    omega
/-- The points of the first arcs. -/
def anyA (l : List Pt) (j : Nat) : Bool := l.any fun a => hasN a j
theorem arcs_mem {x : Nat} {a : Pt} (h : a ∈ arcsN x) : ∃ p : Nat, p < 32 ∧ startB x p = true ∧ a = ⟨p, (runN x p : Nat)⟩ := by
  obtain ⟨d, hd, rfl⟩ := List.mem_map.1 h
  obtain ⟨p, rfl, hp, hs⟩ := listK_mem hd
  exact ⟨p, hp, hs, by simp⟩
theorem arcs_all {x : Nat} (hx : x < 4294967296) (hn : x ≠ 4294967295) : bitK (anyA (arcsN x)) 32 = x := by
  rw [← bitK_of hx]
  refine bitK_congr fun j hj => ?_
  rw [bitK_of hx]
  rw [Bool.eq_iff_iff]
  unfold anyA
  rw [List.any_eq_true]
  constructor
  · rintro ⟨a, ha, h⟩
    obtain ⟨p, hp, hs, rfl⟩ := arcs_mem ha
    unfold hasN at h
    simp only [Int.toNat_natCast] at h
    exact arc_in hp hj h
  · intro h
    obtain ⟨p, hp, hs, hin⟩ := arc_some hj h (not_full hx hn)
    refine ⟨⟨p, (runN x p : Nat)⟩, ?_, by unfold hasN; simpa using hin⟩
    unfold arcsN
    refine List.mem_map.2 ⟨(p : Int), ?_, by simp⟩
    unfold listB listK
    exact List.mem_map.2 ⟨p, by simp [hp, hs], rfl⟩
theorem arcsN_eq (x : Nat) : arcsN x = ((List.range 32).filter (startB x)).map fun (p : Nat) => (⟨p, (runN x p : Nat)⟩ : Pt) := by
  unfold arcsN listB listK
  rw [List.map_map]
  rfl
theorem arcsL_disj {x i j : Nat} {a : Pt} (h : (arcsL x)[i]? = some a) (hj : j < 32) : (anyA ((arcsL x).take i) j && hasN a j) = false := by
  unfold arcsL at h ⊢
  split at h
  · rename_i hx
    rw [if_pos hx]
    have hi : i = 0 := by
      have := (List.getElem?_eq_some_iff.1 h).1
      simp at this
      exact this
    subst hi
    rfl
  · rename_i hx
    rw [if_neg hx]
    cases hb : (anyA ((arcsN x).take i) j && hasN a j)
    · rfl
    · exfalso
      rw [Bool.and_eq_true] at hb
      obtain ⟨h1, h2⟩ := hb
      unfold anyA at h1
      obtain ⟨b, hb, h3⟩ := List.any_eq_true.1 h1
      obtain ⟨k, hk, he⟩ := List.getElem_of_mem hb
      have hki : k < i := by simp at hk; omega
      have hbk : (arcsN x)[k]? = some b := by
        rw [← he, List.getElem_take]
        exact List.getElem?_eq_getElem _
      rw [arcsN_eq, List.getElem?_map] at h hbk
      obtain ⟨p, hp, rfl⟩ := Option.map_eq_some_iff.1 h
      obtain ⟨q, hq, rfl⟩ := Option.map_eq_some_iff.1 hbk
      have mp := List.mem_filter.1 (List.mem_of_getElem? hp)
      have mq := List.mem_filter.1 (List.mem_of_getElem? hq)
      unfold hasN at h2 h3
      simp only [Int.toNat_natCast] at h2 h3
      have e := arc_apart (List.mem_range.1 mp.1) (List.mem_range.1 mq.1) hj mp.2 mq.2 h2 h3
      subst e
      have nd : ((List.range 32).filter (startB x)).Nodup := List.nodup_range.filter _
      obtain ⟨hi1, hp1⟩ := List.getElem?_eq_some_iff.1 hp
      obtain ⟨hi2, hq1⟩ := List.getElem?_eq_some_iff.1 hq
      exact List.pairwise_iff_getElem.1 nd k i hi2 hi1 hki (hq1.trans hp1.symm)
theorem arcsL_all {x : Nat} (hx : x < 4294967296) : bitK (anyA (arcsL x)) 32 = x := by
  unfold arcsL
  split
  · rename_i h
    subst h
    rfl
  · rename_i h
    exact arcs_all hx h
theorem arcsL_ok {x : Nat} {a : Pt} (h : a ∈ arcsL x) : (0 ≤ a.x ∧ a.x < 32) ∧ (1 ≤ a.y ∧ a.y ≤ 32) := by
  unfold arcsL at h
  split at h
  · simp at h
    subst h
    decide
  · obtain ⟨p, hp, hs, rfl⟩ := arcs_mem h
    have h1 := run_le x p
    have h2 := run_ge (x := x) (p := p) (d := 0) (by decide) fun j hj => by
      obtain rfl : j = 0 := by omega
      unfold startB at hs
      rw [Bool.and_eq_true] at hs
      rw [show (p + 0) % 32 = p by omega]
      exact hs.1
    exact ⟨⟨by simp only; omega, by simp only; omega⟩, ⟨by simp only; omega, by simp only; omega⟩⟩
theorem arcE_of {a : Pt} (h : (0 ≤ a.x ∧ a.x < 32) ∧ (1 ≤ a.y ∧ a.y ≤ 32)) : arcE a = 0 := by
  unfold arcE
  rw [if_pos]
  rw [Bool.and_eq_true, pt_iff, wd_iff]
  exact h
end Go.Proofs.Ytfokmgogbjifbaa
