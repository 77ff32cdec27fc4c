/-
  Texts merged into one (Slb, Rn1): contracts of the functions of package lure, what is reckoned of games. Conditions: as each says.
-/
import Derived.Test.YtoenecgjiejljaaDoorMt1
namespace Go.Proofs.YtoenecgjiejljaaDoor
set_option linter.unusedVariables false

/-- A text of bytes. -/
def sL (l : List UInt8) : ByteArray := ⟨l.toArray⟩
theorem bl_sL (l : List UInt8) : bl (sL l) = l := by simp [bl, sL]
theorem sL_bl (s : ByteArray) : sL (bl s) = s := bl_inj (bl_sL _)
theorem bl_app (a b : ByteArray) : bl (a ++ b) = bl a ++ bl b := by
  unfold bl
  rw [ByteArray.data_append]
  simp
theorem sL_app (a b : List UInt8) : sL a ++ sL b = sL (a ++ b) := bl_inj (by rw [bl_app, bl_sL, bl_sL, bl_sL])
theorem sL_size (l : List UInt8) : (sL l).size = l.length := by rw [← bl_len, bl_sL]
theorem bl_extract (s : ByteArray) (a b : Nat) : bl (s.extract a b) = ((bl s).drop a).take (b - a) := by
  unfold bl
  rw [ByteArray.data_extract, Array.toList_extract]
end Go.Proofs.YtoenecgjiejljaaDoor
namespace Go.Proofs.YtoenecgjiejljaaDoor
set_option linter.unusedVariables false

/-! ### Sorted lists -/
theorem strict_ext {α : Type} {r : α → α → Prop} (irr : ∀ a, ¬ r a a) (asym : ∀ a b, r a b → ¬ r b a) : ∀ {l m : List α}, l.Pairwise r → m.Pairwise r → (∀ x, x ∈ l ↔ x ∈ m) → l = m
  | [], [], _, _, _ => rfl
  | [], b :: m, _, _, h => absurd ((h b).2 (by simp)) (by simp)
  | a :: l, [], _, _, h => absurd ((h a).1 (by simp)) (by simp)
  | a :: l, b :: m, hl, hm, h => by
    rw [List.pairwise_cons] at hl hm
    have hab : a = b := by
      rcases List.mem_cons.1 ((h a).1 (by simp)) with e | ha
      · exact e
      · rcases List.mem_cons.1 ((h b).2 (by simp)) with e | hb
        · exact e.symm
        · exact absurd (hl.1 b hb) (asym _ _ (hm.1 a ha))
    subst hab
    congr 1
    refine strict_ext irr asym hl.2 hm.2 fun x => ?_
    constructor
    · intro hx
      rcases List.mem_cons.1 ((h x).1 (List.mem_cons_of_mem _ hx)) with e | hx'
      · subst e; exact absurd (hl.1 x hx) (irr x)
      · exact hx'
    · intro hx
      rcases List.mem_cons.1 ((h x).2 (List.mem_cons_of_mem _ hx)) with e | hx'
      · subst e; exact absurd (hm.1 x hx) (irr x)
      · exact hx'
/-- put: a text among ascending ones, once. -/
def putF (s : List UInt8) : Bool → List (List UInt8) → List (List UInt8)
  | true, [] => []
  | false, [] => [s]
  | true, y :: l => if y = s then putF s true l else y :: putF s true l
  | false, y :: l => if s ≤ y then s :: (if y = s then putF s true l else y :: putF s true l) else y :: putF s false l
theorem putF_true (s : List UInt8) : ∀ l, putF s true l = l.filter fun y => !decide (y = s)
  | [] => rfl
  | y :: l => by
    unfold putF
    by_cases h : y = s
    · rw [if_pos h, List.filter_cons_of_neg (by simp [h]), putF_true s l]
    · rw [if_neg h, List.filter_cons_of_pos (by simp [h]), putF_true s l]
theorem putF_false (s y : List UInt8) (l : List (List UInt8)) : putF s false (y :: l) = if s ≤ y then s :: putF s true (y :: l) else y :: putF s false l := by
  show (if s ≤ y then s :: (if y = s then putF s true l else y :: putF s true l) else y :: putF s false l) = _
  rfl
theorem put_mem (s x : List UInt8) : ∀ l, x ∈ putF s false l ↔ (x = s ∨ x ∈ l)
  | [] => by simp [putF]
  | y :: l => by
    rw [putF_false]
    by_cases h : s ≤ y
    · rw [if_pos h, putF_true]
      simp only [List.mem_cons, List.mem_filter, Bool.not_eq_true', decide_eq_false_iff_not]
      constructor
      · rintro (e | ⟨h1, h2⟩)
        · exact .inl e
        · exact .inr h1
      · rintro (e | h1)
        · exact .inl e
        · by_cases hx : x = s
          · exact .inl hx
          · exact .inr ⟨h1, hx⟩
    · rw [if_neg h, List.mem_cons, put_mem s x l, List.mem_cons]
      constructor
      · rintro (e | e | h1)
        · exact .inr (.inl e)
        · exact .inl e
        · exact .inr (.inr h1)
      · rintro (e | e | h1)
        · exact .inr (.inl e)
        · exact .inl e
        · exact .inr (.inr h1)
theorem lt_of_not_le8 {a b : List UInt8} (h : ¬ a ≤ b) : b < a := by
  rw [List.not_le] at h
  exact h
theorem put_sorted (s : List UInt8) : ∀ l : List (List UInt8), l.Pairwise (· < ·) → (putF s false l).Pairwise (· < ·)
  | [], _ => by simp [putF]
  | y :: l, h => by
    rw [putF_false]
    by_cases hle : s ≤ y
    · rw [if_pos hle, putF_true, List.pairwise_cons]
      refine ⟨fun x hx => ?_, h.filter _⟩
      simp only [List.mem_filter, Bool.not_eq_true', decide_eq_false_iff_not] at hx
      obtain ⟨hx, hne⟩ := hx
      rw [List.pairwise_cons] at h
      rcases List.mem_cons.1 hx with e | hx
      · subst e
        rcases List.le_iff_lt_or_eq.1 hle with h1 | h1
        · exact h1
        · exact absurd h1.symm hne
      · exact Std.lt_of_le_of_lt hle (h.1 x hx)
    · rw [if_neg hle]
      rw [List.pairwise_cons] at h ⊢
      refine ⟨fun x hx => ?_, put_sorted s l h.2⟩
      rcases (put_mem s x l).1 hx with e | hx
      · subst e; exact lt_of_not_le8 hle
      · exact h.1 x hx
/-- All that are put. -/
def putAll (l : List (List UInt8)) : List (List UInt8) := l.foldl (fun o s => putF s false o) []
theorem putAll_snoc (l : List (List UInt8)) (s : List UInt8) : putAll (l ++ [s]) = putF s false (putAll l) := by unfold putAll; rw [List.foldl_append]; rfl
theorem foldl_put : ∀ (l o : List (List UInt8)), o.Pairwise (· < ·) → (l.foldl (fun o s => putF s false o) o).Pairwise (· < ·) ∧ ∀ x, x ∈ l.foldl (fun o s => putF s false o) o ↔ (x ∈ l ∨ x ∈ o)
  | [], o, h => ⟨h, fun x => by simp⟩
  | s :: l, o, h => by
    obtain ⟨h1, h2⟩ := foldl_put l (putF s false o) (put_sorted s o h)
    refine ⟨h1, fun x => ?_⟩
    show x ∈ l.foldl _ _ ↔ _
    rw [h2 x, put_mem, List.mem_cons]
    constructor
    · rintro (e | e | e)
      · exact .inl (.inr e)
      · exact .inl (.inl e)
      · exact .inr e
    · rintro ((e | e) | e)
      · exact .inr (.inl e)
      · exact .inl e
      · exact .inr (.inr e)
theorem putAll_sorted (l : List (List UInt8)) : (putAll l).Pairwise (· < ·) := (foldl_put l [] List.Pairwise.nil).1
theorem putAll_mem (l : List (List UInt8)) (x : List UInt8) : x ∈ putAll l ↔ x ∈ l := by
  rw [putAll, (foldl_put l [] List.Pairwise.nil).2 x]
  simp
def srt (l : List (List UInt8)) : List (List UInt8) := l.mergeSort fun x y => decide (x ≤ y)
theorem srt_sorted {l : List (List UInt8)} (hn : l.Pairwise (· ≠ ·)) : (srt l).Pairwise (· < ·) := by
  have h1 : (srt l).Pairwise fun x y => decide (x ≤ y) = true := List.pairwise_mergeSort (fun a b c h1 h2 => by
    rw [decide_eq_true_eq] at *
    exact Std.le_trans h1 h2) (fun a b => by
    rw [Bool.or_eq_true, decide_eq_true_eq, decide_eq_true_eq]
    exact Std.le_total) l
  have h2 : (srt l).Pairwise (· ≠ ·) := (List.mergeSort_perm l _).symm.pairwise hn fun h => h.symm
  exact (h1.and h2).imp fun ⟨a, b⟩ => by
    rw [decide_eq_true_eq] at a
    rcases List.le_iff_lt_or_eq.1 a with h | h
    · exact h
    · exact absurd h b
theorem srt_mem (l : List (List UInt8)) (x : List UInt8) : x ∈ srt l ↔ x ∈ l := (List.mergeSort_perm l _).mem_iff
/-- Sorting, and putting one by one: the same. -/
theorem srt_put {l m : List (List UInt8)} (hn : l.Pairwise (· ≠ ·)) (h : ∀ x, x ∈ l ↔ x ∈ m) : srt l = putAll m :=
  strict_ext (fun a => Std.lt_irrefl) (fun a b h1 h2 => Std.lt_irrefl (Std.lt_trans h1 h2)) (srt_sorted hn) (putAll_sorted m) fun x => by rw [srt_mem, putAll_mem, h x]

/-! ### What is near -/
def cg (u : List UInt8) (p d : Nat) : List UInt8 := u.set p (UInt8.ofNat (48 + d))
def xg (u : List UInt8) (p : Nat) : List UInt8 := (u.set p (u.getD (p + 1) 0)).set (p + 1) (u.getD p 0)
def cgO (u : List UInt8) (p d : Nat) : Bool := !decide (UInt8.ofNat (48 + d) = u.getD p 0)
def xgO (u : List UInt8) (p : Nat) : Bool := !decide (u.getD p 0 = u.getD (p + 1) 0)
/-- The changed texts at a place, and all. -/
def cgP (u : List UInt8) (p k : Nat) : List (List UInt8) := ((List.range k).filter (cgO u p)).map (cg u p)
def cgL (u : List UInt8) (h k : Nat) : List (List UInt8) := (List.range k).flatMap fun i => cgP u (h + i) 10
def xgL (u : List UInt8) (h k : Nat) : List (List UInt8) := ((List.range k).filter fun i => xgO u (h + i)).map fun i => xg u (h + i)
theorem cg_at (u : List UInt8) {p d j : Nat} (hp : p < u.length) : (cg u p d).getD j 0 = if p = j then UInt8.ofNat (48 + d) else u.getD j 0 := by
  unfold cg
  rw [List.getD_eq_getElem?_getD, List.getElem?_set, List.getD_eq_getElem?_getD]
  by_cases h : p = j
  · subst h; simp [hp]
  · simp [h]
theorem xg_at (u : List UInt8) {p j : Nat} (hp : p + 1 < u.length) : (xg u p).getD j 0 = if j = p then u.getD (p + 1) 0 else if j = p + 1 then u.getD p 0 else u.getD j 0 := by
  unfold xg
  rw [List.getD_eq_getElem?_getD, List.getElem?_set, List.length_set]
  by_cases h : p + 1 = j
  · subst h
    simp [hp]
  · rw [if_neg h, List.getElem?_set]
    by_cases h2 : p = j
    · subst h2
      simp [show p < u.length by omega]
    · rw [if_neg h2, if_neg (fun e => h2 e.symm), if_neg (fun e => h e.symm), List.getD_eq_getElem?_getD]
theorem dig_byte {d e : Nat} (hd : d < 10) (he : e < 10) (h : UInt8.ofNat (48 + d) = UInt8.ofNat (48 + e)) : d = e := by
  have := congrArg UInt8.toNat h
  simp at this
  omega
theorem cgP_mem {u : List UInt8} {p k : Nat} {x : List UInt8} : x ∈ cgP u p k ↔ ∃ d, d < k ∧ cgO u p d = true ∧ x = cg u p d := by
  unfold cgP
  simp only [List.mem_map, List.mem_filter, List.mem_range]
  constructor
  · rintro ⟨d, ⟨h1, h2⟩, rfl⟩; exact ⟨d, h1, h2, rfl⟩
  · rintro ⟨d, h1, h2, rfl⟩; exact ⟨d, ⟨h1, h2⟩, rfl⟩
theorem xgL_mem {u : List UInt8} {h k : Nat} {x : List UInt8} : x ∈ xgL u h k ↔ ∃ i, i < k ∧ xgO u (h + i) = true ∧ x = xg u (h + i) := by
  unfold xgL
  simp only [List.mem_map, List.mem_filter, List.mem_range]
  constructor
  · rintro ⟨d, ⟨h1, h2⟩, rfl⟩; exact ⟨d, h1, h2, rfl⟩
  · rintro ⟨d, h1, h2, rfl⟩; exact ⟨d, ⟨h1, h2⟩, rfl⟩
theorem cgO_ne {u : List UInt8} {p d : Nat} (h : cgO u p d = true) : UInt8.ofNat (48 + d) ≠ u.getD p 0 := by simpa [cgO] using h
theorem xgO_ne {u : List UInt8} {p : Nat} (h : xgO u p = true) : u.getD p 0 ≠ u.getD (p + 1) 0 := by simpa [xgO] using h
/-- No two of them are the same. -/
theorem near_apart (u : List UInt8) (h : Nat) (hl : u.length = h + 6) : (cgL u h 6 ++ xgL u h 5).Pairwise (· ≠ ·) := by
  rw [List.pairwise_append]
  refine ⟨?_, ?_, ?_⟩
  · unfold cgL
    rw [List.pairwise_flatMap]
    refine ⟨fun i hi => ?_, ?_⟩
    · have hi := List.mem_range.1 hi
      unfold cgP
      rw [List.pairwise_map]
      refine (List.pairwise_lt_range.filter _).imp_of_mem ?_
      intro d e hd he hlt heq
      have hd := List.mem_range.1 (List.mem_filter.1 hd).1
      have he := List.mem_range.1 (List.mem_filter.1 he).1
      have := congrArg (fun l => List.getD l (h + i) 0) heq
      simp only [cg_at u (show h + i < u.length by omega), if_true] at this
      have := dig_byte hd he this
      omega
    · refine List.pairwise_lt_range.imp_of_mem ?_
      intro i j hi hj hlt x hx y hy heq
      have hi := List.mem_range.1 hi
      have hj := List.mem_range.1 hj
      obtain ⟨d, _, h1, rfl⟩ := cgP_mem.1 hx
      obtain ⟨e, _, _, rfl⟩ := cgP_mem.1 hy
      have := congrArg (fun l => List.getD l (h + i) 0) heq
      simp only [cg_at u (show h + i < u.length by omega), cg_at u (show h + j < u.length by omega), if_true] at this
      rw [if_neg (by omega)] at this
      exact cgO_ne h1 this
  · unfold xgL
    rw [List.pairwise_map]
    refine (List.pairwise_lt_range.filter _).imp_of_mem ?_
    intro i j hi hj hlt heq
    have hi' := List.mem_filter.1 hi
    have h1 := List.mem_range.1 hi'.1
    have h2 := List.mem_range.1 (List.mem_filter.1 hj).1
    have := congrArg (fun l => List.getD l (h + i) 0) heq
    simp only [xg_at u (show h + i + 1 < u.length by omega), xg_at u (show h + j + 1 < u.length by omega), if_true] at this
    rw [if_neg (by omega), if_neg (by omega)] at this
    exact xgO_ne hi'.2 this.symm
  · intro x hx y hy heq
    unfold cgL at hx
    obtain ⟨i, hi, hx⟩ := List.mem_flatMap.1 hx
    have hi := List.mem_range.1 hi
    obtain ⟨d, _, _, rfl⟩ := cgP_mem.1 hx
    obtain ⟨j, hj, hne, rfl⟩ := xgL_mem.1 hy
    have hn := xgO_ne hne
    by_cases hij : i = j
    · subst hij
      have := congrArg (fun l => List.getD l (h + i + 1) 0) heq
      simp only [cg_at u (show h + i < u.length by omega), xg_at u (show h + i + 1 < u.length by omega)] at this
      rw [if_neg (by omega), if_neg (by omega)] at this
      simp only [if_true] at this
      exact hn this.symm
    · have := congrArg (fun l => List.getD l (h + j) 0) heq
      simp only [cg_at u (show h + i < u.length by omega), xg_at u (show h + j + 1 < u.length by omega), if_true] at this
      rw [if_neg (by omega)] at this
      exact hn this
/-- What the reference puts, in its order. -/
def rfP (u : List UInt8) (h i : Nat) : List (List UInt8) := (List.range 10).map (cg u (h + i)) ++ (if 0 < i then [xg u (h + i - 1)] else [])
def rfL (u : List UInt8) (h k : Nat) : List (List UInt8) := (List.range k).flatMap (rfP u h)
theorem cg_self {u : List UInt8} {p d : Nat} (hp : p < u.length) : cg u p d = u ↔ cgO u p d = false := by
  unfold cgO
  simp only [Bool.not_eq_false', decide_eq_true_eq]
  constructor
  · intro e
    have := congrArg (fun l => List.getD l p 0) e
    simp only [cg_at u hp, if_true] at this
    exact this
  · intro e
    unfold cg
    rw [e, List.getD_eq_getElem?_getD, List.getElem?_eq_getElem hp]
    exact List.set_getElem_self hp
theorem xg_self {u : List UInt8} {p : Nat} (hp : p + 1 < u.length) : xg u p = u ↔ xgO u p = false := by
  unfold xgO
  simp only [Bool.not_eq_false', decide_eq_true_eq]
  constructor
  · intro e
    have := congrArg (fun l => List.getD l p 0) e
    simp only [xg_at u hp, if_true] at this
    exact this.symm
  · intro e
    apply List.ext_getElem?
    intro j
    by_cases hj : j < u.length
    · have h1 : ((xg u p).getD j 0) = u.getD j 0 := by
        rw [xg_at u hp]
        by_cases h1 : j = p
        · rw [if_pos h1, ← e, h1]
        · rw [if_neg h1]
          by_cases h2 : j = p + 1
          · rw [if_pos h2, e, h2]
          · rw [if_neg h2]
      have hl : (xg u p).length = u.length := by simp [xg]
      rw [List.getD_eq_getElem?_getD, List.getD_eq_getElem?_getD, List.getElem?_eq_getElem (by omega), List.getElem?_eq_getElem hj] at h1
      rw [List.getElem?_eq_getElem (by omega), List.getElem?_eq_getElem hj]
      simpa using h1
    · rw [List.getElem?_eq_none (by simp [xg]; omega), List.getElem?_eq_none (by omega)]
theorem near_same (u : List UInt8) (h : Nat) (hl : u.length = h + 6) (V : List UInt8 → Bool) (x : List UInt8) : x ∈ (cgL u h 6 ++ xgL u h 5).filter V ↔ x ∈ (rfL u h 6).filter fun y => !decide (y = u) && V y := by
  simp only [List.mem_filter, List.mem_append, Bool.and_eq_true, Bool.not_eq_true', decide_eq_false_iff_not, ← and_assoc]
  refine and_congr_left fun _ => ?_
  unfold cgL rfL rfP
  simp only [List.mem_flatMap, List.mem_append, List.mem_map, List.mem_range]
  constructor
  · rintro (⟨i, hi, hx⟩ | hx)
    · obtain ⟨d, hd, ho, rfl⟩ := cgP_mem.1 hx
      refine ⟨⟨i, hi, .inl ⟨d, hd, rfl⟩⟩, fun e => ?_⟩
      rw [(cg_self (by omega)).1 e] at ho
      cases ho
    · obtain ⟨i, hi, ho, rfl⟩ := xgL_mem.1 hx
      refine ⟨⟨i + 1, by omega, .inr ?_⟩, fun e => ?_⟩
      · rw [if_pos (by omega)]
        simp
      · rw [(xg_self (by omega)).1 e] at ho
        cases ho
  · rintro ⟨⟨i, hi, (⟨d, hd, rfl⟩ | hx)⟩, hne⟩
    · refine .inl ⟨i, hi, cgP_mem.2 ⟨d, hd, ?_, rfl⟩⟩
      cases ho : cgO u (h + i) d with
      | true => rfl
      | false => exact absurd ((cg_self (by omega)).2 ho) hne
    · by_cases h0 : 0 < i
      · rw [if_pos h0] at hx
        have hx := List.mem_singleton.1 hx
        subst hx
        refine .inr (xgL_mem.2 ⟨i - 1, by omega, ?_, by rw [show h + (i - 1) = h + i - 1 by omega]⟩)
        rw [show h + (i - 1) = h + i - 1 by omega]
        cases ho : xgO u (h + i - 1) with
        | true => rfl
        | false => exact absurd ((xg_self (by omega)).2 ho) hne
      · rw [if_neg h0] at hx
        simp at hx
end Go.Proofs.YtoenecgjiejljaaDoor
