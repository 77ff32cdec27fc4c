/-
  Texts merged into one (Sp1, Sg1): contracts of the functions of package lure, what is reckoned of games. Conditions: as each says.
-/
import Derived.WalkKit
import Derived.Lib.Strings
namespace Go.Proofs.YtoenecgjiejljaaDoor
set_option linter.unusedVariables false
section
variable {α : Type}
/-- A message, by its signals. -/
def Msg (C : List (List α)) (a : List (List α)) : Prop := ∀ x ∈ a, x ∈ C
/-- No two different messages sound alike. -/
def Safe (C : List (List α)) : Prop := ∀ a b, Msg C a → Msg C b → a.flatten = b.flatten → a = b
/-- What can be left over. -/
inductive End (C : List (List α)) : List α → Prop
  | base {x y t : List α} : x ∈ C → y ∈ C → x ≠ y → y = x ++ t → End C t
  | left {x u t : List α} : x ∈ C → End C u → u ≠ [] → u = x ++ t → End C t
  | right {x u t : List α} : x ∈ C → End C u → u ≠ [] → x = u ++ t → End C t
theorem Msg.app {C a b : List (List α)} (ha : Msg C a) (hb : Msg C b) : Msg C (a ++ b) := by
  intro x hx
  rcases List.mem_append.1 hx with h | h
  · exact ha x h
  · exact hb x h
theorem Msg.one {C : List (List α)} {x : List α} (h : x ∈ C) : Msg C [x] := by
  intro y hy
  rw [List.mem_singleton] at hy
  subst hy
  exact h
theorem Msg.cons {C a : List (List α)} {x : List α} (h : Msg C (x :: a)) : x ∈ C ∧ Msg C a := ⟨h x (List.mem_cons_self ..), fun y hy => h y (List.mem_cons_of_mem _ hy)⟩
/-- An end is what is left over of two messages that begin with different signals. -/
theorem End.two {C : List (List α)} {t : List α} (h : End C t) : ∃ (x y : List α) (a b : List (List α)), x ≠ y ∧ Msg C (x :: a) ∧ Msg C (y :: b) ∧ (x :: a).flatten ++ t = (y :: b).flatten := by
  induction h with
  | @base x y t hx hy hne he =>
    refine ⟨x, y, [], [], hne, Msg.one hx, Msg.one hy, ?_⟩
    simp [he]
  | @left z u t hz _ _ he ih =>
    obtain ⟨x, y, a, b, hne, ha, hb, hf⟩ := ih
    refine ⟨x, y, a ++ [z], b, hne, Msg.app (a := x :: a) ha (Msg.one hz), hb, ?_⟩
    rw [← hf, he]
    simp
  | @right z u t hz _ _ he ih =>
    obtain ⟨x, y, a, b, hne, ha, hb, hf⟩ := ih
    refine ⟨y, x, b, a ++ [z], fun e => hne e.symm, hb, Msg.app (a := x :: a) ha (Msg.one hz), ?_⟩
    rw [← hf, he]
    simp
/-- A code of which a signal is an end is not safe. -/
theorem not_safe {C : List (List α)} {t : List α} (h : End C t) (ht : t ∈ C) : ¬ Safe C := by
  intro hs
  obtain ⟨x, y, a, b, hne, ha, hb, hf⟩ := h.two
  have h2 := hs (x :: (a ++ [t])) (y :: b) (Msg.app (a := x :: a) ha (Msg.one ht)) hb (by rw [← hf]; simp)
  injection h2 with h3
  exact hne h3
theorem end_found {C : List (List α)} : ∀ (n : Nat) (t : List α) (a b : List (List α)), a.length + b.length ≤ n → End C t → t ≠ [] → Msg C a → Msg C b → a.flatten = t ++ b.flatten → ∃ x, x ∈ C ∧ End C x := by
  intro n
  induction n with
  | zero =>
    intro t a b hn _ ht _ _ hf
    have : a = [] := List.eq_nil_of_length_eq_zero (by omega)
    subst this
    exact absurd (List.append_eq_nil_iff.1 hf.symm).1 ht
  | succ n ih =>
    intro t a b hn he ht ha hb hf
    cases a with
    | nil => exact absurd (List.append_eq_nil_iff.1 hf.symm).1 ht
    | cons z a =>
      obtain ⟨hz, ha'⟩ := ha.cons
      rw [List.flatten_cons] at hf
      simp only [List.length_cons] at hn
      rcases List.append_eq_append_iff.1 hf with ⟨s, h1, h2⟩ | ⟨s, h1, h2⟩
      · -- t = z ++ s, a.flatten = s ++ b.flatten
        by_cases hs : s = []
        · refine ⟨z, hz, ?_⟩
          rw [hs, List.append_nil] at h1
          rw [← h1]
          exact he
        · exact ih s a b (by omega) (End.left hz he ht h1) hs ha' hb h2
      · -- z = t ++ s, b.flatten = s ++ a.flatten
        by_cases hs : s = []
        · refine ⟨z, hz, ?_⟩
          rw [hs, List.append_nil] at h1
          rw [h1]
          exact he
        · exact ih s b a (by omega) (End.right hz he ht h1) hs hb ha' h2
/-- A code of which no signal is an end is safe, if no signal is empty. -/
theorem safe_of {C : List (List α)} (hne : ∀ x ∈ C, x ≠ []) (h : ∀ x ∈ C, ¬ End C x) : Safe C := by
  intro a
  induction a with
  | nil =>
    intro b _ hb hf
    cases b with
    | nil => rfl
    | cons y b =>
      have := hne y hb.cons.1
      rw [List.flatten_cons] at hf
      exact absurd (List.append_eq_nil_iff.1 hf.symm).1 this
  | cons x a ih =>
    intro b ha hb hf
    obtain ⟨hx, ha'⟩ := ha.cons
    cases b with
    | nil =>
      rw [List.flatten_cons] at hf
      exact absurd (List.append_eq_nil_iff.1 hf).1 (hne x hx)
    | cons y b =>
      obtain ⟨hy, hb'⟩ := hb.cons
      rw [List.flatten_cons, List.flatten_cons] at hf
      by_cases hxy : x = y
      · subst hxy
        rw [ih b ha' hb' (List.append_cancel_left hf)]
      · exfalso
        rcases List.append_eq_append_iff.1 hf with ⟨s, h1, h2⟩ | ⟨s, h1, h2⟩
        · have hs : s ≠ [] := fun e => hxy (by rw [h1, e, List.append_nil])
          obtain ⟨z, hz, he⟩ := end_found _ s a b (Nat.le_refl _) (End.base hx hy hxy h1) hs ha' hb' h2
          exact h z hz he
        · have hs : s ≠ [] := fun e => hxy (by rw [h1, e, List.append_nil])
          obtain ⟨z, hz, he⟩ := end_found _ s b a (Nat.le_refl _) (End.base hy hx (fun e => hxy e.symm) h1) hs hb' ha' h2
          exact h z hz he
/-- A code of which no signal begins with another one is safe. -/
def PrefixFree (C : List (List α)) : Prop := ∀ x ∈ C, ∀ y ∈ C, x ≠ y → ∀ t, y ≠ x ++ t
theorem prefix_no_end {C : List (List α)} (h : PrefixFree C) {t : List α} : ¬ End C t := by
  intro he
  induction he with
  | base hx hy hne he => exact h _ hx _ hy hne _ he
  | left _ _ _ _ ih => exact ih
  | right _ _ _ _ ih => exact ih
theorem prefix_safe {C : List (List α)} (hne : ∀ x ∈ C, x ≠ []) (h : PrefixFree C) : Safe C := safe_of hne fun _ _ => prefix_no_end h
/-- A code is safe exactly if it is safe turned round. -/
theorem flatten_back (a : List (List α)) : (a.map List.reverse).reverse.flatten = a.flatten.reverse := by
  induction a with
  | nil => rfl
  | cons x a ih => simp only [List.map_cons, List.reverse_cons, List.flatten_append, List.flatten_cons, ih, List.flatten_nil, List.append_nil, List.reverse_append]
theorem msg_back {C a : List (List α)} (h : Msg (C.map List.reverse) a) : Msg C (a.map List.reverse).reverse := by
  intro x hx
  rw [List.mem_reverse, List.mem_map] at hx
  obtain ⟨y, hy, rfl⟩ := hx
  obtain ⟨z, hz, rfl⟩ := List.mem_map.1 (h y hy)
  rw [List.reverse_reverse]
  exact hz
theorem safe_back {C : List (List α)} (h : Safe C) : Safe (C.map List.reverse) := by
  intro a b ha hb hf
  have h2 := h _ _ (msg_back ha) (msg_back hb) (by rw [flatten_back, flatten_back, hf])
  have h3 := List.reverse_inj.1 h2
  have key : ∀ l : List (List α), (l.map List.reverse).map List.reverse = l := fun l => by
    rw [List.map_map]
    conv => rhs; rw [← List.map_id l]
    exact List.map_congr_left fun x _ => List.reverse_reverse x
  rw [← key a, ← key b, h3]
theorem safe_back_iff {C : List (List α)} : Safe (C.map List.reverse) ↔ Safe C := by
  refine ⟨fun h => ?_, safe_back⟩
  have h2 := safe_back h
  have key : (C.map List.reverse).map List.reverse = C := by
    rw [List.map_map]
    conv => rhs; rw [← List.map_id C]
    exact List.map_congr_left fun x _ => List.reverse_reverse x
  rwa [key] at h2
end
end Go.Proofs.YtoenecgjiejljaaDoor
namespace Go.Proofs.YtoenecgjiejljaaDoor
set_option linter.unusedVariables false

def bl (s : ByteArray) : List UInt8 := s.data.toList
theorem bl_inj {s t : ByteArray} (h : bl s = bl t) : s = t := by
  cases s; cases t
  unfold bl at h
  congr
  exact Array.toList_inj.1 h
theorem bl_len (s : ByteArray) : (bl s).length = s.size := by simp [bl]
theorem bl_eqb (s t : ByteArray) : (s.toList == t.toList) = decide (s = t) := by
  rw [Lib.toList_data, Lib.toList_data]
  by_cases h : s = t
  · subst h; simp
  · rw [decide_eq_false h]
    exact beq_false_of_ne fun e => h (bl_inj e)
def isNote (c : UInt8) : Bool := decide (c.toNat = 46) || decide (c.toNat = 45)
def notesB (s : ByteArray) : Bool := (bl s).all isNote
/-- Is a text a signal? -/
def sgB (s : ByteArray) : Bool := (decide (1 ≤ s.size) && decide (s.size ≤ 12)) && notesB s
def inB (s : ByteArray) (p : List ByteArray) : Bool := p.any fun t => decide (t = s)
theorem inB_iff {s : ByteArray} {p : List ByteArray} : inB s p = true ↔ s ∈ p := by
  unfold inB
  rw [List.any_eq_true]
  constructor
  · rintro ⟨t, ht, he⟩
    rw [decide_eq_true_eq] at he
    exact he ▸ ht
  · intro h
    exact ⟨s, h, by simp⟩
/-- The first error of signals, behind those that were seen. -/
def vGo : List ByteArray → List ByteArray → Int
  | _, [] => 0
  | p, s :: r => if sgB s = false then 1 else if inB s p = true then 5 else vGo (p ++ [s]) r
def vE (C : List ByteArray) : Int := if decide (C.length < 1) || decide (12 < C.length) then 3 else vGo [] C
theorem vGo_ok : ∀ {C p : List ByteArray}, vGo p C = 0 → (∀ s ∈ C, sgB s = true) ∧ C.Nodup ∧ ∀ s ∈ C, s ∉ p
  | [], p, _ => ⟨fun _ h => (by cases h), List.nodup_nil, fun _ h => (by cases h)⟩
  | s :: r, p, h => by
    unfold vGo at h
    by_cases h1 : sgB s = false
    · rw [if_pos h1] at h; cases h
    · rw [if_neg h1] at h
      by_cases h2 : inB s p = true
      · rw [if_pos h2] at h; cases h
      · rw [if_neg h2] at h
        obtain ⟨i1, i2, i3⟩ := vGo_ok h
        refine ⟨fun t ht => ?_, ?_, fun t ht => ?_⟩
        · rcases List.mem_cons.1 ht with rfl | ht
          · simpa using h1
          · exact i1 t ht
        · refine List.nodup_cons.2 ⟨fun hs => ?_, i2⟩
          exact i3 s hs (by simp)
        · rcases List.mem_cons.1 ht with rfl | ht
          · exact fun hp => h2 (inB_iff.2 hp)
          · exact fun hp => i3 t ht (List.mem_append_left _ hp)
theorem vGo_at {C : List ByteArray} {k : Nat} {s : ByteArray} (h : C[k]? = some s) : vGo (C.take k) (C.drop k) = if sgB s = false then 1 else if inB s (C.take k) = true then 5 else vGo (C.take (k + 1)) (C.drop (k + 1)) := by
  obtain ⟨hk, he⟩ := List.getElem?_eq_some_iff.1 h
  rw [List.drop_eq_getElem_cons hk, vGo, he, List.take_add_one, h]
  rfl
theorem vGo_end (C : List ByteArray) : vGo (C.take C.length) (C.drop C.length) = 0 := by
  rw [List.drop_length]; rfl
structure Vd (C : List ByteArray) : Prop where
  pos : 1 ≤ C.length
  le : C.length ≤ 12
  sg : ∀ s ∈ C, sgB s = true
  nd : C.Nodup
theorem vE_ok {C : List ByteArray} (h : vE C = 0) : Vd C := by
  unfold vE at h
  by_cases h1 : (decide (C.length < 1) || decide (12 < C.length)) = true
  · rw [if_pos h1] at h; cases h
  · rw [if_neg h1] at h
    simp only [Bool.or_eq_true, decide_eq_true_eq] at h1
    obtain ⟨a, b, _⟩ := vGo_ok h
    exact ⟨by omega, by omega, a, b⟩
theorem sgB_iff {s : ByteArray} : sgB s = true ↔ 1 ≤ s.size ∧ s.size ≤ 12 ∧ notesB s = true := by
  simp [sgB, and_assoc]

section
/-- What is left over of a signal and a text of which one begins with the other one. -/
def stp (x u : List UInt8) : Option (List UInt8) := if x <+: u then some (u.drop x.length) else if u <+: x then some (x.drop u.length) else none
abbrev Cl (C : List ByteArray) : List (List UInt8) := C.map bl
theorem pre_drop {x u : List UInt8} (h : x <+: u) : u = x ++ u.drop x.length := by
  obtain ⟨t, rfl⟩ := h
  simp
theorem stp_end {C : List ByteArray} {s : ByteArray} {u t : List UInt8} (hs : s ∈ C) (he : End (Cl C) u) (hu : u ≠ []) (h : stp (bl s) u = some t) : End (Cl C) t := by
  unfold stp at h
  have hm : bl s ∈ Cl C := List.mem_map_of_mem hs
  by_cases h1 : bl s <+: u
  · rw [if_pos h1] at h
    cases h
    exact End.left hm he hu (pre_drop h1)
  · rw [if_neg h1] at h
    by_cases h2 : u <+: bl s
    · rw [if_pos h2] at h
      cases h
      exact End.right hm he hu (pre_drop h2)
    · rw [if_neg h2] at h; cases h
/-- What is found is closed and bears the first ends: it bears all. -/
theorem end_all {C : List ByteArray} {P : List UInt8 → Prop} (hb : ∀ x ∈ C, ∀ y ∈ C, x ≠ y → ∀ t, bl y = bl x ++ t → P t) (hc : ∀ u, P u → u ≠ [] → ∀ s ∈ C, ∀ t, stp (bl s) u = some t → P t) : ∀ t, End (Cl C) t → P t := by
  intro t h
  induction h with
  | @base x y t hx hy hne he =>
    obtain ⟨x, hx2, rfl⟩ := List.mem_map.1 hx
    obtain ⟨y, hy2, rfl⟩ := List.mem_map.1 hy
    exact hb x hx2 y hy2 (fun e => hne (by rw [e])) t he
  | @left z u t hz _ hu he ih =>
    obtain ⟨z, hz2, rfl⟩ := List.mem_map.1 hz
    refine hc u ih hu z hz2 t ?_
    unfold stp
    rw [if_pos ⟨t, he.symm⟩, he]
    simp
  | @right z u t hz _ hu he ih =>
    obtain ⟨z, hz2, rfl⟩ := List.mem_map.1 hz
    refine hc u ih hu z hz2 t ?_
    unfold stp
    by_cases h1 : bl z <+: u
    · have hl := h1.length_le
      rw [he, List.length_append] at hl
      have ht : t = [] := List.eq_nil_of_length_eq_zero (by omega)
      subst ht
      rw [List.append_nil] at he
      rw [if_pos h1, he]
      simp
    · rw [if_neg h1, if_pos ⟨t, he.symm⟩, he]
      simp
/-- All ends are of these. -/
def Un (C : List ByteArray) : List (List UInt8) := C.flatMap fun s => (List.range s.size).map fun k => (bl s).drop k
theorem end_un {C : List ByteArray} {t : List UInt8} (h : End (Cl C) t) : t = [] ∨ t ∈ Un C := by
  have key : ∀ (s : ByteArray) (v t : List UInt8), s ∈ C → bl s = v ++ t → t = [] ∨ t ∈ Un C := by
    intro s v t hs he
    by_cases ht : t = []
    · exact .inl ht
    · refine .inr (List.mem_flatMap.2 ⟨s, hs, List.mem_map.2 ⟨v.length, List.mem_range.2 ?_, by rw [he]; simp⟩⟩)
      have h1 := bl_len s
      have h2 := List.length_pos_iff.2 ht
      rw [he, List.length_append] at h1
      omega
  induction h with
  | @base x y t hx hy hne he =>
    obtain ⟨y, hy2, rfl⟩ := List.mem_map.1 hy
    exact key y x t hy2 he
  | @left z u t hz _ hu he ih =>
    rcases ih with h | h
    · exact absurd h hu
    · obtain ⟨s, hs, hk⟩ := List.mem_flatMap.1 h
      obtain ⟨k, hk, rfl⟩ := List.mem_map.1 hk
      refine key s ((bl s).take k ++ z) t hs ?_
      rw [List.append_assoc, ← he, List.take_append_drop]
  | @right z u t hz _ hu he ih =>
    obtain ⟨z, hz2, rfl⟩ := List.mem_map.1 hz
    exact key z u t hz2 he
theorem nodup_sub {β : Type} [DecidableEq β] : ∀ {l m : List β}, l.Nodup → (∀ x ∈ l, x ∈ m) → l.length ≤ m.length
  | [], m, _, _ => Nat.zero_le _
  | x :: r, m, hn, h => by
    obtain ⟨h1, h2⟩ := List.nodup_cons.1 hn
    have hx := h x (List.mem_cons_self ..)
    have := nodup_sub (l := r) (m := m.erase x) h2 fun y hy => by
      have hne : y ≠ x := fun e => h1 (e ▸ hy)
      exact (List.mem_erase_of_ne hne).2 (h y (List.mem_cons_of_mem _ hy))
    rw [List.length_erase_of_mem hx] at this
    have := List.length_pos_of_mem hx
    simp only [List.length_cons]
    omega
theorem un_len {C : List ByteArray} (h : Vd C) : (Un C).length ≤ 144 := by
  have : ∀ D : List ByteArray, (∀ s ∈ D, s.size ≤ 12) → (Un D).length ≤ 12 * D.length := by
    intro D
    induction D with
    | nil => intro _; simp [Un]
    | cons s r ih =>
      intro hd
      have h1 := hd s (List.mem_cons_self ..)
      have h2 := ih fun t ht => hd t (List.mem_cons_of_mem _ ht)
      unfold Un at h2 ⊢
      rw [List.flatMap_cons, List.length_append, List.length_map, List.length_range, List.length_cons]
      omega
  have h1 := this C fun s hs => (sgB_iff.1 (h.sg s hs)).2.1
  have := h.le
  omega
/-- The code is safe. -/
noncomputable def safeC (C : List ByteArray) : Bool := @decide (Safe (Cl C)) (Classical.propDecidable _)
theorem ne_nil_of {C : List ByteArray} (h : Vd C) : ∀ x ∈ Cl C, x ≠ [] := by
  intro x hx e
  obtain ⟨s, hs, rfl⟩ := List.mem_map.1 hx
  have h1 := (sgB_iff.1 (h.sg s hs)).1
  have := bl_len s
  rw [e] at this
  simp at this
  omega
theorem end_nil {C : List ByteArray} (h : Vd C) : End (Cl C) [] ↔ ∃ x ∈ Cl C, End (Cl C) x := by
  constructor
  · intro he
    generalize hn : ([] : List UInt8) = n at he
    cases he with
    | base hx hy hne e => subst hn; rw [List.append_nil] at e; exact absurd e.symm hne
    | @left z u t hz hu hne e => subst hn; rw [List.append_nil] at e; subst e; exact ⟨_, hz, hu⟩
    | @right z u t hz hu hne e => subst hn; rw [List.append_nil] at e; subst e; exact ⟨_, hz, hu⟩
  · rintro ⟨x, hx, he⟩
    exact End.left hx he (ne_nil_of h x hx) (List.append_nil x).symm
theorem safe_iff {C : List ByteArray} (h : Vd C) : Safe (Cl C) ↔ ¬ End (Cl C) [] := by
  rw [end_nil h]
  constructor
  · rintro hs ⟨x, hx, he⟩
    exact not_safe he hx hs
  · intro hn
    exact safe_of (ne_nil_of h) fun x hx he => hn ⟨x, hx, he⟩
theorem safeC_false {C : List ByteArray} (h : Vd C) (he : End (Cl C) []) : safeC C = false := by
  unfold safeC
  exact @decide_eq_false _ (Classical.propDecidable _) fun hs => (safe_iff h).1 hs he
theorem safeC_true {C : List ByteArray} (h : Vd C) (he : ¬ End (Cl C) []) : safeC C = true := by
  unfold safeC
  exact @decide_eq_true _ (Classical.propDecidable _) ((safe_iff h).2 he)
end
/-! ### What a search has found -/
/-- The ends that were found, in their order, and whether the empty one is. -/
def InS (L : List (List UInt8)) (m : Bool) (u : List UInt8) : Prop := u ∈ L ∨ (m = true ∧ u = [])
structure Grew (C : List ByteArray) (L : List (List UInt8)) (m : Bool) (L' : List (List UInt8)) (m' : Bool) : Prop where
  pre : L <+: L'
  met : m = true → m' = true
  nd : L.Nodup → L'.Nodup
  ne : [] ∉ L → [] ∉ L'
  snd : ∀ u, InS L' m' u → InS L m u ∨ End (Cl C) u
  cl : ∀ u, u ∈ L' → u ∉ L → ∀ s ∈ C, ∀ t, stp (bl s) u = some t → InS L' m' t
theorem InS.up {C : List ByteArray} {L L' : List (List UInt8)} {m m' : Bool} {u : List UInt8} (h : InS L m u) (g : Grew C L m L' m') : InS L' m' u := by
  rcases h with h | ⟨h, he⟩
  · exact .inl (g.pre.subset h)
  · exact .inr ⟨g.met h, he⟩
theorem Grew.refl (C : List ByteArray) (L : List (List UInt8)) (m : Bool) : Grew C L m L m := ⟨List.prefix_rfl, id, id, id, fun _ h => .inl h, fun _ h hn => absurd h hn⟩
theorem Grew.trans {C : List ByteArray} {L L' L'' : List (List UInt8)} {m m' m'' : Bool} (g : Grew C L m L' m') (k : Grew C L' m' L'' m'') : Grew C L m L'' m'' := by
  refine ⟨g.pre.trans k.pre, fun h => k.met (g.met h), fun h => k.nd (g.nd h), fun h => k.ne (g.ne h), fun u hu => ?_, fun u hu hn s hs t ht => ?_⟩
  · rcases k.snd u hu with h | h
    · exact g.snd u h
    · exact .inr h
  · by_cases h : u ∈ L'
    · exact (g.cl u h hn s hs t ht).up k
    · exact k.cl u hu h s hs t ht
theorem Grew.bound {C : List ByteArray} {L : List (List UInt8)} {m : Bool} (h : Vd C) (g : Grew C [] false L m) : L.length ≤ 144 := by
  refine Nat.le_trans (nodup_sub (g.nd List.nodup_nil) fun u hu => ?_) (un_len h)
  rcases g.snd u (.inl hu) with h1 | h1
  · rcases h1 with h1 | ⟨h1, _⟩
    · cases h1
    · cases h1
  · rcases end_un h1 with h2 | h2
    · subst h2
      exact absurd hu (g.ne (by simp))
    · exact h2
/-- What was found so far is sound: there are few such. -/
structure Bd (C : List ByteArray) (L : List (List UInt8)) : Prop where
  nd : L.Nodup
  ne : [] ∉ L
  snd : ∀ u ∈ L, End (Cl C) u
theorem Bd.nil_ (C : List ByteArray) : Bd C [] := ⟨List.nodup_nil, by simp, fun _ h => by cases h⟩
theorem Bd.bound {C : List ByteArray} {L : List (List UInt8)} (h : Vd C) (g : Bd C L) : L.length ≤ 144 := by
  refine Nat.le_trans (nodup_sub g.nd fun u hu => ?_) (un_len h)
  rcases end_un (g.snd u hu) with h2 | h2
  · subst h2
    exact absurd hu g.ne
  · exact h2
theorem Bd.grew {C : List ByteArray} {L L' : List (List UInt8)} {m m' : Bool} (h : Bd C L) (g : Grew C L m L' m') : Bd C L' := by
  refine ⟨g.nd h.nd, g.ne h.ne, fun u hu => ?_⟩
  rcases g.snd u (.inl hu) with h1 | h1
  · rcases h1 with h1 | ⟨_, h1⟩
    · exact h.snd u h1
    · subst h1
      exact absurd hu (g.ne h.ne)
  · exact h1
theorem Bd.snoc {C : List ByteArray} {L : List (List UInt8)} {u : List UInt8} (h : Bd C L) (he : End (Cl C) u) (hn : u ∉ L) (hne : u ≠ []) : Bd C (L ++ [u]) := by
  refine ⟨?_, ?_, fun x hx => ?_⟩
  · rw [List.nodup_append]
    refine ⟨h.nd, by simp, fun a ha b hb e => ?_⟩
    rw [List.mem_singleton] at hb
    exact hn (by rw [← hb, ← e]; exact ha)
  · intro hc
    rcases List.mem_append.1 hc with h1 | h1
    · exact h.ne h1
    · rw [List.mem_singleton] at h1
      exact hne h1.symm
  · rcases List.mem_append.1 hx with h1 | h1
    · exact h.snd x h1
    · rw [List.mem_singleton] at h1
      rw [h1]; exact he
theorem Grew.empty {C : List ByteArray} {L : List (List UInt8)} {m : Bool} (he : End (Cl C) []) : Grew C L m L true :=
  ⟨List.prefix_rfl, fun _ => rfl, id, id, fun u h => (by
    rcases h with h | ⟨_, h⟩
    · exact .inl (.inl h)
    · subst h; exact .inr he), fun _ h hn => absurd h hn⟩
/-- All is found: the code is safe exactly if the empty end is not. -/
theorem met_safe {C : List ByteArray} {L : List (List UInt8)} {m : Bool} (h : Vd C) (g : Grew C [] false L m) (hb : ∀ x ∈ C, ∀ y ∈ C, x ≠ y → ∀ t, bl y = bl x ++ t → InS L m t) : (∀ t, InS L m t ↔ End (Cl C) t) ∧ safeC C = !m := by
  have h1 : ∀ t, InS L m t ↔ End (Cl C) t := by
    intro t
    constructor
    · intro ht
      rcases g.snd t ht with h2 | h2
      · rcases h2 with h2 | ⟨h2, _⟩ <;> cases h2
      · exact h2
    · intro ht
      refine end_all (P := InS L m) hb (fun u hu hne s hs t hst => ?_) t ht
      rcases hu with hu | ⟨_, hu⟩
      · exact g.cl u hu (by simp) s hs t hst
      · exact absurd hu hne
  refine ⟨h1, ?_⟩
  have h2 : m = true ↔ End (Cl C) [] := by
    rw [← h1]
    constructor
    · intro hm; exact .inr ⟨hm, rfl⟩
    · rintro (h3 | ⟨h3, _⟩)
      · exact absurd h3 (g.ne (by simp))
      · exact h3
  cases m
  · exact safeC_true h fun he => by cases h2.2 he
  · exact safeC_false h (h2.1 rfl)
/-- A step into an end that is not empty and new: behind it, all that comes of it. -/
theorem Grew.enter {C : List ByteArray} {L L' : List (List UInt8)} {m m' : Bool} {u : List UInt8} (hu : End (Cl C) u) (hn : u ∉ L) (hne : u ≠ []) (g : Grew C (L ++ [u]) m L' m') (hall : ∀ s ∈ C, ∀ t, stp (bl s) u = some t → InS L' m' t) : Grew C L m L' m' ∧ InS L' m' u := by
  have hin : u ∈ L' := g.pre.subset (by simp)
  refine ⟨⟨(List.prefix_append _ _).trans g.pre, g.met, fun h => g.nd ?_, fun h => g.ne ?_, fun x hx => ?_, fun x hx hxn s hs t ht => ?_⟩, .inl hin⟩
  · rw [List.nodup_append]
    refine ⟨h, by simp, fun a ha b hb e => ?_⟩
    rw [List.mem_singleton] at hb
    exact hn (by rw [← hb, ← e]; exact ha)
  · intro hc
    rcases List.mem_append.1 hc with h1 | h1
    · exact h h1
    · rw [List.mem_singleton] at h1
      exact hne h1.symm
  · rcases g.snd x hx with h1 | h1
    · rcases h1 with h1 | h1
      · rcases List.mem_append.1 h1 with h2 | h2
        · exact .inl (.inl h2)
        · rw [List.mem_singleton] at h2
          subst h2; exact .inr hu
      · exact .inl (.inr h1)
    · exact .inr h1
  · by_cases h1 : x = u
    · subst h1; exact hall s hs t ht
    · exact g.cl x hx (fun h2 => by
        rcases List.mem_append.1 h2 with h3 | h3
        · exact hxn h3
        · exact h1 (by simpa using h3)) s hs t ht
end Go.Proofs.YtoenecgjiejljaaDoor
