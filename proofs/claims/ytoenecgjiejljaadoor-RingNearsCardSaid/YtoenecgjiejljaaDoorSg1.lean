/-
  Codes of texts: which are valid, what can be left over, when it is all found. No program in sight. No condition.
-/
import Derived.Test.YtoenecgjiejljaaDoorSp1
import Derived.WalkKit
import Derived.Lib.Strings
namespace Go.Proofs.YtoenecgjiejljaaDoor
set_option linter.unusedVariables false

def bl (s : ByteArray) : List UInt8 := s.data.toList
theorem bl_inj {s t : ByteArray} (h : bl s = bl t) : s = t := by
  cases s; cases t
  unfold bl at h
  congr
  exact Array.toList_inj.1 h
theorem bl_len (s : ByteArray) : (bl s).length = s.size := by simp [bl]
theorem bl_eqb (s t : ByteArray) : (s.toList == t.toList) = decide (s = t) := by
  rw [Lib.toList_data, Lib.toList_data]
  by_cases h : s = t
  · subst h; simp
  · rw [decide_eq_false h]
    exact beq_false_of_ne fun e => h (bl_inj e)
def isNote (c : UInt8) : Bool := decide (c.toNat = 46) || decide (c.toNat = 45)
def notesB (s : ByteArray) : Bool := (bl s).all isNote
/-- Is a text a signal? -/
def sgB (s : ByteArray) : Bool := (decide (1 ≤ s.size) && decide (s.size ≤ 12)) && notesB s
def inB (s : ByteArray) (p : List ByteArray) : Bool := p.any fun t => decide (t = s)
theorem inB_iff {s : ByteArray} {p : List ByteArray} : inB s p = true ↔ s ∈ p := by
  unfold inB
  rw [List.any_eq_true]
  constructor
  · rintro ⟨t, ht, he⟩
    rw [decide_eq_true_eq] at he
    exact he ▸ ht
  · intro h
    exact ⟨s, h, by simp⟩
/-- The first error of signals, behind those that were seen. -/
def vGo : List ByteArray → List ByteArray → Int
  | _, [] => 0
  | p, s :: r => if sgB s = false then 1 else if inB s p = true then 5 else vGo (p ++ [s]) r
def vE (C : List ByteArray) : Int := if decide (C.length < 1) || decide (12 < C.length) then 3 else vGo [] C
theorem vGo_ok : ∀ {C p : List ByteArray}, vGo p C = 0 → (∀ s ∈ C, sgB s = true) ∧ C.Nodup ∧ ∀ s ∈ C, s ∉ p
  | [], p, _ => ⟨fun _ h => (by cases h), List.nodup_nil, fun _ h => (by cases h)⟩
  | s :: r, p, h => by
    unfold vGo at h
    by_cases h1 : sgB s = false
    · rw [if_pos h1] at h; cases h
    · rw [if_neg h1] at h
      by_cases h2 : inB s p = true
      · rw [if_pos h2] at h; cases h
      · rw [if_neg h2] at h
        obtain ⟨i1, i2, i3⟩ := vGo_ok h
        refine ⟨fun t ht => ?_, ?_, fun t ht => ?_⟩
        · rcases List.mem_cons.1 ht with rfl | ht
          · simpa using h1
          · exact i1 t ht
        · refine List.nodup_cons.2 ⟨fun hs => ?_, i2⟩
          exact i3 s hs (by simp)
        · rcases List.mem_cons.1 ht with rfl | ht
          · exact fun hp => h2 (inB_iff.2 hp)
          · exact fun hp => i3 t ht (List.mem_append_left _ hp)
theorem vGo_at {C : List ByteArray} {k : Nat} {s : ByteArray} (h : C[k]? = some s) : vGo (C.take k) (C.drop k) = if sgB s = false then 1 else if inB s (C.take k) = true then 5 else vGo (C.take (k + 1)) (C.drop (k + 1)) := by
  obtain ⟨hk, he⟩ := List.getElem?_eq_some_iff.1 h
  rw [List.drop_eq_getElem_cons hk, vGo, he, List.take_add_one, h]
  rfl
theorem vGo_end (C : List ByteArray) : vGo (C.take C.length) (C.drop C.length) = 0 := by
  rw [List.drop_length]; rfl
structure Vd (C : List ByteArray) : Prop where
  pos : 1 ≤ C.length
  le : C.length ≤ 12
  sg : ∀ s ∈ C, sgB s = true
  nd : C.Nodup
theorem vE_ok {C : List ByteArray} (h : vE C = 0) : Vd C := by
  unfold vE at h
  by_cases h1 : (decide (C.length < 1) || decide (12 < C.length)) = true
  · rw [if_pos h1] at h; cases h
  · rw [if_neg h1] at h
    simp only [Bool.or_eq_true, decide_eq_true_eq] at h1
    obtain ⟨a, b, _⟩ := vGo_ok h
    exact ⟨by omega, by omega, a, b⟩
theorem sgB_iff {s : ByteArray} : sgB s = true ↔ 1 ≤ s.size ∧ s.size ≤ 12 ∧ notesB s = true := by
  simp [sgB, and_assoc]

section
/-- What is left over of a signal and a text of which one begins with the other one. -/
def stp (x u : List UInt8) : Option (List UInt8) := if x <+: u then some (u.drop x.length) else if u <+: x then some (x.drop u.length) else none
abbrev Cl (C : List ByteArray) : List (List UInt8) := C.map bl
theorem pre_drop {x u : List UInt8} (h : x <+: u) : u = x ++ u.drop x.length := by
  obtain ⟨t, rfl⟩ := h
  simp
theorem stp_end {C : List ByteArray} {s : ByteArray} {u t : List UInt8} (hs : s ∈ C) (he : End (Cl C) u) (hu : u ≠ []) (h : stp (bl s) u = some t) : End (Cl C) t := by
  unfold stp at h
  have hm : bl s ∈ Cl C := List.mem_map_of_mem hs
  by_cases h1 : bl s <+: u
  · rw [if_pos h1] at h
    cases h
    exact End.left hm he hu (pre_drop h1)
  · rw [if_neg h1] at h
    by_cases h2 : u <+: bl s
    · rw [if_pos h2] at h
      cases h
      exact End.right hm he hu (pre_drop h2)
    · rw [if_neg h2] at h; cases h
/-- What is found is closed and bears the first ends: it bears all. -/
theorem end_all {C : List ByteArray} {P : List UInt8 → Prop} (hb : ∀ x ∈ C, ∀ y ∈ C, x ≠ y → ∀ t, bl y = bl x ++ t → P t) (hc : ∀ u, P u → u ≠ [] → ∀ s ∈ C, ∀ t, stp (bl s) u = some t → P t) : ∀ t, End (Cl C) t → P t := by
  intro t h
  induction h with
  | @base x y t hx hy hne he =>
    obtain ⟨x, hx2, rfl⟩ := List.mem_map.1 hx
    obtain ⟨y, hy2, rfl⟩ := List.mem_map.1 hy
    exact hb x hx2 y hy2 (fun e => hne (by rw [e])) t he
  | @left z u t hz _ hu he ih =>
    obtain ⟨z, hz2, rfl⟩ := List.mem_map.1 hz
    refine hc u ih hu z hz2 t ?_
    unfold stp
    rw [if_pos ⟨t, he.symm⟩, he]
    simp
  | @right z u t hz _ hu he ih =>
    obtain ⟨z, hz2, rfl⟩ := List.mem_map.1 hz
    refine hc u ih hu z hz2 t ?_
    unfold stp
    by_cases h1 : bl z <+: u
    · have hl := h1.length_le
      rw [he, List.length_append] at hl
      have ht : t = [] := List.eq_nil_of_length_eq_zero (by omega)
      subst ht
      rw [List.append_nil] at he
      rw [if_pos h1, he]
      simp
    · rw [if_neg h1, if_pos ⟨t, he.symm⟩, he]
      simp
/-- All ends are of these. -/
def Un (C : List ByteArray) : List (List UInt8) := C.flatMap fun s => (List.range s.size).map fun k => (bl s).drop k
theorem end_un {C : List ByteArray} {t : List UInt8} (h : End (Cl C) t) : t = [] ∨ t ∈ Un C := by
  have key : ∀ (s : ByteArray) (v t : List UInt8), s ∈ C → bl s = v ++ t → t = [] ∨ t ∈ Un C := by
    intro s v t hs he
    by_cases ht : t = []
    · exact .inl ht
    · refine .inr (List.mem_flatMap.2 ⟨s, hs, List.mem_map.2 ⟨v.length, List.mem_range.2 ?_, by rw [he]; simp⟩⟩)
      have h1 := bl_len s
      have h2 := List.length_pos_iff.2 ht
      rw [he, List.length_append] at h1
      omega
  induction h with
  | @base x y t hx hy hne he =>
    obtain ⟨y, hy2, rfl⟩ := List.mem_map.1 hy
    exact key y x t hy2 he
  | @left z u t hz _ hu he ih =>
    rcases ih with h | h
    · exact absurd h hu
    · obtain ⟨s, hs, hk⟩ := List.mem_flatMap.1 h
      obtain ⟨k, hk, rfl⟩ := List.mem_map.1 hk
      refine key s ((bl s).take k ++ z) t hs ?_
      rw [List.append_assoc, ← he, List.take_append_drop]
  | @right z u t hz _ hu he ih =>
    obtain ⟨z, hz2, rfl⟩ := List.mem_map.1 hz
    exact key z u t hz2 he
theorem nodup_sub {β : Type} [DecidableEq β] : ∀ {l m : List β}, l.Nodup → (∀ x ∈ l, x ∈ m) → l.length ≤ m.length
  | [], m, _, _ => Nat.zero_le _
  | x :: r, m, hn, h => by
    obtain ⟨h1, h2⟩ := List.nodup_cons.1 hn
    have hx := h x (List.mem_cons_self ..)
    have := nodup_sub (l := r) (m := m.erase x) h2 fun y hy => by
      have hne : y ≠ x := fun e => h1 (e ▸ hy)
      exact (List.mem_erase_of_ne hne).2 (h y (List.mem_cons_of_mem _ hy))
    rw [List.length_erase_of_mem hx] at this
    have := List.length_pos_of_mem hx
    simp only [List.length_cons]
    omega
theorem un_len {C : List ByteArray} (h : Vd C) : (Un C).length ≤ 144 := by
  have : ∀ D : List ByteArray, (∀ s ∈ D, s.size ≤ 12) → (Un D).length ≤ 12 * D.length := by
    intro D
    induction D with
    | nil => intro _; simp [Un]
    | cons s r ih =>
      intro hd
      have h1 := hd s (List.mem_cons_self ..)
      have h2 := ih fun t ht => hd t (List.mem_cons_of_mem _ ht)
      unfold Un at h2 ⊢
      rw [List.flatMap_cons, List.length_append, List.length_map, List.length_range, List.length_cons]
      omega
  have h1 := this C fun s hs => (sgB_iff.1 (h.sg s hs)).2.1
  have := h.le
  omega
/-- The code is safe. -/
noncomputable def safeC (C : List ByteArray) : Bool := @decide (Safe (Cl C)) (Classical.propDecidable _)
theorem ne_nil_of {C : List ByteArray} (h : Vd C) : ∀ x ∈ Cl C, x ≠ [] := by
  intro x hx e
  obtain ⟨s, hs, rfl⟩ := List.mem_map.1 hx
  have h1 := (sgB_iff.1 (h.sg s hs)).1
  have := bl_len s
  rw [e] at this
  simp at this
  omega
theorem end_nil {C : List ByteArray} (h : Vd C) : End (Cl C) [] ↔ ∃ x ∈ Cl C, End (Cl C) x := by
  constructor
  · intro he
    generalize hn : ([] : List UInt8) = n at he
    cases he with
    | base hx hy hne e => subst hn; rw [List.append_nil] at e; exact absurd e.symm hne
    | @left z u t hz hu hne e => subst hn; rw [List.append_nil] at e; subst e; exact ⟨_, hz, hu⟩
    | @right z u t hz hu hne e => subst hn; rw [List.append_nil] at e; subst e; exact ⟨_, hz, hu⟩
  · rintro ⟨x, hx, he⟩
    exact End.left hx he (ne_nil_of h x hx) (List.append_nil x).symm
theorem safe_iff {C : List ByteArray} (h : Vd C) : Safe (Cl C) ↔ ¬ End (Cl C) [] := by
  rw [end_nil h]
  constructor
  · rintro hs ⟨x, hx, he⟩
    exact not_safe he hx hs
  · intro hn
    exact safe_of (ne_nil_of h) fun x hx he => hn ⟨x, hx, he⟩
theorem safeC_false {C : List ByteArray} (h : Vd C) (he : End (Cl C) []) : safeC C = false := by
  unfold safeC
  exact @decide_eq_false _ (Classical.propDecidable _) fun hs => (safe_iff h).1 hs he
theorem safeC_true {C : List ByteArray} (h : Vd C) (he : ¬ End (Cl C) []) : safeC C = true := by
  unfold safeC
  exact @decide_eq_true _ (Classical.propDecidable _) ((safe_iff h).2 he)
end
/-! ### What a search has found -/
/-- The ends that were found, in their order, and whether the empty one is. -/
def InS (L : List (List UInt8)) (m : Bool) (u : List UInt8) : Prop := u ∈ L ∨ (m = true ∧ u = [])
structure Grew (C : List ByteArray) (L : List (List UInt8)) (m : Bool) (L' : List (List UInt8)) (m' : Bool) : Prop where
  pre : L <+: L'
  met : m = true → m' = true
  nd : L.Nodup → L'.Nodup
  ne : [] ∉ L → [] ∉ L'
  snd : ∀ u, InS L' m' u → InS L m u ∨ End (Cl C) u
  cl : ∀ u, u ∈ L' → u ∉ L → ∀ s ∈ C, ∀ t, stp (bl s) u = some t → InS L' m' t
theorem InS.up {C : List ByteArray} {L L' : List (List UInt8)} {m m' : Bool} {u : List UInt8} (h : InS L m u) (g : Grew C L m L' m') : InS L' m' u := by
  rcases h with h | ⟨h, he⟩
  · exact .inl (g.pre.subset h)
  · exact .inr ⟨g.met h, he⟩
theorem Grew.refl (C : List ByteArray) (L : List (List UInt8)) (m : Bool) : Grew C L m L m := ⟨List.prefix_rfl, id, id, id, fun _ h => .inl h, fun _ h hn => absurd h hn⟩
theorem Grew.trans {C : List ByteArray} {L L' L'' : List (List UInt8)} {m m' m'' : Bool} (g : Grew C L m L' m') (k : Grew C L' m' L'' m'') : Grew C L m L'' m'' := by
  refine ⟨g.pre.trans k.pre, fun h => k.met (g.met h), fun h => k.nd (g.nd h), fun h => k.ne (g.ne h), fun u hu => ?_, fun u hu hn s hs t ht => ?_⟩
  · rcases k.snd u hu with h | h
    · exact g.snd u h
    · exact .inr h
  · by_cases h : u ∈ L'
    · exact (g.cl u h hn s hs t ht).up k
    · exact k.cl u hu h s hs t ht
theorem Grew.bound {C : List ByteArray} {L : List (List UInt8)} {m : Bool} (h : Vd C) (g : Grew C [] false L m) : L.length ≤ 144 := by
  refine Nat.le_trans (nodup_sub (g.nd List.nodup_nil) fun u hu => ?_) (un_len h)
  rcases g.snd u (.inl hu) with h1 | h1
  · rcases h1 with h1 | ⟨h1, _⟩
    · cases h1
    · cases h1
  · rcases end_un h1 with h2 | h2
    · subst h2
      exact absurd hu (g.ne (by simp))
    · exact h2
/-- What was found so far is sound: there are few such. -/
structure Bd (C : List ByteArray) (L : List (List UInt8)) : Prop where
  nd : L.Nodup
  ne : [] ∉ L
  snd : ∀ u ∈ L, End (Cl C) u
theorem Bd.nil_ (C : List ByteArray) : Bd C [] := ⟨List.nodup_nil, by simp, fun _ h => by cases h⟩
theorem Bd.bound {C : List ByteArray} {L : List (List UInt8)} (h : Vd C) (g : Bd C L) : L.length ≤ 144 := by
  refine Nat.le_trans (nodup_sub g.nd fun u hu => ?_) (un_len h)
  rcases end_un (g.snd u hu) with h2 | h2
  · subst h2
    exact absurd hu g.ne
  · exact h2
theorem Bd.grew {C : List ByteArray} {L L' : List (List UInt8)} {m m' : Bool} (h : Bd C L) (g : Grew C L m L' m') : Bd C L' := by
  refine ⟨g.nd h.nd, g.ne h.ne, fun u hu => ?_⟩
  rcases g.snd u (.inl hu) with h1 | h1
  · rcases h1 with h1 | ⟨_, h1⟩
    · exact h.snd u h1
    · subst h1
      exact absurd hu (g.ne h.ne)
  · exact h1
theorem Bd.snoc {C : List ByteArray} {L : List (List UInt8)} {u : List UInt8} (h : Bd C L) (he : End (Cl C) u) (hn : u ∉ L) (hne : u ≠ []) : Bd C (L ++ [u]) := by
  refine ⟨?_, ?_, fun x hx => ?_⟩
  · rw [List.nodup_append]
    refine ⟨h.nd, by simp, fun a ha b hb e => ?_⟩
    rw [List.mem_singleton] at hb
    exact hn (by rw [← hb, ← e]; exact ha)
  · intro hc
    rcases List.mem_append.1 hc with h1 | h1
    · exact h.ne h1
    · rw [List.mem_singleton] at h1
      exact hne h1.symm
  · rcases List.mem_append.1 hx with h1 | h1
    · exact h.snd x h1
    · rw [List.mem_singleton] at h1
      rw [h1]; exact he
theorem Grew.empty {C : List ByteArray} {L : List (List UInt8)} {m : Bool} (he : End (Cl C) []) : Grew C L m L true :=
  ⟨List.prefix_rfl, fun _ => rfl, id, id, fun u h => (by
    rcases h with h | ⟨_, h⟩
    · exact .inl (.inl h)
    · subst h; exact .inr he), fun _ h hn => absurd h hn⟩
/-- All is found: the code is safe exactly if the empty end is not. -/
theorem met_safe {C : List ByteArray} {L : List (List UInt8)} {m : Bool} (h : Vd C) (g : Grew C [] false L m) (hb : ∀ x ∈ C, ∀ y ∈ C, x ≠ y → ∀ t, bl y = bl x ++ t → InS L m t) : (∀ t, InS L m t ↔ End (Cl C) t) ∧ safeC C = !m := by
  have h1 : ∀ t, InS L m t ↔ End (Cl C) t := by
    intro t
    constructor
    · intro ht
      rcases g.snd t ht with h2 | h2
      · rcases h2 with h2 | ⟨h2, _⟩ <;> cases h2
      · exact h2
    · intro ht
      refine end_all (P := InS L m) hb (fun u hu hne s hs t hst => ?_) t ht
      rcases hu with hu | ⟨_, hu⟩
      · exact g.cl u hu (by simp) s hs t hst
      · exact absurd hu hne
  refine ⟨h1, ?_⟩
  have h2 : m = true ↔ End (Cl C) [] := by
    rw [← h1]
    constructor
    · intro hm; exact .inr ⟨hm, rfl⟩
    · rintro (h3 | ⟨h3, _⟩)
      · exact absurd h3 (g.ne (by simp))
      · exact h3
  cases m
  · exact safeC_true h fun he => by cases h2.2 he
  · exact safeC_false h (h2.1 rfl)
/-- A step into an end that is not empty and new: behind it, all that comes of it. -/
theorem Grew.enter {C : List ByteArray} {L L' : List (List UInt8)} {m m' : Bool} {u : List UInt8} (hu : End (Cl C) u) (hn : u ∉ L) (hne : u ≠ []) (g : Grew C (L ++ [u]) m L' m') (hall : ∀ s ∈ C, ∀ t, stp (bl s) u = some t → InS L' m' t) : Grew C L m L' m' ∧ InS L' m' u := by
  have hin : u ∈ L' := g.pre.subset (by simp)
  refine ⟨⟨(List.prefix_append _ _).trans g.pre, g.met, fun h => g.nd ?_, fun h => g.ne ?_, fun x hx => ?_, fun x hx hxn s hs t ht => ?_⟩, .inl hin⟩
  · rw [List.nodup_append]
    refine ⟨h, by simp, fun a ha b hb e => ?_⟩
    rw [List.mem_singleton] at hb
    exact hn (by rw [← hb, ← e]; exact ha)
  · intro hc
    rcases List.mem_append.1 hc with h1 | h1
    · exact h h1
    · rw [List.mem_singleton] at h1
      exact hne h1.symm
  · rcases g.snd x hx with h1 | h1
    · rcases h1 with h1 | h1
      · rcases List.mem_append.1 h1 with h2 | h2
        · exact .inl (.inl h2)
        · rw [List.mem_singleton] at h2
          subst h2; exact .inr hu
      · exact .inl (.inr h1)
    · exact .inr h1
  · by_cases h1 : x = u
    · subst h1; exact hall s hs t ht
    · exact g.cl x hx (fun h2 => by
        rcases List.mem_append.1 h2 with h3 | h3
        · exact hxn h3
        · exact h1 (by simpa using h3)) s hs t ht
end Go.Proofs.YtoenecgjiejljaaDoor
