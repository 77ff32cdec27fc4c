/-
  The code for lengths: it is one, none of its signals begins with another one; the order in which the reference goes through lengths. No program in sight.
-/
import Derived.Test.YtjongjndoaojnaaFl6
import Derived.Test.YtjongjndoaojnaaPf1
import Derived.Test.YtjongjndoaojnaaKr1
import Derived.Test.YtjongjndoaojnaaSp4
namespace Go.Proofs.Ytjongjndoaojnaa
open Go.RowKit
set_option linter.unusedVariables false

def Lok (L : List Int) : Prop := ∀ x ∈ L, 1 ≤ x ∧ x ≤ 12
theorem perm_sum {a b : List Nat} (h : a.Perm b) : a.sum = b.sum := by
  induction h with
  | nil => rfl
  | cons x _ ih => rw [List.sum_cons, List.sum_cons, ih]
  | swap x y l => simp only [List.sum_cons]; omega
  | trans _ _ ih1 ih2 => exact ih1.trans ih2
theorem befK_all (L : List Int) : befK L L.length = fil L := by
  unfold befK fil
  rw [List.take_of_length_le (by rw [ordL_len]; exact Nat.le_refl _)]
  have hp := (srt_perm (fun i => L.getD i 0) (List.range L.length)).map fun i => 2 ^ (12 - lenAt L i)
  have e : (List.range L.length).map (fun i => 2 ^ (12 - lenAt L i)) = L.map fun x => 2 ^ (12 - x.toNat) := by
    refine List.ext_getElem? fun j => ?_
    by_cases hj : j < L.length
    · simp [hj, lenAt]
    · simp [hj]
  rw [← e]
  exact perm_sum hp
theorem befK_mono (L : List Int) {s t : Nat} (h : s ≤ t) : befK L s ≤ befK L t := by
  induction t with
  | zero => rw [show s = 0 by omega]; exact Nat.le_refl _
  | succ t ih =>
    rcases Nat.lt_or_ge s (t + 1) with h1 | h1
    · refine Nat.le_trans (ih (by omega)) ?_
      unfold befK
      rw [List.take_add_one, List.map_append, List.sum_append]
      omega
    · rw [show s = t + 1 by omega]; exact Nat.le_refl _
theorem num_ex {L : List Int} (h : Lok L) (hl : L.length ≤ 12) : ∀ t, t ≤ L.length → ∃ v ln, Num L t v ln
  | 0, _ => ⟨0, 0, Num.zero L⟩
  | t + 1, ht => by
    obtain ⟨v, ln, hn⟩ := num_ex h hl t (by omega)
    have hi := List.getElem?_eq_getElem (l := ordL L) (i := t) (by rw [ordL_len]; omega)
    exact ⟨_, _, (hn.val h hl hi).2.2⟩
/-- The signal of the t-th length: its number. -/
theorem num_at {L : List Int} (h : Lok L) (hl : L.length ≤ 12) {t i : Nat} (hi : (ordL L)[t]? = some i) : (befK L t / 2 ^ (12 - lenAt L i)) * 2 ^ (12 - lenAt L i) = befK L t ∧ (befK L t / 2 ^ (12 - lenAt L i) + 1) * 2 ^ (12 - lenAt L i) = befK L (t + 1) := by
  have ht : t < L.length := by have := (List.getElem?_eq_some_iff.1 hi).1; rw [ordL_len] at this; exact this
  obtain ⟨v, ln, hn⟩ := num_ex h hl t (by omega)
  obtain ⟨e1, _, e3⟩ := hn.val h hl hi
  have e4 := e3.eq
  rw [e1] at e4
  refine ⟨?_, e4⟩
  rw [befK_next hi, Nat.add_mul, Nat.one_mul] at e4
  omega
theorem codK_at {L : List Int} {t i : Nat} (hi : (ordL L)[t]? = some i) : ∀ k, t < k → codK L k i = sgN (befK L t / 2 ^ (12 - lenAt L i)) (lenAt L i)
  | 0, h => by omega
  | k + 1, h => by
    unfold codK
    by_cases hk : (ordL L)[k]? = some i
    · have hnd : (ordL L).Nodup := (srt_perm _ _).nodup_iff.2 List.nodup_range
      obtain ⟨l1, e1⟩ := List.getElem?_eq_some_iff.1 hk
      obtain ⟨l2, e2⟩ := List.getElem?_eq_some_iff.1 hi
      have := (List.getElem_inj hnd).1 (e1.trans e2.symm)
      subst this
      rw [if_pos hk]
    · rw [if_neg hk]
      exact codK_at hi k (by
        rcases Nat.lt_or_ge t k with h1 | h1
        · exact h1
        · have : t = k := by omega
          subst this
          exact absurd hi hk)
theorem ord_pos {L : List Int} {i : Nat} (hi : i < L.length) : ∃ t, t < L.length ∧ (ordL L)[t]? = some i := by
  have hm : i ∈ ordL L := (srt_perm (fun i => L.getD i 0) (List.range L.length)).mem_iff.2 (List.mem_range.2 hi)
  obtain ⟨t, ht⟩ := List.getElem?_of_mem hm
  refine ⟨t, ?_, ht⟩
  have := (List.getElem?_eq_some_iff.1 ht).1
  rwa [ordL_len] at this
/-- A signal of the code: where its length stands in the order, and its number. -/
theorem cod_at {L : List Int} {i : Nat} {x : ByteArray} (hx : (codL L)[i]? = some x) : ∃ t, t < L.length ∧ i < L.length ∧ (ordL L)[t]? = some i ∧ x = sgN (befK L t / 2 ^ (12 - lenAt L i)) (lenAt L i) := by
  have hi := (List.getElem?_eq_some_iff.1 hx).1
  unfold codL at hx hi
  rw [List.length_map, List.length_range] at hi
  obtain ⟨t, ht, ho⟩ := ord_pos hi
  refine ⟨t, ht, hi, ho, ?_⟩
  rw [List.getElem?_map, List.getElem?_range hi] at hx
  injection hx with hx
  rw [← hx, codK_at ho _ ht]
def noteW (b : Bool) : UInt8 := if b then 45 else 46
theorem noteW_inj {a b : Bool} (h : noteW a = noteW b) : a = b := by
  cases a <;> cases b <;> first | rfl | (exact absurd h (by decide))
theorem bl_sgN (v n : Nat) : bl (sgN v n) = (wrd v n).map noteW := by
  unfold bl sgN wrd
  rw [List.map_map]
  rfl
theorem map_inj_list {f : Bool → UInt8} (hf : ∀ a b, f a = f b → a = b) : ∀ {a b : List Bool}, a.map f = b.map f → a = b
  | [], [], _ => rfl
  | [], _ :: _, h => by cases h
  | _ :: _, [], h => by cases h
  | x :: a, y :: b, h => by
    injection h with h1 h2
    rw [hf _ _ h1, map_inj_list hf h2]
theorem cod_pf {L : List Int} (h : Lok L) (hl : L.length ≤ 12) (hs : fil L ≤ 4096) : Pf (codL L) (codL L).length 0 := by
  intro i j x y hx hy hne _
  obtain ⟨s, hs1, _, ho, rfl⟩ := cod_at hx
  obtain ⟨t, ht1, _, ho2, rfl⟩ := cod_at hy
  have hst : s ≠ t := fun e => by
    subst e
    rw [ho] at ho2
    injection ho2 with e2
    exact hne e2
  obtain ⟨a1, a2⟩ := num_at h hl ho
  obtain ⟨b1, b2⟩ := num_at h hl ho2
  obtain ⟨_, m1, m2⟩ := lenAt_int h (ordL_lt ho)
  obtain ⟨_, n1, n2⟩ := lenAt_int h (ordL_lt ho2)
  have c1 := befK_mono L (s := s + 1) (t := L.length) (by omega)
  have c2 := befK_mono L (s := t + 1) (t := L.length) (by omega)
  rw [befK_all] at c1 c2
  have d1 : 2 ^ 12 = 2 ^ lenAt L i * 2 ^ (12 - lenAt L i) := by rw [← Nat.pow_add]; congr 1; omega
  have d2 : 2 ^ 12 = 2 ^ lenAt L j * 2 ^ (12 - lenAt L j) := by rw [← Nat.pow_add]; congr 1; omega
  have hp1 := Nat.two_pow_pos (12 - lenAt L i)
  have hp2 := Nat.two_pow_pos (12 - lenAt L j)
  have u1 : befK L s / 2 ^ (12 - lenAt L i) < 2 ^ lenAt L i := by
    have : (befK L s / 2 ^ (12 - lenAt L i) + 1) * 2 ^ (12 - lenAt L i) ≤ 2 ^ lenAt L i * 2 ^ (12 - lenAt L i) := by rw [a2, ← d1]; omega
    exact Nat.le_of_mul_le_mul_right this hp1
  have u2 : befK L t / 2 ^ (12 - lenAt L j) < 2 ^ lenAt L j := by
    have : (befK L t / 2 ^ (12 - lenAt L j) + 1) * 2 ^ (12 - lenAt L j) ≤ 2 ^ lenAt L j * 2 ^ (12 - lenAt L j) := by rw [b2, ← d2]; omega
    exact Nat.le_of_mul_le_mul_right this hp2
  refine decide_eq_false ?_
  rintro ⟨r, hr⟩
  rw [bl_sgN, bl_sgN] at hr
  have hr2 := hr.symm
  obtain ⟨r2, r3, hr3, hr4, hr5⟩ := List.map_eq_append_iff.1 hr2
  have hr6 := map_inj_list (fun _ _ => noteW_inj) hr4
  refine wrd_apart (L := 12) m2 u1 u2 ?_ (hr3.trans (by rw [hr6]))
  rcases Nat.lt_or_ge s t with h1 | h1
  · left
    rw [a2, b1]
    exact befK_mono L h1
  · right
    rw [b2, a1]
    exact befK_mono L (by omega)
theorem sgN_notes (v n : Nat) : notesB (sgN v n) = true := by
  unfold notesB
  rw [bl_sgN, List.all_eq_true]
  intro c hc
  obtain ⟨b, _, rfl⟩ := List.mem_map.1 hc
  cases b <;> rfl
theorem codL_len (L : List Int) : (codL L).length = L.length := by simp [codL]
theorem cod_size {L : List Int} (h : Lok L) {i : Nat} {x : ByteArray} (hx : (codL L)[i]? = some x) : L[i]? = some (x.size : Int) := by
  obtain ⟨t, _, hi, _, rfl⟩ := cod_at hx
  rw [sgN_size]
  exact (lenAt_int h hi).1
theorem cod_vd {L : List Int} (h : lenB L = true) (hs : fil L ≤ 4096) : Vd (codL L) := by
  obtain ⟨h1, h2, h3⟩ := lenB_iff h
  refine ⟨by rw [codL_len]; exact h1, by rw [codL_len]; exact h2, fun s hs => ?_, ?_⟩
  · obtain ⟨i, hi⟩ := List.getElem?_of_mem hs
    obtain ⟨t, _, hil, _, rfl⟩ := cod_at hi
    obtain ⟨_, a, b⟩ := lenAt_int h3 hil
    exact sgB_iff.2 ⟨by rw [sgN_size]; exact a, by rw [sgN_size]; exact b, sgN_notes _ _⟩
  · have hp := cod_pf h3 h2 hs
    rw [List.nodup_iff_pairwise_ne, List.pairwise_iff_getElem]
    intro i j hi hj hij e
    have := hp i j _ _ (List.getElem?_eq_getElem hi) (List.getElem?_eq_getElem hj) (by omega) (.inl hi)
    rw [e] at this
    unfold pfx at this
    exact of_decide_eq_false this List.prefix_rfl
theorem cod_lens {L : List Int} (h : Lok L) : lensC (codL L) = L := by
  refine List.ext_getElem? fun j => ?_
  by_cases hj : j < L.length
  · have hc := List.getElem?_eq_getElem (l := codL L) (i := j) (by rw [codL_len]; exact hj)
    unfold lensC
    rw [List.getElem?_map, hc, cod_size h hc]
    rfl
  · rw [List.getElem?_eq_none (by unfold lensC; rw [List.length_map, codL_len]; omega), List.getElem?_eq_none (by omega)]
/-! ### The order in which the reference goes through lengths -/
def vis (L : List Int) (n i : Nat) : List Nat := ((List.range n).flatMap fun m => (List.range L.length).filter fun j => decide (lenAt L j = m)) ++ (List.range i).filter fun j => decide (lenAt L j = n)
theorem vis_skip {L : List Int} {n i : Nat} (h : ¬ lenAt L i = n) : vis L n (i + 1) = vis L n i := by
  unfold vis
  rw [List.range_succ, List.filter_append]
  simp [h]
theorem vis_take {L : List Int} {n i : Nat} (h : lenAt L i = n) : vis L n (i + 1) = vis L n i ++ [i] := by
  unfold vis
  rw [List.range_succ, List.filter_append, List.append_assoc]
  simp [h]
theorem vis_row (L : List Int) (n : Nat) : vis L (n + 1) 0 = vis L n L.length := by
  unfold vis
  rw [List.range_succ (n := n), List.flatMap_append]
  simp
theorem vis_one {L : List Int} (h : Lok L) : vis L 1 0 = [] := by
  unfold vis
  simp only [List.range_zero, List.filter_nil, List.append_nil]
  rw [show List.range 1 = [0] from rfl, List.flatMap_singleton, List.filter_eq_nil_iff]
  intro j hj
  have := (lenAt_int h (List.mem_range.1 hj)).2.1
  simp
  omega
theorem vis_pre1 (L : List Int) (n : Nat) {i j : Nat} (h : i ≤ j) : vis L n i <+: vis L n j := by
  induction j with
  | zero => rw [show i = 0 by omega]; exact List.prefix_rfl
  | succ j ih =>
    rcases Nat.lt_or_ge i (j + 1) with h1 | h1
    · refine (ih (by omega)).trans ?_
      by_cases hj : lenAt L j = n
      · rw [vis_take hj]; exact List.prefix_append _ _
      · rw [vis_skip hj]; exact List.prefix_rfl
    · rw [show i = j + 1 by omega]; exact List.prefix_rfl
theorem vis_pre (L : List Int) {n i : Nat} (hi : i ≤ L.length) : ∀ k, vis L n i <+: vis L (n + 1 + k) 0
  | 0 => by rw [Nat.add_zero, vis_row]; exact vis_pre1 L n hi
  | k + 1 => by
    refine (vis_pre L hi k).trans ?_
    rw [show n + 1 + (k + 1) = (n + 1 + k) + 1 by omega, vis_row]
    exact vis_pre1 L _ (Nat.zero_le _)
def lexK (key : Nat → Int) (a b : Nat) : Prop := key a < key b ∨ (key a = key b ∧ a < b)
theorem ins_lex {key : Nat → Int} {x : Nat} : ∀ {l : List Nat}, l.Pairwise (lexK key) → (∀ y ∈ l, y < x) → (ins key x l).Pairwise (lexK key)
  | [], _, _ => List.pairwise_singleton _ _
  | y :: r, h, hx => by
    obtain ⟨h1, h2⟩ := List.pairwise_cons.1 h
    unfold ins
    by_cases hk : key x < key y
    · rw [if_pos hk]
      refine List.pairwise_cons.2 ⟨fun z hz => ?_, h⟩
      rcases List.mem_cons.1 hz with rfl | hz
      · exact .inl hk
      · rcases h1 z hz with h3 | ⟨h3, _⟩
        · exact .inl (by omega)
        · exact .inl (by omega)
    · rw [if_neg hk]
      refine List.pairwise_cons.2 ⟨fun z hz => ?_, ins_lex h2 fun z hz => hx z (List.mem_cons_of_mem _ hz)⟩
      rcases List.mem_cons.1 ((ins_perm key x r).mem_iff.1 hz) with rfl | hz
      · have := hx y (List.mem_cons_self ..)
        by_cases h3 : key y < key z
        · exact .inl h3
        · exact .inr ⟨by omega, this⟩
      · exact h1 z hz
theorem srt_lex (key : Nat → Int) : ∀ k, (srt key (List.range k)).Pairwise (lexK key)
  | 0 => List.Pairwise.nil
  | k + 1 => by
    rw [List.range_succ, srt_snoc]
    exact ins_lex (srt_lex key k) fun y hy => List.mem_range.1 ((srt_perm key (List.range k)).mem_iff.1 hy)
theorem lex_eq {key : Nat → Int} : ∀ {a b : List Nat}, a.Perm b → a.Pairwise (lexK key) → b.Pairwise (lexK key) → a = b
  | [], b, h, _, _ => (List.nil_perm.1 h).symm
  | x :: a, [], h, _, _ => by have := h.length_eq; simp at this
  | x :: a, y :: b, h, ha, hb => by
    obtain ⟨a1, a2⟩ := List.pairwise_cons.1 ha
    obtain ⟨b1, b2⟩ := List.pairwise_cons.1 hb
    have hxy : x = y := by
      rcases List.mem_cons.1 (h.mem_iff.1 (List.mem_cons_self (a := x) (l := a))) with h1 | h1
      · exact h1
      · rcases List.mem_cons.1 (h.mem_iff.2 (List.mem_cons_self (a := y) (l := b))) with h2 | h2
        · exact h2.symm
        · have l1 := b1 x h1
          have l2 := a1 y h2
          unfold lexK at l1 l2
          omega
    subst hxy
    rw [lex_eq (List.perm_cons x |>.1 h) a2 b2]
theorem vis_ord {L : List Int} (h : Lok L) : vis L 13 0 = ordL L := by
  have key : ∀ j, j < L.length → L.getD j 0 = (lenAt L j : Int) := fun j hj => by
    obtain ⟨h1, h2, _⟩ := lenAt_int h hj
    rw [List.getD_eq_getElem?_getD, h1]
    rfl
  have e : vis L 13 0 = (List.range 13).flatMap fun m => (List.range L.length).filter fun j => decide (lenAt L j = m) := by
    unfold vis
    simp
  have hp : (vis L 13 0).Pairwise (lexK fun i => L.getD i 0) := by
    rw [e, List.pairwise_flatMap]
    refine ⟨fun m _ => ?_, ?_⟩
    · have hr : (List.range L.length).Pairwise (· < ·) := List.pairwise_lt_range
      refine (List.Pairwise.imp_of_mem ?_ (List.Pairwise.sublist List.filter_sublist hr))
      intro a b ha hb hab
      obtain ⟨ha1, ha2⟩ := List.mem_filter.1 ha
      obtain ⟨hb1, hb2⟩ := List.mem_filter.1 hb
      rw [decide_eq_true_eq] at ha2 hb2
      refine .inr ⟨?_, hab⟩
      show L.getD a 0 = L.getD b 0
      rw [key a (List.mem_range.1 ha1), key b (List.mem_range.1 hb1), ha2, hb2]
    · refine List.Pairwise.imp ?_ (List.pairwise_lt_range (n := 13))
      intro m n hmn a ha b hb
      obtain ⟨ha1, ha2⟩ := List.mem_filter.1 ha
      obtain ⟨hb1, hb2⟩ := List.mem_filter.1 hb
      rw [decide_eq_true_eq] at ha2 hb2
      left
      show L.getD a 0 < L.getD b 0
      rw [key a (List.mem_range.1 ha1), key b (List.mem_range.1 hb1), ha2, hb2]
      omega
  refine lex_eq ?_ hp (srt_lex _ _)
  have hn : (vis L 13 0).Nodup := List.Pairwise.imp (fun {a b} hab e => by subst e; unfold lexK at hab; omega) hp
  have hn2 : (ordL L).Nodup := (srt_perm _ _).nodup_iff.2 List.nodup_range
  refine (List.perm_ext_iff_of_nodup hn hn2).2 fun j => ?_
  rw [show (j ∈ ordL L ↔ j ∈ List.range L.length) from (srt_perm (fun i => L.getD i 0) (List.range L.length)).mem_iff, e, List.mem_flatMap]
  constructor
  · rintro ⟨m, _, hm⟩
    exact (List.mem_filter.1 hm).1
  · intro hj
    have := (lenAt_int h (List.mem_range.1 hj)).2.2
    exact ⟨lenAt L j, List.mem_range.2 (by omega), List.mem_filter.2 ⟨hj, by simp⟩⟩
/-- Where the reference stands: so many are done, the next one is this. -/
theorem vis_at {L : List Int} (h : Lok L) {n i : Nat} (hn : n ≤ 12) (hi : i < L.length) (he : lenAt L i = n) : (ordL L)[(vis L n i).length]? = some i := by
  have hp := vis_pre L (n := n) (i := i + 1) hi (12 - n)
  rw [show n + 1 + (12 - n) = 13 by omega, vis_ord h, vis_take he] at hp
  obtain ⟨t, ht⟩ := hp
  rw [← ht, List.append_assoc, List.getElem?_append_right (Nat.le_refl _)]
  simp
theorem vis_len {L : List Int} (h : Lok L) : (vis L 13 0).length = L.length := by rw [vis_ord h, ordL_len]
theorem vis_take_len {L : List Int} {n i : Nat} (h : lenAt L i = n) : (vis L n (i + 1)).length = (vis L n i).length + 1 := by rw [vis_take h]; simp
end Go.Proofs.Ytjongjndoaojnaa
