/-
  The code for lengths: the walk of FromLengths. Condition: the lengths can be read.
-/
import Derived.Test.YtjongjndoaojnaaFl5
namespace Go.Proofs.Ytjongjndoaojnaa
open Go.RowKit
set_option linter.unusedVariables false

def fromE (L : List Int) : Int := if lenB L = true then (if 4096 < fil L then 8 else 0) else 1
def fromL (L : List Int) : List ByteArray := if fromE L = 0 then codL L else []
theorem ordL_len (L : List Int) : (ordL L).length = L.length := by
  unfold ordL
  rw [srt_len, List.length_range]
theorem ordL_lt {L : List Int} {t i : Nat} (h : (ordL L)[t]? = some i) : i < L.length := by
  have := (srt_perm (fun i => L.getD i 0) (List.range L.length)).mem_iff.1 (List.mem_of_getElem? h)
  exact List.mem_range.1 this
theorem lenAt_int {L : List Int} (h : ∀ x ∈ L, 1 ≤ x ∧ x ≤ 12) {i : Nat} (hi : i < L.length) : L[i]? = some ((lenAt L i : Nat) : Int) ∧ 1 ≤ lenAt L i ∧ lenAt L i ≤ 12 := by
  have h1 := h _ (List.getElem_mem hi)
  have e : L.getD i 0 = L[i] := by rw [List.getD_eq_getElem?_getD, List.getElem?_eq_getElem hi]; rfl
  unfold lenAt
  rw [e, List.getElem?_eq_getElem hi]
  exact ⟨by congr 1; omega, by omega, by omega⟩
theorem ordL_mono {L : List Int} (h : ∀ x ∈ L, 1 ≤ x ∧ x ≤ 12) {s t i j : Nat} (hst : s ≤ t) (hs : (ordL L)[s]? = some i) (ht : (ordL L)[t]? = some j) : lenAt L i ≤ lenAt L j := by
  rcases Nat.lt_or_ge s t with hlt | hge
  · obtain ⟨l1, e1⟩ := List.getElem?_eq_some_iff.1 hs
    obtain ⟨l2, e2⟩ := List.getElem?_eq_some_iff.1 ht
    have := List.pairwise_iff_getElem.1 (srt_sorted (fun i => L.getD i 0) (List.range L.length)) s t l1 l2 hlt
    unfold ordL at e1 e2
    rw [e1, e2] at this
    unfold lenAt
    omega
  · have : s = t := by omega
    subst this
    rw [hs] at ht
    cases ht
    exact Nat.le_refl _
theorem befK_next {L : List Int} {t i : Nat} (h : (ordL L)[t]? = some i) : befK L (t + 1) = befK L t + 2 ^ (12 - lenAt L i) := by
  unfold befK
  rw [List.take_add_one, h]
  simp
theorem befK_le {L : List Int} (h : ∀ x ∈ L, 1 ≤ x ∧ x ≤ 12) (hl : L.length ≤ 12) (t : Nat) : befK L t ≤ 24576 := by
  have key : ∀ l : List Nat, (∀ i ∈ l, i < L.length) → (l.map fun i => 2 ^ (12 - lenAt L i)).sum ≤ l.length * 2048 := by
    intro l
    induction l with
    | nil => intro _; simp
    | cons i r ih =>
      intro hi
      have h1 := ih fun j hj => hi j (List.mem_cons_of_mem _ hj)
      have h2 := (lenAt_int h (hi i (List.mem_cons_self ..))).2.1
      have h3 : 2 ^ (12 - lenAt L i) ≤ 2 ^ 11 := Nat.pow_le_pow_right (by decide) (by omega)
      rw [List.map_cons, List.sum_cons, List.length_cons]
      omega
  have h1 := key ((ordL L).take t) fun i hi => by
    obtain ⟨k, hk⟩ := List.getElem?_of_mem (List.mem_of_mem_take hi)
    exact ordL_lt hk
  have h2 : ((ordL L).take t).length ≤ 12 := by rw [List.length_take, ordL_len]; omega
  unfold befK
  omega
/-- A number of so many notes, and its next. -/
structure Num (L : List Int) (t v ln : Nat) : Prop where
  eq : v * 2 ^ (12 - ln) = befK L t
  le : ln ≤ 12
  up : ∀ s i, t ≤ s → (ordL L)[s]? = some i → ln ≤ lenAt L i
theorem Num.zero (L : List Int) : Num L 0 0 0 := ⟨by simp [befK], by omega, fun _ _ _ _ => Nat.zero_le _⟩
theorem Num.val {L : List Int} {t v ln i : Nat} (h : ∀ x ∈ L, 1 ≤ x ∧ x ≤ 12) (hl : L.length ≤ 12) (n : Num L t v ln) (hi : (ordL L)[t]? = some i) :
    v * 2 ^ (lenAt L i - ln) = befK L t / 2 ^ (12 - lenAt L i) ∧ v * 2 ^ (lenAt L i - ln) ≤ 24576 ∧ Num L (t + 1) (v * 2 ^ (lenAt L i - ln) + 1) (lenAt L i) := by
  have h1 := n.up t i (Nat.le_refl _) hi
  obtain ⟨_, h2, h3⟩ := lenAt_int h (ordL_lt hi)
  have hp : 0 < 2 ^ (12 - lenAt L i) := Nat.pow_pos (by decide)
  have e : v * 2 ^ (lenAt L i - ln) * 2 ^ (12 - lenAt L i) = befK L t := by
    rw [← n.eq, Nat.mul_assoc, ← Nat.pow_add]
    congr 2
    omega
  have hb := befK_le h hl t
  refine ⟨by rw [← e, Nat.mul_div_cancel _ hp], Nat.le_trans (Nat.le_mul_of_pos_right _ hp) (by rw [e]; exact hb), ?_, h3, fun s j hs hj => ordL_mono h (by omega) hi hj⟩
  rw [Nat.add_mul, e, befK_next hi, Nat.one_mul]
def rowT (f : Nat → ByteArray) (n : Nat) : List Value := txts ((List.range n).map f)
theorem rowT_at {f : Nat → ByteArray} {n j : Nat} (h : j < n) : (rowT f n).toArray[j]? = some (.string (f j)) := by simp [rowT, txts, h]
theorem codK_set {L : List Int} {t i n : Nat} (hi : (ordL L)[t]? = some i) : (rowT (codK L t) n).toArray.setIfInBounds i (.string (sgN (befK L t / 2 ^ (12 - lenAt L i)) (lenAt L i))) = (rowT (codK L (t + 1)) n).toArray := by
  rw [List.setIfInBounds_toArray]
  congr 1
  refine List.ext_getElem? fun j => ?_
  rw [List.getElem?_set]
  by_cases hj : j < n
  · have a1 := rowT_at (f := codK L t) hj
    have a2 := rowT_at (f := codK L (t + 1)) hj
    rw [List.getElem?_toArray] at a1 a2
    rw [a1, a2]
    by_cases h : i = j
    · subst h
      rw [if_pos rfl, if_pos (by simp [rowT, txts]; exact hj)]
      unfold codK
      rw [if_pos hi]
    · rw [if_neg h]
      conv => rhs; unfold codK
      rw [if_neg (by rw [hi]; intro e; injection e with e; exact h e)]
  · have e : ∀ f, (rowT f n)[j]? = none := fun f => by simp [rowT, txts]; omega
    rw [e, e]
    split
    · rw [if_neg (by simp [rowT, txts]; omega)]
    · rfl
theorem made_txts {w w1 : World} {n : Nat} (h : w1.ownsRow w.heap.size 9 1 (.slice (some ⟨w.heap.size, 0, none⟩) n n) n (madeCells (Value.string ⟨#[]⟩).cells (n * 1)).toList) (hg : w.grownBy w1 none) (L : List Int) :
    Below w.heap.size w w1 ∧ w1.heap[w.heap.size]? = some (.cells (rowT (codK L 0) n).toArray 9 (0, 0)) := by
  refine ⟨(Below.refl _ _).grown hg (Nat.le_refl _) (by simp), ?_⟩
  have hcells : (madeCells (Value.string ⟨#[]⟩).cells (n * 1)).toList = rowT (codK L 0) n := by
    rw [Nat.mul_one]
    refine (toList_madeCells_one (.string ⟨#[]⟩) n).trans ?_
    unfold rowT txts
    refine List.ext_getElem? fun j => ?_
    by_cases h : j < n
    · simp [h, codK]
    · simp [h]
  rw [← hcells]
  exact own_full h
theorem Kp.rd {mb B : Nat} {w w' : World} {A : Option Addr} {xs : List Value} (k : Kp mb mb none w w') (hr : Rd w B A xs) (hB : B ≤ w.heap.size) (hA : ∀ b o, A = some ⟨b, o, none⟩ → b ≠ mb) : Rd w' B A xs := by
  rcases hr with rfl | ⟨b, o, ha, hb, hc⟩
  · exact .inl rfl
  · refine .inr ⟨b, o, ha, hb, fun i u hu => ?_⟩
    rw [← hc i u hu]
    unfold World.cell?
    simp only [k.2.2.2.2 b (by omega) (hA b o ha) (hA b o ha) (by simp)]
theorem Rd.blk_lt {w : World} {B : Nat} {A : Option Addr} {l : List Int} (h : Rd w B A (ints l)) (h0 : 0 < l.length) : ∀ b o, A = some ⟨b, o, none⟩ → b < B := by
  intro b o hA
  obtain ⟨b0, o0, ha0, hb0, _⟩ := h.at_ (ints_at (List.getElem?_eq_getElem h0))
  rw [ha0] at hA
  injection hA with hA
  injection hA with hA1
  omega
theorem Kp.below' {mb : Nat} {w w' : World} (k : Kp mb mb none w w') (h : mb ≤ w.heap.size) : Below mb w w' := k.below (Nat.le_refl _) (Nat.le_refl _) (by simp) h
theorem Kp.of_below {mb : Nat} {w w' : World} (h : Below w.heap.size w w') : Kp mb mb none w w' := ⟨h.os, h.tape, h.output, h.size, fun k hk _ _ _ => h.block k hk⟩
end Go.Proofs.Ytjongjndoaojnaa
