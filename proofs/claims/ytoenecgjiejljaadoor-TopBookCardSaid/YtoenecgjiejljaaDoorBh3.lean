/-
  The first line of a book in the reference: the walk of head. Condition: sizes.
-/
import Derived.Test.YtoenecgjiejljaaDoorBh2
import Derived.Test.YtoenecgjiejljaaDoorSap
import Derived.Laws.OwnMore
namespace Go.Proofs.YtoenecgjiejljaaDoor
open Go.RowKit
set_option linter.unusedVariables false

/-! ### Words -/
def wsG (p : List (List UInt8) × List UInt8) (c : UInt8) : List (List UInt8) × List UInt8 := if c = 32 then (p.1 ++ [p.2], []) else (p.1, p.2 ++ [c])
def wsF (l : List UInt8) : List (List UInt8) × List UInt8 := l.foldl wsG ([], [])
def wds (p : List (List UInt8) × List UInt8) : List (List UInt8) := p.1 ++ [p.2]
theorem wsF_snoc (l : List UInt8) (c : UInt8) : wsF (l ++ [c]) = wsG (wsF l) c := by unfold wsF; rw [List.foldl_append]; rfl
theorem wsG_fold : ∀ (l : List UInt8) (p : List (List UInt8) × List UInt8), (32 : UInt8) ∉ l → l.foldl wsG p = (p.1, p.2 ++ l)
  | [], p, _ => by simp
  | c :: r, p, h => by
    rw [List.foldl_cons, wsG_fold r _ (fun hm => h (List.mem_cons_of_mem _ hm))]
    unfold wsG
    rw [if_neg (fun e => h (by rw [e]; simp))]
    simp
theorem wsF_canon (n x : Nat) : wsF (canon n x) = ([[112, 97, 103, 101, 115], D n], D x) := by
  have e : canon n x = [112, 97, 103, 101, 115] ++ ([32] ++ (D n ++ ([32] ++ D x))) := by simp [canon, pgW]
  unfold wsF
  rw [e, List.foldl_append, List.foldl_append, List.foldl_append, List.foldl_append, wsG_fold (D x) _ (fun hm => no_space hm rfl), wsG_fold (D n) _ (fun hm => no_space hm rfl), wsG_fold [112, 97, 103, 101, 115] _ (by decide)]
  rfl
theorem wsF_len : ∀ (k : Nat) (l : List UInt8), l.length = k → (wsF l).1.length + (wsF l).2.length ≤ l.length
  | 0, l, h => by rw [List.eq_nil_of_length_eq_zero h]; simp [wsF]
  | k + 1, l, h => by
    obtain ⟨m, c, rfl⟩ : ∃ m c, l = m ++ [c] := ⟨l.dropLast, l.getLast (by intro e; rw [e] at h; cases h), (List.dropLast_concat_getLast _).symm⟩
    have hm : m.length = k := by rw [List.length_append] at h; simpa using h
    have := wsF_len k m hm
    rw [wsF_snoc]
    unfold wsG
    split
    · simp; omega
    · simp; omega
theorem wsF_word (l : List UInt8) : ∀ x ∈ wds (wsF l), x.length ≤ l.length := by
  have h : ∀ (k : Nat) (l : List UInt8), l.length = k → ∀ x ∈ wds (wsF l), x.length ≤ l.length := by
    intro k
    induction k with
    | zero =>
      intro l hl x hx
      rw [List.eq_nil_of_length_eq_zero hl] at hx
      rw [show x = [] by simpa [wds, wsF] using hx]
      simp
    | succ k ih =>
      intro l h x hx
      obtain ⟨m, c, rfl⟩ : ∃ m c, l = m ++ [c] := ⟨l.dropLast, l.getLast (by intro e; rw [e] at h; cases h), (List.dropLast_concat_getLast _).symm⟩
      have hm : m.length = k := by rw [List.length_append] at h; simpa using h
      have hi := ih m hm
      have hl := wsF_len k m hm
      rw [wsF_snoc] at hx
      unfold wsG at hx
      split at hx
      · rcases List.mem_append.1 hx with hx | hx
        · have := hi x hx
          simp; omega
        · rw [List.mem_singleton.1 hx]; simp
      · rcases List.mem_append.1 hx with hx | hx
        · have := hi x (List.mem_append_left _ hx)
          simp; omega
        · rw [List.mem_singleton.1 hx]; simp; omega
  exact h l.length l rfl
/-- What head finds. -/
def hwW (s : ByteArray) : List (List UInt8) := wds (wsF ((bl s).take (s.size - 1)))
def hwA (s : ByteArray) : Int := nmI ((hwW s).getD 1 [])
def hwC (s : ByteArray) : Int := nmI ((hwW s).getD 2 [])
def hwN (s : ByteArray) : Int := if (hwW s).length = 3 then hwA s else 0
def hwX (s : ByteArray) : Int := if (hwW s).length = 3 then hwC s else 0
def hwT (a c : Int) (s : ByteArray) : Bool := (decide (0 ≤ a) && (decide (a ≤ 64) && (smB c && decide (bl s = hdL a.toNat c.toNat))))
def hwB (s : ByteArray) : Bool := if (hwW s).length = 3 then hwT (hwA s) (hwC s) s else false
theorem hw_ok {s : ByteArray} (h : hwB s = true) : ∃ n x : Nat, hwN s = n ∧ hwX s = x ∧ n ≤ 64 ∧ x < 2147483647 ∧ bl s = hdL n x := by
  unfold hwB at h
  by_cases h3 : (hwW s).length = 3
  · rw [if_pos h3] at h
    unfold hwT at h
    simp only [Bool.and_eq_true, decide_eq_true_eq] at h
    obtain ⟨h1, h2, h4, h5⟩ := h
    have h6 := smB_iff.1 h4
    unfold Sm1 at h6
    refine ⟨(hwA s).toNat, (hwC s).toNat, ?_, ?_, by omega, by omega, h5⟩
    · unfold hwN; rw [if_pos h3]; omega
    · unfold hwX; rw [if_pos h3]; omega
  · rw [if_neg h3] at h; cases h
theorem hw_of {s : ByteArray} {n x : Nat} (h1 : n ≤ 64) (h2 : x < 2147483647) (h : bl s = hdL n x) : hwB s = true ∧ hwN s = n ∧ hwX s = x := by
  have ht : (bl s).take (s.size - 1) = canon n x := by
    rw [← bl_len, h]
    unfold hdL
    simp
  have hw : hwW s = [[112, 97, 103, 101, 115], D n, D x] := by unfold hwW wds; rw [ht, wsF_canon]; rfl
  have hA : hwA s = n := by unfold hwA; rw [hw]; exact nm_D (by omega)
  have hC : hwC s = x := by unfold hwC; rw [hw]; exact nm_D (by omega)
  have h3 : (hwW s).length = 3 := by rw [hw]; rfl
  refine ⟨?_, by unfold hwN; rw [if_pos h3, hA], by unfold hwX; rw [if_pos h3, hC]⟩
  unfold hwB hwT
  rw [if_pos h3, hA, hC, decide_eq_true (by omega), decide_eq_true (by omega), smB_iff.2 (by unfold Sm1; omega), decide_eq_true (by simpa using h)]
  rfl
theorem own_blk {w : World} {base n c : Nat} {e : TypeId} {size : Nat} {A : Option Addr} {xs : List Value} (h : w.ownsRow base e size (.slice A n c) n xs) (hn : 1 ≤ n) : ∃ g, A = some ⟨g, 0, none⟩ ∧ base ≤ g := by
  rcases h.2 with ⟨hv, h0⟩ | ⟨g, cap, cur, hv, hb, _⟩
  · omega
  · injection hv with h1
    exact ⟨g, h1, hb⟩
def txl (ws : List (List UInt8)) : List Value := txts (ws.map sL)
theorem txl_len (ws : List (List UInt8)) : (txl ws).length = ws.length := by simp [txl, txts]
theorem txl_app (a b : List (List UInt8)) : txl (a ++ b) = txl a ++ txl b := by simp [txl, txts]
theorem txl_set (I : List (List UInt8)) (cur new : List UInt8) : (txl (I ++ [cur])).set I.length (.string (sL new)) = txl (I ++ [new]) := by
  rw [txl_app, txl_app, List.set_append_right _ _ (by rw [txl_len]; omega), txl_len, Nat.sub_self]
  rfl
theorem txl_last (I : List (List UInt8)) (cur : List UInt8) : (txl (I ++ [cur]))[I.length]? = some (.string (sL cur)) := by
  rw [txl_app, List.getElem?_append_right (by rw [txl_len]; omega), txl_len, Nat.sub_self]
  rfl
theorem txl_at {ws : List (List UInt8)} {k : Nat} {l : List UInt8} (h : ws[k]? = some l) : (txl ws)[k]? = some (.string (sL l)) := by simp [txl, txts, h]
theorem eTxt : Elem Tryd.prog 32 9 (.string ⟨#[]⟩) 1 16 := ⟨Tryd.underlying32, by kernel_rfl, rfl, by decide, by decide⟩
theorem ext_one {s : ByteArray} {k : Nat} {c : UInt8} (h : (bl s)[k]? = some c) : s.extract k (k + 1) = sL [c] := by
  refine bl_inj ?_
  rw [bl_extract, bl_sL, show k + 1 - k = 1 by omega]
  obtain ⟨hl, he⟩ := List.getElem?_eq_some_iff.1 h
  rw [List.drop_eq_getElem_cons hl, he]
  rfl
end Go.Proofs.YtoenecgjiejljaaDoor
