/-
  Texts merged into one (Txt, Sap): contracts of the functions of package lure, what is reckoned of games. Conditions: as each says.
-/
import Derived.Test.YtoenecgjiejljaaDoorMt6
import Derived.Lib.OthersKept
import Derived.Lib.IndexBytes
import Derived.BigQuiet
import Derived.Test.YtoenecgjiejljaaDoorMt4
import Derived.Deep.AppendLies
namespace Go.Proofs.YtoenecgjiejljaaDoor
open Go.RowKit
set_option linter.unusedVariables false

def tailB (s : ByteArray) : ByteArray := s.extract (s.size - 6) s.size
def headB (s : ByteArray) : ByteArray := s.extract 0 (s.size - 6)
/-- The first k bytes as digits; all of them; the digits of a ring. -/
def digsK (t : ByteArray) (k : Nat) : List Int := (List.range k).map fun i => bAt t i - 48
def digs (t : ByteArray) : List Int := digsK t t.size
def tailK (s : ByteArray) (k : Nat) : List Int := (List.range k).map fun i => bAt s (s.size - 6 + i) - 48
def tailD (s : ByteArray) : List Int := tailK s 6
def allNum (t : ByteArray) : Bool := (List.range t.size).all fun i => isNum (bAt t i)
def fitsB (a b : ByteArray) : Bool := decide (a.size = b.size) && (List.range a.size).all fun i => decide (bAt a i = 63) || decide (bAt a i = bAt b i)
def validE (s : ByteArray) : Int := if formB s false then (if sumL (tailD s) = 0 then 0 else 6) else 2

theorem bAt_extract (s : ByteArray) (a b i : Nat) (h : i < b - a) : bAt (s.extract a b) i = bAt s (a + i) := by
  unfold bAt
  rw [Lib.extract_data, List.getD_eq_getElem?_getD, List.getD_eq_getElem?_getD, List.getElem?_take, if_pos h, List.getElem?_drop]
theorem digsK_length (t : ByteArray) (k : Nat) : (digsK t k).length = k := by simp [digsK]
theorem digsK_succ (t : ByteArray) (k : Nat) : digsK t (k + 1) = digsK t k ++ [bAt t k - 48] := by simp [digsK, List.range_succ]
theorem tailK_length (t : ByteArray) (k : Nat) : (tailK t k).length = k := by simp [tailK]
theorem tailK_succ (t : ByteArray) (k : Nat) : tailK t (k + 1) = tailK t k ++ [bAt t (t.size - 6 + k) - 48] := by simp [tailK, List.range_succ]
theorem size_tailB {s : ByteArray} (h : 6 ≤ s.size) : (tailB s).size = 6 := by simp [tailB]; omega
theorem digs_tailB {s : ByteArray} (h : 6 ≤ s.size) : digs (tailB s) = tailD s := by
  unfold digs tailD tailK digsK
  rw [size_tailB h]
  refine List.map_congr_left fun i hi => ?_
  have := List.mem_range.1 hi
  unfold tailB
  rw [bAt_extract _ _ _ _ (by omega)]
theorem allNum_at {t : ByteArray} (h : allNum t = true) {k : Nat} (hk : k < t.size) : isNum (bAt t k) = true := List.all_eq_true.1 h k (List.mem_range.2 hk)
theorem isNum_iff {b : Int} : isNum b = true ↔ 48 ≤ b ∧ b ≤ 57 := by simp [isNum]
theorem form_size {s : ByteArray} {worn : Bool} (h : formB s worn = true) : s.size = 7 ∨ s.size = 8 := by
  simp only [formB, Bool.and_eq_true, Bool.or_eq_true, decide_eq_true_eq] at h
  exact h.1
theorem form_at {s : ByteArray} {worn : Bool} (h : formB s worn = true) {i : Nat} (hi : i < s.size) : okAt worn (s.size - 6) i (bAt s i) = true := by
  simp only [formB, Bool.and_eq_true] at h
  exact List.all_eq_true.1 h.2 i (List.mem_range.2 hi)
theorem form_tail {s : ByteArray} (h : formB s false = true) : allNum (tailB s) = true := by
  have hs := form_size h
  refine List.all_eq_true.2 fun i hi => ?_
  have hi := List.mem_range.1 hi
  rw [size_tailB (by omega)] at hi
  have := form_at h (i := s.size - 6 + i) (by omega)
  unfold tailB
  rw [bAt_extract _ _ _ _ (by omega)]
  unfold okAt at this
  rw [if_neg (by omega)] at this
  simpa using this
theorem dig_tail {s : ByteArray} (h : formB s false = true) : ∀ x ∈ tailD s, Dig x := by
  intro x hx
  obtain ⟨i, hi, rfl⟩ := List.mem_map.1 hx
  have hi := List.mem_range.1 hi
  have hs := form_size h
  have := allNum_at (form_tail h) (k := i) (by rw [size_tailB (by omega)]; exact hi)
  unfold tailB at this
  rw [bAt_extract _ _ _ _ (by omega), isNum_iff] at this
  exact ⟨by omega, by omega⟩
theorem form_ascii {s : ByteArray} {worn : Bool} (h : formB s worn = true) {i : Nat} (hi : i < s.size) : bAt s i < 128 := by
  have := form_at h hi
  unfold okAt isUp isNum at this
  split at this <;> simp at this <;> omega
theorem bAt_range (s : ByteArray) (i : Nat) : 0 ≤ bAt s i ∧ bAt s i < 256 := by
  unfold bAt
  have := UInt8.toNat_lt (s.data.toList.getD i 0)
  omega
theorem dig_digs {t : ByteArray} (h : allNum t = true) : ∀ x ∈ digs t, Dig x := by
  intro x hx
  obtain ⟨i, hi, rfl⟩ := List.mem_map.1 hx
  have := allNum_at h (List.mem_range.1 hi)
  rw [isNum_iff] at this
  exact ⟨by omega, by omega⟩
theorem fitsB_bad {a b : ByteArray} {k : Nat} (hk : k < a.size) (h1 : bAt a k ≠ 63) (h2 : bAt a k ≠ bAt b k) : fitsB a b = false := by
  simp only [fitsB, Bool.and_eq_false_iff]
  right
  rw [List.all_eq_false]
  exact ⟨k, List.mem_range.2 hk, by simp [h1, h2]⟩
theorem fitsB_ok {a b : ByteArray} (hs : a.size = b.size) (h : ∀ i, i < a.size → bAt a i = 63 ∨ bAt a i = bAt b i) : fitsB a b = true := by
  simp only [fitsB, Bool.and_eq_true, decide_eq_true_eq]
  exact ⟨hs, List.all_eq_true.2 fun i hi => by simpa using h i (List.mem_range.1 hi)⟩
theorem fitsB_size {a b : ByteArray} (h : a.size ≠ b.size) : fitsB a b = false := by simp [fitsB, h]

/-! ### An iterator beside a row of the call's own -/
theorem own_ne {w : World} {base n k : Nat} {v : Value} {e : TypeId} {size : Nat} {xs : List Value} {s : ByteArray} {pos : Nat} (h : w.ownsRow base e size v n xs) (hk : w.heap[k]? = some (.stringIter s pos)) : some k ≠ v.ownBlock := by
  rcases h.2 with ⟨rfl, _⟩ | ⟨g, cap, cur, rfl, _, hg, _⟩
  · simp [Value.ownBlock]
  · intro he
    have : k = g := by simpa [Value.ownBlock] using he
    subst this
    rw [hk] at hg
    cases hg
theorem own_iterAt {w : World} {base n k : Nat} {v : Value} {e : TypeId} {size : Nat} {xs : List Value} {s : ByteArray} {pos : Nat} (h : w.ownsRow base e size v n xs) (hk : w.heap[k]? = some (.stringIter s pos)) (pos' : Nat) : (w.iterAt k s pos').ownsRow base e size v n xs := by
  have hne := own_ne h hk
  obtain ⟨h1, h2⟩ := h
  refine ⟨h1, ?_⟩
  rcases h2 with h2 | ⟨g, cap, cur, rfl, b, c, d⟩
  · exact .inl h2
  · refine .inr ⟨g, cap, cur, rfl, b, ?_, d⟩
    rw [Lib.iterAt_other _ _ _ _ _ (fun e => hne (by simp [Value.ownBlock, e]))]
    exact c
theorem iter_grown {w w' : World} {base n k : Nat} {v : Value} {e : TypeId} {size : Nat} {xs : List Value} {s : ByteArray} {pos : Nat} (h : w.ownsRow base e size v n xs) (hk : w.heap[k]? = some (.stringIter s pos)) (hg : w.grownBy w' v.ownBlock) : w'.heap[k]? = some (.stringIter s pos) := by
  rw [hg.block k (Array.getElem?_eq_some_iff.1 hk).1 (own_ne h hk)]
  exact hk
theorem iter_alloc {w : World} {k : Nat} {s : ByteArray} {pos : Nat} (hk : w.heap[k]? = some (.stringIter s pos)) (o : Obj) : (w.alloc o).heap[k]? = some (.stringIter s pos) := by
  rw [Below.heap_alloc _ _ _ (Array.getElem?_eq_some_iff.1 hk).1]
  exact hk
theorem iterPos_of {w : World} {k : Nat} {s : ByteArray} {p : Nat} (h : w.heap[k]? = some (.stringIter s p)) : w.iterPos k = p := by simp [World.iterPos, h]

/-- A function that made a slice of ints. -/
def MadeInts (w : World) (l : List Int) (e : Ending) (w' : World) : Prop := ∃ A c, e = .returned (.slice A l.length c) ∧ Rd w' w'.heap.size A (ints l) ∧ Below w.heap.size w w'
end Go.Proofs.YtoenecgjiejljaaDoor
namespace Go.Proofs.YtoenecgjiejljaaDoor
open Go.RowKit
set_option linter.unusedVariables false

/-- append of whatever slice to one of the call's own, at a step of a region that draws its order. -/
theorem step_app {P : Program} {w w0 : World} {ops : Array Oper} {o : Oper} {a : Act} {K : Act → World → Prop} {Q : Exit → Act → World → Prop} {F : Prop} {T e : TypeId} {z : Value} {size bytes : Nat} (E : Elem P T e z size bytes) (hgd : o.guard = none) (s x : Operand)
    (ho : o.op = .call { callee := .builtin .append, args := #[s, x], argTypes := #[T, T] }) {B : Nat} {v : Value} {n : Nat} {xs : List Value} (hs : a.eval s = v) (hown : w.ownsRow B e size v n xs) (hb : Below B w0 w) (hB : B ≤ w.heap.size)
    {B' : Nat} {A : Option Addr} {m c : Nat} {news : List Value} (hx : a.eval x = .slice A m c) (hr : Rd w B' A news) (hl : news.length = m * size) (h1 : ∀ u ∈ news, u.oneCell' = true) (N : Nat) (hN : n + m = N) (hbytes : N * bytes ≤ 140737488355328)
    (h : ∀ A' c' w', w'.ownsRow B e size (.slice A' N c') N (xs ++ news) → Below B w0 w' → w.grownBy w' v.ownBlock → ((Value.slice A' N c').ownBlock = v.ownBlock ∨ (Value.slice A' N c').ownBlock = some w.heap.size) → K (a.put o.dst (.slice A' N c')) w') :
    if Region.wanted o (yielded ops a.tmps) = true then Oper.wp P o a w K Q else F := by
  have hw : Region.wanted o (yielded ops a.tmps) = true := by simp [Region.wanted, hgd]
  rw [if_pos hw]
  obtain ⟨i, hi, hz, hsize, hby⟩ := info_parts E.hi
  subst hN
  have h63 : n + m ≤ maxLen := by
    have := Nat.le_trans (Nat.le_mul_of_pos_right (n + m) E.hby) hbytes
    simp only [maxLen]
    omega
  have key : ∃ v' w', (Builtin.append_ #[T, T] o.type #[v, .slice A m c]).run P w = .ok v' w' ∧ w'.ownsRow B e size v' (n + m) (xs ++ news) ∧ w.grownBy w' v.ownBlock ∧ (v'.ownBlock = v.ownBlock ∨ v'.ownBlock = some w.heap.size) := by
    rcases A with _ | ad
    · have hn : news = [] := by
        rcases hr with h0 | ⟨b, o', ha, _⟩
        · exact h0
        · cases ha
      subst hn
      have hm : m = 0 := by
        rcases Nat.eq_zero_or_pos m with h0 | h0
        · exact h0
        · have := Nat.mul_pos h0 E.hsz
          simp at hl
          omega
      subst hm
      refine ⟨v, w, ?_, by simpa using hown, World.grownBy.refl w _, .inl rfl⟩
      rcases hown.2 with ⟨rfl, rfl⟩ | ⟨g, cap, cur, rfl, _, _, hnc, _⟩
      · simp [Builtin.append_, run_underlying E.ht, sizeOf, typeInfo, hi, Builtin.lenOf, Builtin.firstCells]
      · simp [Builtin.append_, run_underlying E.ht, sizeOf, typeInfo, hi, Builtin.lenOf, Builtin.firstCells, hnc, storeCells]
    · have hcells : ∀ j u, news[j]? = some u → w.cell? (ad.add j) = some u := by
        intro j u hu
        obtain ⟨b, o', ha, _, hc⟩ := hr.at_ hu
        injection ha with ha
        subst ha
        rw [Go.WideShapes.add_plain]
        exact hc
      obtain ⟨v', w', hrun, h2, h3, _, h5⟩ := run_append_own_at (P := P) w B T o.type e i z size bytes E.ht hi hz hsize hby E.hzs E.hsz v n xs hown ad m c news hl hcells h1 h63 hbytes hB
      exact ⟨v', w', hrun, h2, h3, h5⟩
  obtain ⟨v', w', hrun, h2, h3, h4⟩ := key
  obtain ⟨A', c', rfl, _⟩ := own_form h2
  unfold Oper.wp execOp
  simp only [ho, resolve, invoke, builtin, Sem.run_bind, Sem.run_pure, Result.andThen_ok, List.map_toArray, List.map_cons, List.map_nil, hs, hx, hrun]
  exact h A' c' w' h2 (Below.app hb hown h3 hB (Nat.le_refl _)) h3 h4

theorem own_drewN {w : World} {B n : Nat} {e : TypeId} {size : Nat} {v : Value} {xs : List Value} (h : w.ownsRow B e size v n xs) (m : Nat) : (w.drewN m).ownsRow B e size v n xs := own_below h ⟨rfl, rfl, rfl, Nat.le_refl _, fun _ _ => rfl⟩
theorem own_drew1 {w : World} {B n : Nat} {e : TypeId} {size : Nat} {v : Value} {xs : List Value} (h : w.ownsRow B e size v n xs) : w.drew.ownsRow B e size v n xs := own_below h (Below.refl _ _).drew
end Go.Proofs.YtoenecgjiejljaaDoor
