/-
  Texts merged into one (Mem, Rec, Pnt, Post, Bit, Wb1, Lb1, Lb2): contracts of the functions of package lure, what is reckoned of games. Conditions: as each says.
-/
import Derived.WalkKit
import Derived.Handy
import Derived.Deep.QuietTactic
import Derived.Maps.AppendAt
import Derived.Laws.AppendOwnNone
import Derived.Laws.OwnMore
import Derived.Lib.Hide
import Derived.Deep.Slices
import Derived.Deep.Fields
import Derived.ChangeSame
import Derived.OpenShut
import Derived.ProofKit
import Derived.Deep.DeepHandedRow
import Derived.Lib.LaidTab
import Derived.Lib.LaidU8
import Derived.Laws.BitsAllLaws
import Derived.Laws.BitsLemmas
import Derived.RowKit
import Derived.Laws.ShiftsVarLaws
namespace Go.Proofs.Ytibcjkpfpiamkab
open Go.RowKit
set_option linter.unusedVariables false

/-- The slice at A holds the cells xs, below block B; where xs is empty nothing is said. -/
def Rd (w : World) (B : Nat) (A : Option Addr) (xs : List Value) : Prop :=
  xs = [] ∨ ∃ b o, A = some ⟨b, o, none⟩ ∧ b < B ∧ ∀ i u, xs[i]? = some u → w.cell? ⟨b, o + i, none⟩ = some u

section
variable {w w' : World} {B B' : Nat} {A : Option Addr} {xs : List Value}
theorem Rd.nil_ : Rd w B A [] := .inl rfl
theorem Rd.at_ {k : Nat} {u : Value} (h : Rd w B A xs) (hk : xs[k]? = some u) : ∃ b o, A = some ⟨b, o, none⟩ ∧ b < B ∧ w.cell? ⟨b, o + k, none⟩ = some u := by
  rcases h with rfl | ⟨b, o, ha, hb, hc⟩
  · simp at hk
  · exact ⟨b, o, ha, hb, hc k u hk⟩
theorem Rd.keep (h : Rd w B A xs) (hk : ∀ p : Addr, p.block < B → w'.cell? p = w.cell? p) : Rd w' B A xs := by
  rcases h with rfl | ⟨b, o, ha, hb, hc⟩
  · exact .inl rfl
  · exact .inr ⟨b, o, ha, hb, fun i u hu => (hk ⟨b, o + i, none⟩ hb).trans (hc i u hu)⟩
theorem Rd.more (h : Rd w B A xs) (hB : B ≤ B') : Rd w B' A xs := by
  rcases h with rfl | ⟨b, o, ha, hb, hc⟩
  · exact .inl rfl
  · exact .inr ⟨b, o, ha, Nat.lt_of_lt_of_le hb hB, hc⟩
theorem Rd.below (h : Rd w B A xs) (hb : Below B' w w') (hB : B ≤ B') : Rd w' B A xs := h.keep fun _ hp => hb.cell (Nat.lt_of_lt_of_le hp hB)
theorem Rd.drewN (h : Rd w B A xs) (k : Nat) : Rd (w.drewN k) B A xs := h
theorem Rd.take (h : Rd w B A xs) (n : Nat) : Rd w B A (xs.take n) := by
  rcases h with rfl | ⟨b, o, ha, hb, hc⟩
  · exact .inl (by simp)
  · refine .inr ⟨b, o, ha, hb, fun i u hu => hc i u ?_⟩
    rw [List.getElem?_take] at hu
    split at hu
    · exact hu
    · cases hu
theorem Rd.one (w : World) (u : Value) (e : TypeId) (hB : w.heap.size < B) : Rd (w.alloc (.cells #[u] e)) B (some ⟨w.heap.size, 0, none⟩) [u] := by
  refine .inr ⟨_, _, rfl, hB, fun i x hx => ?_⟩
  match i, hx with
  | 0, hx => exact (by simpa [Addr.add] using cell_one_new w u e 0 x hx)
theorem Rd.of_own {base n c : Nat} {e : TypeId} {size : Nat} (h : w.ownsRow base e size (.slice A n c) n xs) : Rd w w.heap.size A xs := by
  by_cases hx : xs = []
  · exact .inl hx
  · rcases h.2 with ⟨hv, hn⟩ | ⟨g, cap, cur, hv, hbg, hg, hnc, hcm, hcs, htake⟩
    · exact absurd (List.eq_nil_of_length_eq_zero (by rw [h.1, hn]; simp)) hx
    · have hA : A = some ⟨g, 0, none⟩ := by injection hv
      subst hA
      refine .inr ⟨g, 0, rfl, lt_of_block hg, fun i u hu => ?_⟩
      have hi : i < n * size := by rw [← h.1]; exact (List.getElem?_eq_some_iff.1 hu).1
      have hc : c = cap := by injection hv
      subst hc
      rw [Nat.zero_add]
      have := h.cellAt i hi
      rw [this, hu]
theorem own_form {base n : Nat} {v : Value} {e : TypeId} {size : Nat} (h : w.ownsRow base e size v n xs) : ∃ A c, v = .slice A n c ∧ n ≤ c := by
  rcases h.2 with ⟨hv, hn⟩ | ⟨g, cap, cur, hv, hbg, hg, hnc, hcm, hcs, htake⟩
  · exact ⟨none, 0, by rw [hv, hn], by omega⟩
  · exact ⟨_, _, hv, hnc⟩
end

/-- The cells of a list of ints, of strings. -/
def ints (l : List Int) : List Value := l.map (Value.int .i64)
theorem ints_at {l : List Int} {k : Nat} {d : Int} (h : l[k]? = some d) : (ints l)[k]? = some (.int .i64 d) := by simp [ints, h]
theorem ints_one (l : List Int) : ∀ u ∈ ints l, u.oneCell' = true := by
  intro u hu
  obtain ⟨d, _, rfl⟩ := List.mem_map.1 hu
  rfl
theorem ints_append (a b : List Int) : ints (a ++ b) = ints a ++ ints b := by simp [ints]
theorem ints_length (l : List Int) : (ints l).length = l.length := by simp [ints]
/-- One element of a list of ints in memory. -/
theorem Rd.int {w : World} {B : Nat} {A : Option Addr} {l : List Int} (h : Rd w B A (ints l)) (k : Nat) (hk : k < l.length) :
    ∃ b o d, A = some ⟨b, o, none⟩ ∧ Hid (l[k]? = some d) ∧ w.cell? ⟨b, o + k, none⟩ = some (.int .i64 d) := by
  obtain ⟨b, o, ha, _, hc⟩ := h.at_ (ints_at (List.getElem?_eq_getElem hk))
  exact ⟨b, o, _, ha, (List.getElem?_eq_getElem hk : _), hc⟩

/-- A contract of a function that leaves the world alone, as a quiet region wants it. -/
theorem qs {P : Program} {f : FuncId} {args : Array Value} {w : World} {a n : Nat} {v : Value} (h : Calls P f args (w.drewN (a + n)) fun e w' => e = .returned v ∧ w.drewN (a + n) = w') :
    Calls P f args (w.drewN (a + n)) fun e w'' => e = .returned v ∧ ∃ m, w'' = w.drewN (a + m) := h.mono fun _ _ ⟨he, hm⟩ => ⟨he, n, hm.symm⟩
theorem qs0 {P : Program} {f : FuncId} {args : Array Value} {w : World} {n : Nat} {v : Value} (h : Calls P f args (w.drewN n) fun e w' => e = .returned v ∧ w.drewN n = w') :
    Calls P f args (w.drewN n) fun e w'' => e = .returned v ∧ ∃ m, w'' = w.drewN m := h.mono fun _ _ ⟨he, hm⟩ => ⟨he, n, hm.symm⟩

section
variable {P : Program} (w : World)
/-- append of whatever slice to one of the call's own. -/
theorem wpList_app {ops : Array Oper} {rest : List Oper} {o : Oper} {a : Act} {Q : Exit → Act → World → Prop} (hgd : o.guard = none) (s x : Operand) (t : TypeId)
    (ho : o.op = .call { callee := .builtin .append, args := #[s, x], argTypes := #[t, t] })
    (base : Nat) (e : TypeId) (i : TypeInfo) (z : Value) (size bytes : Nat) (ht : P.underlying t = some (.slice e)) (hi : P.info? e = some i) (hz : i.zero = some z)
    (hsize : i.size = size) (hby : i.bytes = bytes) (hzs : z.cells.size = size) (hsz : 0 < size)
    (v : Value) (n : Nat) (xs : List Value) (hs : a.eval s = v) (hown : w.ownsRow base e size v n xs)
    (B : Nat) (A : Option Addr) (m c : Nat) (news : List Value) (hx : a.eval x = .slice A m c) (hl : news.length = m * size) (hr : Rd w B A news) (h1 : ∀ u ∈ news, u.oneCell' = true)
    (h63 : n + m ≤ maxLen) (hbytes : (n + m) * bytes ≤ 140737488355328) (hbase : base ≤ w.heap.size)
    (h : ∀ v' w', w'.ownsRow base e size v' (n + m) (xs ++ news) → w.grownBy w' v.ownBlock → (v'.ownBlock = v.ownBlock ∨ v'.ownBlock = some w.heap.size) → wpList P ops Q rest (a.put o.dst v') w') :
    wpList P ops Q (o :: rest) a w := by
  have key : ∃ v' w', (Builtin.append_ #[t, t] o.type #[v, .slice A m c]).run P w = .ok v' w' ∧ w'.ownsRow base e size v' (n + m) (xs ++ news) ∧ w.grownBy w' v.ownBlock ∧ (v'.ownBlock = v.ownBlock ∨ v'.ownBlock = some w.heap.size) := by
    rcases A with _ | ad
    · have hn : news = [] := by
        rcases hr with h0 | ⟨b, o', ha, _⟩
        · exact h0
        · cases ha
      subst hn
      have hm : m = 0 := by
        rcases Nat.eq_zero_or_pos m with h0 | h0
        · exact h0
        · have := Nat.mul_pos h0 hsz
          simp at hl
          omega
      subst hm
      refine ⟨v, w, ?_, by simpa using hown, World.grownBy.refl w _, .inl rfl⟩
      rcases hown.2 with ⟨rfl, rfl⟩ | ⟨g, cap, cur, rfl, _, _, hnc, _⟩
      · simp [Builtin.append_, run_underlying ht, sizeOf, typeInfo, hi, Builtin.lenOf, Builtin.firstCells]
      · simp [Builtin.append_, run_underlying ht, sizeOf, typeInfo, hi, Builtin.lenOf, Builtin.firstCells, hnc, storeCells]
    · have hcells : ∀ j u, news[j]? = some u → w.cell? (ad.add j) = some u := by
        intro j u hu
        obtain ⟨b, o', ha, _, hc⟩ := hr.at_ hu
        injection ha with ha
        subst ha
        rw [Go.WideShapes.add_plain]
        exact hc
      obtain ⟨v', w', hrun, h2, h3, _, h5⟩ := run_append_own_at (P := P) w base t o.type e i z size bytes ht hi hz hsize hby hzs hsz v n xs hown ad m c news hl hcells h1 h63 hbytes hbase
      exact ⟨v', w', hrun, h2, h3, h5⟩
  obtain ⟨v', w', hrun, h2, h3, h4⟩ := key
  refine wpList_plain hgd fun _ hK => ?_
  unfold Oper.wp execOp
  simp only [ho, resolve, invoke, builtin, Sem.run_bind, Sem.run_pure, Result.andThen_ok, List.map_toArray, List.map_cons, List.map_nil, hs, hx, hrun]
  exact hK _ _ (h v' w' h2 h3 h4)
end
/-- What an append leaves below a bound. -/
theorem Below.app {B : Nat} {w0 w w' : World} {v : Value} {base : Nat} {e : TypeId} {size n : Nat} {xs : List Value} (h : Below B w0 w) (hown : w.ownsRow base e size v n xs) (hg : w.grownBy w' v.ownBlock) (hB : B ≤ w.heap.size) (hb : B ≤ base) : Below B w0 w' :=
  h.grown hg hB fun k hk => by
    rcases hown.2 with ⟨rfl, _⟩ | ⟨g, cap, cur, rfl, hbg, _⟩
    · simp [Value.ownBlock] at hk
    · have : g = k := by simpa [Value.ownBlock] using hk
      omega

/-- An element type, as the laws on append and make ask it. -/
structure Elem (P : Program) (T e : TypeId) (z : Value) (size bytes : Nat) : Prop where
  ht : P.underlying T = some (.slice e)
  hi : (P.info? e).map (fun i => (i.zero, i.size, i.bytes)) = some (some z, size, bytes)
  hzs : z.cells.size = size
  hsz : 0 < size
  hby : 0 < bytes
/-- append, in the words of a walk: the row that is owned, the source that is read, the bound B below which nothing turns. -/
theorem app {P : Program} {w w0 : World} {ops : Array Oper} {rest : List Oper} {o : Oper} {a : Act} {Q : Exit → Act → World → Prop} {T e : TypeId} {z : Value} {size bytes : Nat} (E : Elem P T e z size bytes) (hgd : o.guard = none) (s x : Operand)
    (ho : o.op = .call { callee := .builtin .append, args := #[s, x], argTypes := #[T, T] }) {B : Nat} {v : Value} {n : Nat} {xs : List Value} (hs : a.eval s = v) (hown : w.ownsRow B e size v n xs) (hb : Below B w0 w) (hB : B ≤ w.heap.size)
    {B' : Nat} {A : Option Addr} {m c : Nat} {news : List Value} (hx : a.eval x = .slice A m c) (hr : Rd w B' A news) (hl : news.length = m * size) (h1 : ∀ u ∈ news, u.oneCell' = true) (N : Nat) (hN : n + m = N) (hbytes : N * bytes ≤ 140737488355328)
    (h : ∀ A' c' w', w'.ownsRow B e size (.slice A' N c') N (xs ++ news) → Below B w0 w' → w.grownBy w' v.ownBlock → ((Value.slice A' N c').ownBlock = v.ownBlock ∨ (Value.slice A' N c').ownBlock = some w.heap.size) → wpList P ops Q rest (a.put o.dst (.slice A' N c')) w') :
    wpList P ops Q (o :: rest) a w := by
  obtain ⟨i, hi, hz, hsize, hby⟩ := info_parts E.hi
  subst hN
  have h63 : n + m ≤ maxLen := by
    have := Nat.le_trans (Nat.le_mul_of_pos_right (n + m) E.hby) hbytes
    simp only [maxLen]
    omega
  refine wpList_app w hgd s x T ho B e i z size bytes E.ht hi hz hsize hby E.hzs E.hsz v n xs hs hown B' A m c news hx hl hr h1 h63 hbytes hB ?_
  intro v' w' h2 h3 h4
  obtain ⟨A', c', rfl, _⟩ := own_form h2
  exact h A' c' w' h2 (Below.app hb hown h3 hB (Nat.le_refl _)) h3 h4
/-- An empty literal. -/
theorem own_lit (w : World) {B : Nat} (e : TypeId) (size : Nat) (hB : B ≤ w.heap.size) : (w.alloc (.cells #[] e)).ownsRow B e size (.slice (some ⟨w.heap.size, 0, none⟩) 0 0) 0 [] := by
  have h := World.ownsRow_lit (base := B) (e := e) (size := size) w #[] 0 hB (Nat.zero_le _) (by simp)
  simpa using h
theorem size_alloc' {w : World} {B : Nat} (hB : B ≤ w.heap.size) (o : Obj) : B ≤ (w.alloc o).heap.size := by simp; omega
end Go.Proofs.Ytibcjkpfpiamkab
namespace Go.Proofs.Ytibcjkpfpiamkab
open Go.RowKit Go.ChangeShapes Go.WideShapes Go.Deep Go.ChangeAt
set_option linter.unusedVariables false

theorem flat_at {α : Type} {cells : α → List Value} {nf : Nat} (hlen : ∀ x, (cells x).length = nf) : ∀ {l : List α} {k : Nat} {x : α} {j : Nat} {u : Value}, l[k]? = some x → (cells x)[j]? = some u → (l.flatMap cells)[k * nf + j]? = some u
  | [], _, _, _, _, h, _ => by simp at h
  | y :: r, 0, x, j, u, h, hj => by
    simp at h
    subst h
    have hl := (List.getElem?_eq_some_iff.1 hj).1
    rw [Nat.zero_mul, Nat.zero_add, List.flatMap_cons, List.getElem?_append_left hl]
    exact hj
  | y :: r, k + 1, x, j, u, h, hj => by
    have ih := flat_at hlen (l := r) (k := k) (x := x) (j := j) (u := u) (by simpa using h) hj
    rw [List.flatMap_cons, List.getElem?_append_right (by rw [hlen, Nat.succ_mul]; omega), hlen, Nat.succ_mul]
    have e : k * nf + nf + j - nf = k * nf + j := by omega
    rw [e]
    exact ih
theorem flat_inv {α : Type} {cells : α → List Value} {nf : Nat} (hlen : ∀ x, (cells x).length = nf) : ∀ {l : List α} {i : Nat} {u : Value}, (l.flatMap cells)[i]? = some u → ∃ k x j, l[k]? = some x ∧ j < nf ∧ i = k * nf + j ∧ (cells x)[j]? = some u
  | [], _, _, h => by simp at h
  | y :: r, i, u, h => by
    rw [List.flatMap_cons] at h
    rcases Nat.lt_or_ge i (cells y).length with hi | hi
    · rw [List.getElem?_append_left hi] at h
      exact ⟨0, y, i, rfl, by rw [← hlen y]; exact hi, by omega, h⟩
    · rw [List.getElem?_append_right hi] at h
      obtain ⟨k, x, j, hx, hj, he, hc⟩ := flat_inv hlen h
      rw [hlen] at he hi
      exact ⟨k + 1, x, j, by simpa using hx, hj, by rw [Nat.succ_mul]; omega, hc⟩
theorem flat_length {α : Type} {cells : α → List Value} {nf : Nat} (hlen : ∀ x, (cells x).length = nf) (l : List α) : (l.flatMap cells).length = l.length * nf := by
  induction l with
  | nil => simp
  | cons x r ih => rw [List.flatMap_cons, List.length_append, ih, hlen, List.length_cons, Nat.succ_mul]; omega
theorem list_of {α : Type} {R : Nat → α → Prop} : ∀ n : Nat, (∀ i, i < n → ∃ x, R i x) → ∃ l : List α, l.length = n ∧ ∀ i x, l[i]? = some x → R i x
  | 0, _ => ⟨[], rfl, fun i x h => by simp at h⟩
  | n + 1, h => by
    obtain ⟨l, hl, hr⟩ := list_of n fun i hi => h i (by omega)
    obtain ⟨x, hx⟩ := h n (by omega)
    refine ⟨l ++ [x], by simp [hl], fun i y hy => ?_⟩
    rcases Nat.lt_or_ge i l.length with hi | hi
    · rw [List.getElem?_append_left hi] at hy
      exact hr i y hy
    · rw [List.getElem?_append_right hi] at hy
      have h0 : i - l.length = 0 := by
        rcases Nat.eq_zero_or_pos (i - l.length) with h | h
        · exact h
        · rw [List.getElem?_eq_none (by simp; omega)] at hy; cases hy
      rw [h0] at hy
      simp at hy
      subst hy
      have : i = n := by omega
      subst this
      exact hx

section
variable {H : Type} {enc : TypeId × Value → H} {P : Program} {w : World}
theorem open_recs {α : Type} (cells : α → List Value) (Good : α → Prop) {t e : TypeId} {fs : Array Field} {v : Value} {d : DataW H} {p : List MemPlace} {r : Reach} {b0 : Nat} (ht : P.underlying t = some (.slice e)) (he : P.underlying e = some (.struct fs))
    (hone : oneCellFields P fs = true) (hC : P.cellsOf e = fs.size) (hlen : ∀ x, (cells x).length = fs.size) (hpos : 0 < fs.size)
    (hrow : ∀ (cv : Nat → Value), (∀ (j : Nat) (f : Field), fs[j]? = some f → ∃ n y, DataW.trod enc P w 0 (fun _ => true) true n f.type [cv j] = some y) → ∃ x, Good x ∧ ∀ j, j < fs.size → (cells x)[j]? = some (cv j))
    (hval : Value.okWide P w r b0 t v) (h : DataW.Trod enc P w 0 (fun _ => true) true t v d p) :
    ∃ (A : Option Addr) (c : Nat) (l : List α), v = .slice A (l.length : Nat) c ∧ l.length ≤ c ∧ c ≤ maxLen ∧ Rd w w.heap.size A (l.flatMap cells) ∧ ∀ x ∈ l, Good x := by
  obtain ⟨a0, len, cap, rfl⟩ := okWide_slice ht hval
  obtain ⟨fuel, hf⟩ := h
  rcases open_slice ht hf with ⟨hcs, _⟩ | ⟨a, len', cap', m, n, D, Pl, hcs, _, hl, hm, hmm, _, hi⟩
  · have : a0 = none ∧ len = 0 ∧ cap = 0 := by simpa [Value.cells] using hcs
    obtain ⟨rfl, rfl, rfl⟩ := this
    exact ⟨none, 0, [], rfl, by simp, by simp [maxLen], .inl rfl, by simp⟩
  · have : a0 = some a ∧ len = len' ∧ cap = cap' := by simpa [Value.cells] using hcs
    obtain ⟨rfl, rfl, rfl⟩ := this
    simp only [if_true] at hmm
    have key : ∀ i, i < len → ∃ x, Good x ∧ ∀ j u, (cells x)[j]? = some u → w.cell? (a.add (i * fs.size + j)) = some u := by
      intro i him
      obtain ⟨cs', hc, ht'⟩ := hi i (by omega)
      rw [hC] at hc
      obtain ⟨ys, n', hn', hy, hlen', hyl, hfld⟩ := DataW.trod_struct he ht'
      obtain ⟨_, hcl, hat⟩ := World.cells?_some hc
      have hcl' : cs'.length = fs.size := hcl
      obtain ⟨x, hg, hx⟩ := hrow (fun j => cs'.getD j undef) (fun j f hj => by
        obtain ⟨ho, hk⟩ := hone_of hone j f hj
        have hjl : j < fs.size := (Array.getElem?_eq_some_iff.1 hj).1
        have h1 := hfld j f hj
        rw [ho, hk] at h1
        have hone' : (cs'.drop j).take 1 = [cs'.getD j undef] := by
          rw [List.drop_eq_getElem_cons (by omega), List.getD_eq_getElem?_getD, List.getElem?_eq_getElem (by omega)]
          rfl
        rw [hone'] at h1
        have hys : ys[j]? = some (ys[j]'(by omega)) := List.getElem?_eq_getElem (by omega)
        exact ⟨_, _, h1.trans hys⟩)
      refine ⟨x, hg, fun j u hu => ?_⟩
      have hj : j < fs.size := by rw [← hlen x]; exact (List.getElem?_eq_some_iff.1 hu).1
      have hcell := hat j hj
      rw [← Go.Deep.add_add, hcell]
      rw [hx j hj] at hu
      rw [← hu, List.getD_eq_getElem?_getD, List.getElem?_eq_getElem (by omega)]
      rfl
    obtain ⟨l, hll, hlr⟩ := list_of len key
    refine ⟨some a, cap, l, by rw [hll], by omega, hm, ?_, fun x hx => by
      obtain ⟨i, hi, he⟩ := List.getElem_of_mem hx
      exact (hlr i x (by rw [← he]; exact List.getElem?_eq_getElem hi)).1⟩
    by_cases h0 : l = []
    · subst h0
      exact .inl rfl
    · have hcell : ∀ i u, (l.flatMap cells)[i]? = some u → w.cell? (a.add i) = some u := by
        intro i u hu
        obtain ⟨k, x, j, hx, hj, he, hc⟩ := flat_inv hlen hu
        rw [he]
        exact (hlr k x hx).2 j u hc
      obtain ⟨b, off, spot⟩ := a
      have hfl : 0 < (l.flatMap cells).length := by
        rw [flat_length hlen]
        exact Nat.mul_pos (List.length_pos_iff.2 h0) hpos
      have hc0 := hcell 0 _ (List.getElem?_eq_getElem hfl)
      have hspot : spot = none := by simpa [Addr.add] using World.cell?_spot hc0
      subst hspot
      have hlt : b < w.heap.size := World.block_lt_of_cell? w _ (by simpa [Addr.add] using hc0)
      exact .inr ⟨b, off, rfl, hlt, fun i u hu => by rw [← Go.WideShapes.add_plain]; exact hcell i u hu⟩
end
end Go.Proofs.Ytibcjkpfpiamkab
namespace Go.Proofs.Ytibcjkpfpiamkab
open Go.RowKit
set_option linter.unusedVariables false

structure Pt where
  x : Int
  y : Int
structure Sg where
  a : Pt
  b : Pt
def Pt.cells (p : Pt) : List Value := [.int .i64 p.x, .int .i64 p.y]
def Pt.v (p : Pt) : Value := .agg #[.int .i64 p.x, .int .i64 p.y]
def Sg.cells (s : Sg) : List Value := [.int .i64 s.a.x, .int .i64 s.a.y, .int .i64 s.b.x, .int .i64 s.b.y]
def Sg.v (s : Sg) : Value := .agg #[.int .i64 s.a.x, .int .i64 s.a.y, .int .i64 s.b.x, .int .i64 s.b.y]
theorem ptLen (p : Pt) : (Pt.cells p).length = 2 := rfl
theorem sgLen (s : Sg) : (Sg.cells s).length = 4 := rfl
def okC (n : Int) : Bool := decide (-100 ≤ n) && decide (n ≤ 100)
def okP (p : Pt) : Bool := okC p.x && okC p.y
def side (a b p : Pt) : Int := (b.x - a.x) * (p.y - a.y) - (b.y - a.y) * (p.x - a.x)
def meetI (a b c d : Int) : Bool := decide (max (min a b) (min c d) ≤ min (max a b) (max c d))
def touchB (a b c d : Pt) : Bool := meetI a.x b.x c.x d.x && (meetI a.y b.y c.y d.y && (decide (side a b c * side a b d ≤ 0) && decide (side c d a * side c d b ≤ 0)))

theorem okC_iff {n : Int} : okC n = true ↔ -100 ≤ n ∧ n ≤ 100 := by simp [okC]
theorem okP_iff {p : Pt} : okP p = true ↔ (-100 ≤ p.x ∧ p.x ≤ 100) ∧ (-100 ≤ p.y ∧ p.y ≤ 100) := by simp [okP, okC_iff]
theorem mul_le {u v A B : Int} (hu : -A ≤ u ∧ u ≤ A) (hv : -B ≤ v ∧ v ≤ B) : -(A * B) ≤ u * v ∧ u * v ≤ A * B := by
  have hA : 0 ≤ A := by omega
  have hB : 0 ≤ B := by omega
  have h1 : u * v ≤ A * B := by
    rcases Int.le_total 0 v with h | h
    · exact Int.le_trans (Int.mul_le_mul_of_nonneg_right hu.2 h) (Int.mul_le_mul_of_nonneg_left hv.2 hA)
    · have : u * v = (-u) * (-v) := by rw [Int.neg_mul_neg]
      rw [this]
      exact Int.le_trans (Int.mul_le_mul_of_nonneg_right (show -u ≤ A by omega) (by omega)) (Int.mul_le_mul_of_nonneg_left (by omega) hA)
  have h2 : -(u * v) ≤ A * B := by
    rcases Int.le_total 0 v with h | h
    · have : -(u * v) = (-u) * v := by rw [Int.neg_mul]
      rw [this]
      exact Int.le_trans (Int.mul_le_mul_of_nonneg_right (show -u ≤ A by omega) h) (Int.mul_le_mul_of_nonneg_left hv.2 hA)
    · have : -(u * v) = u * (-v) := by rw [Int.mul_neg]
      rw [this]
      exact Int.le_trans (Int.mul_le_mul_of_nonneg_right hu.2 (by omega)) (Int.mul_le_mul_of_nonneg_left (by omega) hA)
  exact ⟨by omega, h1⟩
/-- How large what is reckoned with gets. -/
theorem side_le {a b p : Pt} (ha : okP a = true) (hb : okP b = true) (hp : okP p = true) :
    (-200 ≤ b.x - a.x ∧ b.x - a.x ≤ 200) ∧ (-200 ≤ p.y - a.y ∧ p.y - a.y ≤ 200) ∧ (-200 ≤ b.y - a.y ∧ b.y - a.y ≤ 200) ∧ (-200 ≤ p.x - a.x ∧ p.x - a.x ≤ 200) ∧
    (-40000 ≤ (b.x - a.x) * (p.y - a.y) ∧ (b.x - a.x) * (p.y - a.y) ≤ 40000) ∧ (-40000 ≤ (b.y - a.y) * (p.x - a.x) ∧ (b.y - a.y) * (p.x - a.x) ≤ 40000) ∧ (-80000 ≤ side a b p ∧ side a b p ≤ 80000) := by
  rw [okP_iff] at ha hb hp
  have h1 : -200 ≤ b.x - a.x ∧ b.x - a.x ≤ 200 := by omega
  have h2 : -200 ≤ p.y - a.y ∧ p.y - a.y ≤ 200 := by omega
  have h3 : -200 ≤ b.y - a.y ∧ b.y - a.y ≤ 200 := by omega
  have h4 : -200 ≤ p.x - a.x ∧ p.x - a.x ≤ 200 := by omega
  have m1 := mul_le h1 h2
  have m2 := mul_le h3 h4
  refine ⟨h1, h2, h3, h4, by omega, by omega, ?_⟩
  unfold side
  omega
theorem side2_le {a b p q : Pt} (ha : okP a = true) (hb : okP b = true) (hp : okP p = true) (hq : okP q = true) : -6400000000 ≤ side a b p * side a b q ∧ side a b p * side a b q ≤ 6400000000 := by
  have := mul_le (side_le ha hb hp).2.2.2.2.2.2 (side_le ha hb hq).2.2.2.2.2.2
  omega

/-! ### Symmetry -/
theorem meet_swap (a b c d : Int) : meetI a b c d = meetI d c a b := by
  unfold meetI
  rw [Bool.eq_iff_iff]
  simp only [decide_eq_true_eq]
  omega
theorem side_rev (a b p : Pt) : side b a p = -side a b p := by
  unfold side
  grind
theorem touch_swap (a b c d : Pt) : touchB a b c d = touchB d c a b := by
  unfold touchB
  rw [meet_swap a.x b.x c.x d.x, meet_swap a.y b.y c.y d.y, side_rev c d a, side_rev c d b, Int.neg_mul_neg]
  have : side a b d * side a b c = side a b c * side a b d := Int.mul_comm _ _
  rw [this]
  cases meetI d.x c.x a.x b.x <;> cases meetI d.y c.y a.y b.y <;> simp [Bool.and_comm]
theorem touch_pair (a b c d : Pt) : touchB a b c d = touchB c d a b := by
  unfold touchB
  have e1 : ∀ a b c d : Int, meetI a b c d = meetI c d a b := fun a b c d => by
    unfold meetI; rw [Bool.eq_iff_iff]; simp only [decide_eq_true_eq]; omega
  rw [e1 a.x b.x c.x d.x, e1 a.y b.y c.y d.y]
  cases meetI c.x d.x a.x b.x <;> cases meetI c.y d.y a.y b.y <;> simp [Bool.and_comm]
theorem touch_rev (a b c d : Pt) : touchB a b c d = touchB a b d c := by rw [touch_swap, touch_pair]

/-! ### Opening -/
open Go.ChangeShapes Go.WideShapes Go.Deep Go.ChangeAt
section
variable {H : Type} {enc : TypeId × Value → H} {P : Program} {w : World}
theorem pt_of {e : TypeId} {f0 f1 : Field} {n : Nat} {cs : List Value} {y : DataW H × List MemPlace} (he : P.underlying e = some (.struct #[f0, f1])) (o0 : f0.offset = 0) (o1 : f1.offset = 1) (c0 : P.cellsOf f0.type = 1) (c1 : P.cellsOf f1.type = 1)
    (hC : P.cellsOf e = 2) (u0 : P.underlying f0.type = some (.int .i64)) (u1 : P.underlying f1.type = some (.int .i64)) (h : DataW.trod enc P w 0 (fun _ => true) true n e cs = some y) : ∃ p : Pt, cs = p.cells ∧ (Lit.int .i64 p.x).wf = true ∧ (Lit.int .i64 p.y).wf = true := by
  obtain ⟨ys, n', _, _, hlen, hyl, hf⟩ := DataW.trod_struct he h
  rw [hC] at hlen
  match cs, hlen with
  | [v0, v1], _ =>
    match ys, hyl with
    | [y0, y1], _ =>
      have h0 := hf 0 f0 rfl
      have h1 := hf 1 f1 rfl
      rw [o0, c0] at h0
      rw [o1, c1] at h1
      obtain ⟨a, ha, _, w0⟩ := DataW.trod_int u0 h0
      obtain ⟨b, hb, _, w1⟩ := DataW.trod_int u1 h1
      simp at ha hb
      exact ⟨⟨a, b⟩, by simp [Pt.cells, ha, hb], w0, w1⟩
def GoodP (p : Pt) : Prop := (Lit.int .i64 p.x).wf = true ∧ (Lit.int .i64 p.y).wf = true
def GoodS (s : Sg) : Prop := GoodP s.a ∧ GoodP s.b
theorem sg_of {e ep : TypeId} {f0 f1 g0 g1 : Field} {n : Nat} {cs : List Value} {y : DataW H × List MemPlace} (hs : P.underlying e = some (.struct #[g0, g1])) (t0 : g0.type = ep) (t1 : g1.type = ep) (q0 : g0.offset = 0) (q1 : g1.offset = 2) (hCs : P.cellsOf e = 4)
    (he : P.underlying ep = some (.struct #[f0, f1])) (o0 : f0.offset = 0) (o1 : f1.offset = 1) (c0 : P.cellsOf f0.type = 1) (c1 : P.cellsOf f1.type = 1)
    (hC : P.cellsOf ep = 2) (u0 : P.underlying f0.type = some (.int .i64)) (u1 : P.underlying f1.type = some (.int .i64)) (h : DataW.trod enc P w 0 (fun _ => true) true n e cs = some y) : ∃ s : Sg, cs = s.cells ∧ GoodS s := by
  obtain ⟨ys, n', _, _, hlen, hyl, hf⟩ := DataW.trod_struct hs h
  rw [hCs] at hlen
  match cs, hlen with
  | [v0, v1, v2, v3], _ =>
    match ys, hyl with
    | [y0, y1], _ =>
      have h0 := hf 0 g0 rfl
      have h1 := hf 1 g1 rfl
      rw [q0, t0, hC] at h0
      rw [q1, t1, hC] at h1
      obtain ⟨a, ha, wa⟩ := pt_of he o0 o1 c0 c1 hC u0 u1 h0
      obtain ⟨b, hb, wb⟩ := pt_of he o0 o1 c0 c1 hC u0 u1 h1
      simp [Pt.cells] at ha hb
      exact ⟨⟨a, b⟩, by simp [Sg.cells, ha, hb], wa, wb⟩
/-- A slice of records that came in, whatever its elements are. -/
theorem open_list {α : Type} (cells : α → List Value) (Good : α → Prop) {t e : TypeId} {C : Nat} {v : Value} {d : DataW H} {p : List MemPlace} {r : Reach} {b0 : Nat} (ht : P.underlying t = some (.slice e)) (hC : P.cellsOf e = C) (hpos : 0 < C) (hlen : ∀ x, (cells x).length = C)
    (hrow : ∀ (n : Nat) (cs : List Value) (y : DataW H × List MemPlace), DataW.trod enc P w 0 (fun _ => true) true n e cs = some y → ∃ x, cs = cells x ∧ Good x)
    (hval : Value.okWide P w r b0 t v) (h : DataW.Trod enc P w 0 (fun _ => true) true t v d p) :
    ∃ (A : Option Addr) (c : Nat) (l : List α), v = .slice A (l.length : Nat) c ∧ l.length ≤ c ∧ c ≤ maxLen ∧ Rd w w.heap.size A (l.flatMap cells) ∧ ∀ x ∈ l, Good x := by
  obtain ⟨a0, len, cap, rfl⟩ := okWide_slice ht hval
  obtain ⟨fuel, hf⟩ := h
  rcases open_slice ht hf with ⟨hcs, _⟩ | ⟨a, len', cap', m, n, D, Pl, hcs, _, hl, hm, hmm, _, hi⟩
  · have : a0 = none ∧ len = 0 ∧ cap = 0 := by simpa [Value.cells] using hcs
    obtain ⟨rfl, rfl, rfl⟩ := this
    exact ⟨none, 0, [], rfl, by simp, by simp [maxLen], .inl rfl, by simp⟩
  · have : a0 = some a ∧ len = len' ∧ cap = cap' := by simpa [Value.cells] using hcs
    obtain ⟨rfl, rfl, rfl⟩ := this
    simp only [if_true] at hmm
    have key : ∀ i, i < len → ∃ x, Good x ∧ ∀ j u, (cells x)[j]? = some u → w.cell? (a.add (i * C + j)) = some u := by
      intro i him
      obtain ⟨cs', hc, ht'⟩ := hi i (by omega)
      rw [hC] at hc
      obtain ⟨_, hcl, hat⟩ := World.cells?_some hc
      obtain ⟨x, hx, hg⟩ := hrow _ _ _ ht'
      refine ⟨x, hg, fun j u hu => ?_⟩
      have hj : j < C := by rw [← hlen x]; exact (List.getElem?_eq_some_iff.1 hu).1
      rw [← Go.Deep.add_add, hat j hj, hx]
      exact hu
    obtain ⟨l, hll, hlr⟩ := list_of len key
    refine ⟨some a, cap, l, by rw [hll], by omega, hm, ?_, fun x hx => by
      obtain ⟨i, hi, he⟩ := List.getElem_of_mem hx
      exact (hlr i x (by rw [← he]; exact List.getElem?_eq_getElem hi)).1⟩
    by_cases h0 : l = []
    · subst h0
      exact .inl rfl
    · have hcell : ∀ i u, (l.flatMap cells)[i]? = some u → w.cell? (a.add i) = some u := by
        intro i u hu
        obtain ⟨k, x, j, hx, hj, he, hc⟩ := flat_inv hlen hu
        rw [he]
        exact (hlr k x hx).2 j u hc
      obtain ⟨b, off, spot⟩ := a
      have hfl : 0 < (l.flatMap cells).length := by
        rw [flat_length hlen]
        exact Nat.mul_pos (List.length_pos_iff.2 h0) hpos
      have hc0 := hcell 0 _ (List.getElem?_eq_getElem hfl)
      have hspot : spot = none := by simpa [Addr.add] using World.cell?_spot hc0
      subst hspot
      have hlt : b < w.heap.size := World.block_lt_of_cell? w _ (by simpa [Addr.add] using hc0)
      exact .inr ⟨b, off, rfl, hlt, fun i u hu => by rw [← Go.WideShapes.add_plain]; exact hcell i u hu⟩
/-- A struct that came in by value. -/
theorem open_rec {α : Type} (cells : α → List Value) (Good : α → Prop) {t : TypeId} {fs : Array Field} {v : Value} {d : DataW H} {p : List MemPlace} {r : Reach} {b0 : Nat} (ht : P.underlying t = some (.struct fs))
    (hrow : ∀ (n : Nat) (cs : List Value) (y : DataW H × List MemPlace), DataW.trod enc P w 0 (fun _ => true) true n t cs = some y → ∃ x, cs = cells x ∧ Good x)
    (hval : Value.okWide P w r b0 t v) (h : DataW.Trod enc P w 0 (fun _ => true) true t v d p) : ∃ x, v = .agg (cells x).toArray ∧ Good x := by
  obtain ⟨cs, rfl, _⟩ := okWide_struct ht hval
  obtain ⟨fuel, hf⟩ := h
  obtain ⟨x, hx, hg⟩ := hrow _ _ _ hf
  refine ⟨x, ?_, hg⟩
  have : cs.toList = cells x := by simpa [Value.cells] using hx
  rw [← this]
end
theorem Rd.rec {α : Type} {cells : α → List Value} {nf : Nat} (hlen : ∀ x, (cells x).length = nf) (hpos : 0 < nf) {w : World} {B : Nat} {A : Option Addr} {l : List α} (h : Rd w B A (l.flatMap cells)) (k : Nat) (hk : k < l.length) :
    ∃ b o x, A = some ⟨b, o, none⟩ ∧ b < B ∧ Hid (l[k]? = some x) ∧ ∀ j u, (cells x)[j]? = some u → w.cell? ⟨b, o + (k * nf + j), none⟩ = some u := by
  have hx : l[k]? = some l[k] := List.getElem?_eq_getElem hk
  rcases h with h0 | ⟨b', o', ha', hb, hc'⟩
  · have := flat_length hlen l
    rw [h0] at this
    have := Nat.mul_pos (show 0 < l.length by omega) hpos
    simp at *
    omega
  · exact ⟨b', o', _, ha', hb, hx, fun j u hu => hc' _ _ (flat_at hlen hx hu)⟩
end Go.Proofs.Ytibcjkpfpiamkab
namespace Go.Proofs.Ytibcjkpfpiamkab
open Go.ChangeShapes Go.WideShapes Go.ChangeAt Go.RowKit
open Go.ChangeMaps (open_string)
set_option linter.unusedVariables false

section
variable {H : Type} {enc : TypeId × Value → H} {P : Program}
/-- All arguments read behind the call as they did. -/
theorem trodAll_below {W W' : World} (hl : laidOutB P = true) (hb : Below W.heap.size W W') : ∀ {ts : List TypeId} {vs : List Value} {ds : List (DataW H)} {ps : List MemPlace}, (∀ t ∈ ts, P.readableRec t = true ∧ t < P.types.size) →
    DataW.TrodAll enc P W 0 (fun _ => true) true ts vs ds ps → (∀ x ∈ ps, x.block < W.heap.size) → DataW.TrodAll enc P W' 0 (fun b => decide (b < W.heap.size)) true ts vs ds ps
  | [], [], [], _, _, h, _ => h
  | t :: ts, v :: vs, d :: ds, _, ht, ⟨p, q, h1, h2, e⟩, hp => by
    subst e
    exact ⟨p, q, Below.trod hl (ht t (by simp)).1 (ht t (by simp)).2 h1 hb (fun x hx => hp x (by simp [hx])), trodAll_below hl hb (fun t' ht' => ht t' (by simp [ht'])) h2 (fun x hx => hp x (by simp [hx])), rfl⟩
theorem post_true {f : Func} {s : ChangeSpec} {apart fresh handsOn : Bool} {W W' : World} {args : Array Value} {ds gs : List (DataW H)} {before : List MemPlace} {tb : TypeId}
    (hl : laidOutB P = true) (hts : (f.params.toList.all fun t => P.readableRec t && decide (t < P.types.size)) = true) (htb : P.underlying tb = some .bool) (hvars : s.vars = []) (hres : f.resultTypes = #[tb])
    (hW : DataW.Whole enc P f.params.toList s.vars apart W args.toList ds gs before) (hfn : (s.fn H (ds ++ gs)).results = [.lit (.bool true)] ∧ (s.fn H (ds ++ gs)).args = ds ∧ (s.fn H (ds ++ gs)).vars = []) (hb : Below W.heap.size W W') :
    s.post enc P f apart fresh handsOn false W args (.bool true) W' := by
  have hlt := fun x hx => hW.lt x hx
  have hW0 := hW
  obtain ⟨p, q, hA, hV, hps, _, _⟩ := hW
  rw [hvars] at hV
  obtain ⟨rfl, rfl⟩ := trodVars_none hV
  refine ⟨ds, [], before, [], p, [], hW0, ?_, ?_, ?_, hb.frame _, fun h => by cases h⟩
  · rw [hfn.1, hres]
    exact trodAll_mk1 (shut_bool htb true)
  · rw [hfn.2.1]
    refine trodAll_below hl hb (fun t ht => ?_) hA (fun x hx => hlt x (by rw [hps]; simp [hx]))
    have := List.all_eq_true.1 hts t ht
    simpa using this
  · rw [hvars, hfn.2.2]
    rfl
theorem rd_of_cells {W : World} {a : Addr} {zs : List Int} {len : Nat} (hl : len ≤ zs.length) (h : ∀ i, i < zs.length → W.cell? (a.add i) = some (.int .i64 (zs.getD i 0))) : Rd W W.heap.size (some a) (ints (zs.take len)) := by
  by_cases h0 : 0 < zs.length
  · obtain ⟨b, o, rfl, hc⟩ := _root_.Go.ints_at h h0
    have hlt : b < W.heap.size := World.block_lt_of_cell? W _ (hc 0 h0)
    refine .inr ⟨b, o, rfl, hlt, fun i u hu => ?_⟩
    simp only [ints, List.getElem?_map, Option.map_eq_some_iff] at hu
    obtain ⟨d, hd, rfl⟩ := hu
    rw [List.getElem?_take] at hd
    split at hd
    · have hi := (List.getElem?_eq_some_iff.1 hd).1
      rw [hc i hi]
      simp [List.getD, hd]
    · cases hd
  · have : zs = [] := List.eq_nil_of_length_eq_zero (by omega)
    subst this
    exact .inl (by simp [ints])
/-- A slice of ints that came in. -/
theorem open_rd {t e : TypeId} {r : Reach} {b0 : Nat} {W : World} {v : Value} {d : DataW H} {p : List MemPlace} (ht : P.underlying t = some (.slice e)) (he : P.underlying e = some (.int .i64)) (hc : P.cellsOf e = 1)
    (hval : Value.okWide P W r b0 t v) (h : DataW.Trod enc P W 0 (fun _ => true) true t v d p) :
    ∃ A c l, v = .slice A (l.length : Nat) c ∧ l.length ≤ c ∧ c ≤ maxLen ∧ Rd W W.heap.size A (ints l) ∧ ∀ n ∈ l, (Lit.int .i64 n).wf = true := by
  obtain ⟨a0, len, cap, rfl⟩ := okWide_slice ht hval
  obtain ⟨fuel, hf⟩ := h
  rcases open_ints ht he hc hf with ⟨hcs, _⟩ | ⟨a, len', cap', zs, hcs, _, hl, hm, hz, _, hcell, hw⟩
  · have : a0 = none ∧ len = 0 ∧ cap = 0 := by simpa [Value.cells] using hcs
    obtain ⟨rfl, rfl, rfl⟩ := this
    exact ⟨none, 0, [], rfl, by simp, by simp [maxLen], .inl rfl, by simp⟩
  · have : a0 = some a ∧ len = len' ∧ cap = cap' := by simpa [Value.cells] using hcs
    obtain ⟨rfl, rfl, rfl⟩ := this
    simp only [if_true] at hz
    refine ⟨some a, cap, zs.take len, by simp; omega, by simp; omega, hm, rd_of_cells (by omega) hcell, fun n hn => hw n (List.mem_of_mem_take hn)⟩
end

/-- A table's datum, as the cells that it lies in. -/
def flat : DataW Unit → List Value
  | .lit (.int k z) => [.int k z]
  | .lit (.string l) => [.string ⟨l.toArray⟩]
  | .agg l => flatAll l
  | _ => []
where flatAll : List (DataW Unit) → List Value
  | [] => []
  | d :: r => flat d ++ flatAll r
/-- A start in which the tables hold their data: the settled world, each table's block laid. -/
def relaid (d : DataW Unit) : Obj → Obj
  | .cells _ t fr => .cells (flat d).toArray t fr
  | o => o
noncomputable def laidHeap (L : List (Nat × DataW Unit)) (h : Array Obj) : Array Obj := L.foldl (fun h x => h.modify x.1 (relaid x.2)) h
noncomputable def laidWorld (P : Program) (os : Os) (L : List (Nat × DataW Unit)) : World :=
  { World.holding P os ⟨#[], #[], []⟩ with heap := laidHeap L (World.holding P os ⟨#[], #[], []⟩).heap }
end Go.Proofs.Ytibcjkpfpiamkab
namespace Go.Proofs.Ytibcjkpfpiamkab
set_option linter.unusedVariables false

def bitK (f : Nat → Bool) : Nat → Nat
  | 0 => 0
  | k + 1 => bitK f k + if f k then 2 ^ k else 0
theorem bitK_lt (f : Nat → Bool) : ∀ k, bitK f k < 2 ^ k
  | 0 => by simp [bitK]
  | k + 1 => by
    have := bitK_lt f k
    rw [bitK, Nat.pow_succ]
    split <;> omega
theorem bitK_test (f : Nat → Bool) : ∀ k j, j < k → (bitK f k).testBit j = f j
  | 0, j, h => by omega
  | k + 1, j, h => by
    have hlt := bitK_lt f k
    rw [bitK]
    by_cases hf : f k = true
    · rw [if_pos hf, Nat.add_comm]
      rcases Nat.lt_or_ge j k with hj | hj
      · rw [Nat.testBit_two_pow_add_gt hj]
        exact bitK_test f k j hj
      · obtain rfl : j = k := by omega
        rw [Nat.testBit_two_pow_add_eq, Nat.testBit_lt_two_pow hlt, hf]
        rfl
    · rw [if_neg hf, Nat.add_zero]
      rcases Nat.lt_or_ge j k with hj | hj
      · exact bitK_test f k j hj
      · obtain rfl : j = k := by omega
        rw [Nat.testBit_lt_two_pow hlt]
        simpa using hf
theorem bit_div {n j : Nat} : n / 2 ^ j % 2 = if n.testBit j then 1 else 0 := by
  rw [Nat.testBit_eq_decide_div_mod_eq]
  have : n / 2 ^ j % 2 < 2 := Nat.mod_lt _ (by omega)
  by_cases h : n / 2 ^ j % 2 = 1
  · simp [h]
  · have : n / 2 ^ j % 2 = 0 := by omega
    simp [this]
theorem ofInt_i64 (a : Nat) (ha : a < 9223372036854775808) : (BitVec.ofInt 64 (a : Int)).toNat = a := by
  rw [BitVec.ofInt_natCast, BitVec.toNat_ofNat]; exact Nat.mod_eq_of_lt (by omega)
theorem i64_or_nat (a b : Nat) (ha : a < 9223372036854775808) (hb : b < 9223372036854775808) : bits .or .i64 (a : Int) (b : Int) = ((a ||| b : Nat) : Int) := by
  have hx : a ||| b < 2 ^ 63 := Nat.or_lt_two_pow (by omega) (by omega)
  show IntKind.i64.wrap ((BitVec.ofInt 64 (a : Int) ||| BitVec.ofInt 64 (b : Int)).toNat : Int) = _
  rw [BitVec.toNat_or, ofInt_i64 a ha, ofInt_i64 b hb, IntKind.wrap_i64]
  omega
theorem i64_and_nat (a b : Nat) (ha : a < 9223372036854775808) (hb : b < 9223372036854775808) : bits .and .i64 (a : Int) (b : Int) = ((a &&& b : Nat) : Int) := by
  have hx : a &&& b < 2 ^ 63 := Nat.and_lt_two_pow _ (by omega)
  show IntKind.i64.wrap ((BitVec.ofInt 64 (a : Int) &&& BitVec.ofInt 64 (b : Int)).toNat : Int) = _
  rw [BitVec.toNat_and, ofInt_i64 a ha, ofInt_i64 b hb, IntKind.wrap_i64]
  omega
theorem or_bit {x k : Nat} (hx : x < 2 ^ k) (hk : k < 60) : bits .or .i64 (x : Int) ((2 ^ k : Nat) : Int) = ((x + 2 ^ k : Nat) : Int) := by
  have h2 : 2 ^ k < 2 ^ 60 := Nat.pow_lt_pow_right (by omega) hk
  have e : (2 : Nat) ^ 60 = 1152921504606846976 := by decide
  have h1 := Nat.two_pow_add_eq_or_of_lt hx 1
  rw [Nat.mul_one] at h1
  rw [i64_or_nat x (2 ^ k) (by omega) (by omega), Nat.or_comm, ← h1, Nat.add_comm]
end Go.Proofs.Ytibcjkpfpiamkab
namespace Go.Proofs.Ytibcjkpfpiamkab
set_option linter.unusedVariables false

theorem ext32 {x y : Nat} (hx : x < 4294967296) (hy : y < 4294967296) (h : ∀ j, j < 32 → x.testBit j = y.testBit j) : x = y := by
  apply Nat.eq_of_testBit_eq
  intro j
  rcases Nat.lt_or_ge j 32 with hj | hj
  · exact h j hj
  · have hp : 2 ^ 32 ≤ 2 ^ j := Nat.pow_le_pow_right (by omega) hj
    rw [Nat.testBit_lt_two_pow (by omega), Nat.testBit_lt_two_pow (by omega)]
theorem bit32 (f : Nat → Bool) : bitK f 32 < 4294967296 := bitK_lt f 32
theorem bitK_congr {f g : Nat → Bool} : ∀ {k : Nat}, (∀ j, j < k → f j = g j) → bitK f k = bitK g k
  | 0, _ => rfl
  | k + 1, h => by rw [bitK, bitK, bitK_congr (k := k) fun j hj => h j (by omega), h k (by omega)]
theorem bitK_of {x : Nat} (hx : x < 4294967296) : bitK x.testBit 32 = x := ext32 (bit32 _) hx fun j hj => bitK_test _ _ j hj
theorem bitK_head (g : Nat → Bool) : ∀ m, bitK g (m + 1) = bitK (fun j => g (j + 1)) m * 2 + if g 0 then 1 else 0
  | 0 => by simp [bitK]
  | m + 1 => by
    rw [bitK, bitK_head g m, bitK, Nat.pow_succ]
    split <;> split <;> omega
theorem bitK_add {f g : Nat → Bool} : ∀ {k : Nat}, (∀ j, j < k → (f j && g j) = false) → bitK f k + bitK g k = bitK (fun j => f j || g j) k
  | 0, _ => rfl
  | k + 1, h => by
    have ih := bitK_add (k := k) fun j hj => h j (by omega)
    have hk := h k (by omega)
    simp only [bitK, ← ih]
    by_cases hf : f k = true <;> by_cases hg : g k = true <;> simp [hf, hg] at hk ⊢ <;> omega
theorem bitK_and (f g : Nat → Bool) : bitK f 32 &&& bitK g 32 = bitK (fun j => f j && g j) 32 := by
  refine ext32 (Nat.lt_of_le_of_lt Nat.and_le_left (bit32 _)) (bit32 _) fun j hj => ?_
  rw [Nat.testBit_and, bitK_test _ _ _ hj, bitK_test _ _ _ hj, bitK_test _ _ _ hj]
theorem bitK_or (f g : Nat → Bool) : bitK f 32 ||| bitK g 32 = bitK (fun j => f j || g j) 32 := by
  refine ext32 (show _ < 2 ^ 32 from Nat.or_lt_two_pow (bit32 _) (bit32 _)) (bit32 _) fun j hj => ?_
  rw [Nat.testBit_or, bitK_test _ _ _ hj, bitK_test _ _ _ hj, bitK_test _ _ _ hj]
theorem bitK_zero {f : Nat → Bool} {k : Nat} (h : ∀ j, j < k → f j = false) : bitK f k = 0 := by
  induction k with
  | zero => rfl
  | succ k ih => rw [bitK, ih fun j hj => h j (by omega), h k (by omega)]; rfl
theorem all32 : bitK (fun _ => true) 32 = 4294967295 := by decide
theorem bitK_full {f : Nat → Bool} (h : bitK f 32 = 4294967295) {j : Nat} (hj : j < 32) : f j = true := by
  rw [← bitK_test f 32 j hj, h, ← all32, bitK_test _ _ _ hj]

/-! ### Turns -/
def rotN (x s : Nat) : Nat := x * 2 ^ s % 4294967296 ||| x / 2 ^ (32 - s)
theorem rot_lt {x s : Nat} (hx : x < 4294967296) : rotN x s < 4294967296 := by
  refine show _ < 2 ^ 32 from Nat.or_lt_two_pow (Nat.mod_lt _ (by decide)) ?_
  exact Nat.lt_of_le_of_lt (Nat.div_le_self _ _) hx
theorem rot_test {x s j : Nat} (hx : x < 4294967296) (hs : s < 32) (hj : j < 32) : (rotN x s).testBit j = x.testBit ((j + 32 - s) % 32) := by
  unfold rotN
  rw [Nat.testBit_or, show (4294967296 : Nat) = 2 ^ 32 from rfl, Nat.testBit_mod_two_pow, ← Nat.shiftLeft_eq, Nat.testBit_shiftLeft, Nat.testBit_div_two_pow]
  rcases Nat.lt_or_ge j s with h | h
  · have e : (j + 32 - s) % 32 = j + (32 - s) := by omega
    have e2 : decide (j ≥ s) = false := by simpa using h
    rw [e, e2]
    simp
  · have e : (j + 32 - s) % 32 = j - s := by omega
    have e2 : decide (j ≥ s) = true := by simpa using h
    have e3 : x.testBit (32 - s + j) = false := by
      apply Nat.testBit_lt_two_pow
      have : 2 ^ 32 ≤ 2 ^ (32 - s + j) := Nat.pow_le_pow_right (by omega) (by omega)
      omega
    rw [e, e2, Nat.add_comm j (32 - s), e3]
    simp [hj]
/-- The points of an arc. -/
def inArc (f w p : Nat) : Bool := decide ((p + 32 - f) % 32 < w)
def ptsN (f w : Nat) : Nat := bitK (inArc f w) 32
theorem low_lt {w : Nat} (hw : w ≤ 32) : 2 ^ w - 1 < 4294967296 := by
  have : 2 ^ w ≤ 2 ^ 32 := Nat.pow_le_pow_right (by omega) hw
  have := Nat.two_pow_pos w
  omega
theorem rot_pts {f w : Nat} (hf : f < 32) (hw : w ≤ 32) : rotN (2 ^ w - 1) f = ptsN f w := by
  refine ext32 (rot_lt (low_lt hw)) (bit32 _) fun j hj => ?_
  rw [rot_test (low_lt hw) hf hj, Nat.testBit_two_pow_sub_one]
  exact (bitK_test (inArc f w) 32 j hj).symm
theorem all_shr {w : Nat} (hw : w ≤ 32) : 4294967295 / 2 ^ (32 - w) = 2 ^ w - 1 := by
  have h : 2 ^ w * 2 ^ (32 - w) = 4294967296 := by rw [← Nat.pow_add, show w + (32 - w) = 32 by omega]
  have hp := Nat.two_pow_pos (32 - w)
  have hq := Nat.two_pow_pos w
  rw [Nat.div_eq_iff hp]
  refine ⟨?_, ?_⟩
  · rw [Nat.sub_mul, h, Nat.one_mul]; omega
  · rw [Nat.sub_mul, h, Nat.one_mul]; omega

/-! ### Bits in reverse order -/
def swapN (m k x : Nat) : Nat := x / 2 ^ k &&& m ||| (x &&& m) * 2 ^ k % 4294967296
theorem swap_lt {m k x : Nat} (hx : x < 4294967296) : swapN m k x < 4294967296 :=
  show _ < 2 ^ 32 from Nat.or_lt_two_pow (Nat.lt_of_le_of_lt Nat.and_le_left (Nat.lt_of_le_of_lt (Nat.div_le_self _ _) hx)) (Nat.mod_lt _ (by decide))
theorem swap_test {m k x j : Nat} (hj : j < 32) : (swapN m k x).testBit j = (x.testBit (k + j) && m.testBit j || (decide (j ≥ k) && (x.testBit (j - k) && m.testBit (j - k)))) := by
  unfold swapN
  rw [Nat.testBit_or, Nat.testBit_and, Nat.testBit_div_two_pow, show (4294967296 : Nat) = 2 ^ 32 from rfl, Nat.testBit_mod_two_pow, ← Nat.shiftLeft_eq, Nat.testBit_shiftLeft, Nat.testBit_and, Nat.add_comm]
  simp [hj]
/-- Which bit a swap of neighbors of k bits puts there. -/
def flip (k j : Nat) : Nat := if j / k % 2 = 0 then j + k else j - k
theorem flip_lt {k j : Nat} (hk : k = 1 ∨ k = 2 ∨ k = 4 ∨ k = 8 ∨ k = 16) (hj : j < 32) : flip k j < 32 := by
  unfold flip
  rcases hk with rfl | rfl | rfl | rfl | rfl <;> split <;> omega
theorem swap_flip {m k x j : Nat} (hj : j < 32) (hm : ∀ i, i < 32 → m.testBit i = decide (i / k % 2 = 0)) (hk : 0 < k) : (swapN m k x).testBit j = x.testBit (flip k j) := by
  rw [swap_test hj, hm j hj]
  unfold flip
  have back : ∀ i, (i + k) / k = i / k + 1 := fun i => Nat.add_div_right i hk
  by_cases h : j / k % 2 = 0
  · rw [if_pos h]
    have e : (decide (j ≥ k) && (x.testBit (j - k) && m.testBit (j - k))) = false := by
      by_cases hk2 : j ≥ k
      · have h1 := back (j - k)
        rw [Nat.sub_add_cancel hk2] at h1
        rw [hm (j - k) (by omega)]
        have : ¬ (j - k) / k % 2 = 0 := by omega
        simp [this]
      · simp [hk2]
    rw [e]
    simp [h, Nat.add_comm]
  · rw [if_neg h]
    have hk2 : j ≥ k := by
      rcases Nat.lt_or_ge j k with h2 | h2
      · rw [Nat.div_eq_of_lt h2] at h; simp at h
      · exact h2
    have h1 := back (j - k)
    rw [Nat.sub_add_cancel hk2] at h1
    have : (j - k) / k % 2 = 0 := by omega
    rw [hm (j - k) (by omega)]
    simp [h, this, hk2]
def halfN (x : Nat) : Nat := x / 65536 ||| x * 65536 % 4294967296
theorem half_flip {x j : Nat} (hx : x < 4294967296) (hj : j < 32) : (halfN x).testBit j = x.testBit (flip 16 j) := by
  unfold halfN
  rw [Nat.testBit_or, show (65536 : Nat) = 2 ^ 16 from rfl, Nat.testBit_div_two_pow, show (4294967296 : Nat) = 2 ^ 32 from rfl, Nat.testBit_mod_two_pow, ← Nat.shiftLeft_eq, Nat.testBit_shiftLeft, Nat.add_comm]
  unfold flip
  rcases Nat.lt_or_ge j 16 with h | h
  · rw [if_pos (by omega)]
    have e2 : decide (j ≥ 16) = false := by simpa using h
    rw [e2, Nat.add_comm]
    simp
  · rw [if_neg (by omega)]
    have e3 : x.testBit (j + 16) = false := by
      apply Nat.testBit_lt_two_pow
      have : 2 ^ 32 ≤ 2 ^ (j + 16) := Nat.pow_le_pow_right (by omega) (by omega)
      omega
    have e2 : decide (j ≥ 16) = true := by simpa using h
    rw [Nat.add_comm 16 j] at *
    simp [e3, hj, h]
def revN (x : Nat) : Nat := halfN (swapN 16711935 8 (swapN 252645135 4 (swapN 858993459 2 (swapN 1431655765 1 x))))
theorem rev_lt {x : Nat} (hx : x < 4294967296) : revN x < 4294967296 := by
  refine show _ < 2 ^ 32 from Nat.or_lt_two_pow ?_ (Nat.mod_lt _ (by decide))
  exact Nat.lt_of_le_of_lt (Nat.div_le_self _ _) (swap_lt (swap_lt (swap_lt (swap_lt hx))))
theorem m0_is : ∀ i, i < 32 → Nat.testBit 1431655765 i = decide (i / 1 % 2 = 0) := by decide
theorem m1_is : ∀ i, i < 32 → Nat.testBit 858993459 i = decide (i / 2 % 2 = 0) := by decide
theorem m2_is : ∀ i, i < 32 → Nat.testBit 252645135 i = decide (i / 4 % 2 = 0) := by decide
theorem m3_is : ∀ i, i < 32 → Nat.testBit 16711935 i = decide (i / 8 % 2 = 0) := by decide
theorem flips : ∀ j, j < 32 → flip 1 (flip 2 (flip 4 (flip 8 (flip 16 j)))) = 31 - j := by decide
theorem rev_test {x j : Nat} (hx : x < 4294967296) (hj : j < 32) : (revN x).testBit j = x.testBit (31 - j) := by
  unfold revN
  have h16 := flip_lt (k := 16) (by simp) hj
  have h8 := flip_lt (k := 8) (by simp) h16
  have h4 := flip_lt (k := 4) (by simp) h8
  have h2 := flip_lt (k := 2) (by simp) h4
  rw [half_flip (swap_lt (swap_lt (swap_lt (swap_lt hx)))) hj, swap_flip h16 m3_is (by decide), swap_flip h8 m2_is (by decide), swap_flip h4 m1_is (by decide), swap_flip h2 m0_is (by decide), flips j hj]
/-- Mirrored: the bit j comes from the bit -j. -/
def mirN (x : Nat) : Nat := rotN (revN x) 1
theorem mir_test {x j : Nat} (hx : x < 4294967296) (hj : j < 32) : (mirN x).testBit j = x.testBit ((32 - j) % 32) := by
  unfold mirN
  rw [rot_test (rev_lt hx) (by decide) hj, rev_test hx (Nat.mod_lt _ (by decide))]
  congr 1
  omega
end Go.Proofs.Ytibcjkpfpiamkab
namespace Go.Proofs.Ytibcjkpfpiamkab
open Go.RowKit
set_option linter.unusedVariables false

def prv (L : List Int) (k : Nat) : Int := if k = 0 then -1 else L.getD (k - 1) 0
def okI (lim : Int) (L : List Int) (k : Nat) : Bool := decide (prv L k < L.getD k 0) && decide (L.getD k 0 < lim)
def setL (lim : Int) (L : List Int) : Bool := (List.range L.length).all (okI lim L)
theorem setL_bad {lim : Int} {L : List Int} {k : Nat} (hk : k < L.length) (h : okI lim L k = false) : setL lim L = false := by
  unfold setL
  rw [List.all_eq_false]
  exact ⟨k, List.mem_range.2 hk, by simp [h]⟩
theorem setL_ok {lim : Int} {L : List Int} (h : ∀ k, k < L.length → okI lim L k = true) : setL lim L = true := by
  unfold setL
  rw [List.all_eq_true]
  exact fun k hk => h k (List.mem_range.1 hk)
theorem setL_at {lim : Int} {L : List Int} (h : setL lim L = true) {k : Nat} (hk : k < L.length) : okI lim L k = true := by
  unfold setL at h
  exact List.all_eq_true.1 h k (List.mem_range.2 hk)
theorem getD_at {L : List Int} {k : Nat} {d : Int} (h : L[k]? = some d) : L.getD k 0 = d := by rw [List.getD_eq_getElem?_getD, h]; rfl
theorem ok_pos {lim : Int} {L : List Int} {k : Nat} (h : ∀ j, j ≤ k → okI lim L j = true) : 0 ≤ L.getD k 0 := by
  induction k with
  | zero =>
    have := h 0 (Nat.le_refl _)
    unfold okI prv at this
    simp at this ⊢
    omega
  | succ k ih =>
    have h1 := h (k + 1) (Nat.le_refl _)
    have h2 := ih fun j hj => h j (by omega)
    unfold okI prv at h1
    simp at h1 h2 ⊢
    omega
theorem set_in {lim : Int} {L : List Int} (h : setL lim L = true) {k : Nat} {d : Int} (hd : L[k]? = some d) : 0 ≤ d ∧ d < lim := by
  have hk := (List.getElem?_eq_some_iff.1 hd).1
  have h1 := ok_pos (lim := lim) (L := L) (k := k) fun j hj => setL_at h (by omega)
  have h2 := setL_at h hk
  unfold okI at h2
  rw [getD_at hd] at h1 h2
  rw [Bool.and_eq_true, decide_eq_true_eq, decide_eq_true_eq] at h2
  exact ⟨h1, h2.2⟩
theorem set_mem {lim : Int} {L : List Int} (h : setL lim L = true) {d : Int} (hd : d ∈ L) : 0 ≤ d ∧ d < lim := by
  obtain ⟨k, hk, he⟩ := List.getElem_of_mem hd
  exact set_in h (k := k) (by rw [← he]; exact List.getElem?_eq_getElem hk)
theorem prv_next {L : List Int} {k : Nat} {d : Int} (h : L[k]? = some d) : prv L (k + 1) = d := by
  unfold prv
  rw [if_neg (by omega), Nat.add_sub_cancel, getD_at h]
/-- The numbers below k that belong to a set, in ascending order. -/
def listK (f : Nat → Bool) (k : Nat) : List Int := ((List.range k).filter f).map fun (j : Nat) => (j : Int)
def listB (f : Nat → Bool) : List Int := listK f 32
theorem listK_zero (f : Nat → Bool) : listK f 0 = [] := rfl
theorem listK_yes {f : Nat → Bool} {k : Nat} (h : f k = true) : listK f (k + 1) = listK f k ++ [(k : Int)] := by simp [listK, List.range_succ, List.filter_append, h]
theorem listK_no {f : Nat → Bool} {k : Nat} (h : f k = false) : listK f (k + 1) = listK f k := by simp [listK, List.range_succ, List.filter_append, h]
theorem listK_le (f : Nat → Bool) (k : Nat) : (listK f k).length ≤ k := by
  have := List.length_filter_le f (List.range k)
  simpa [listK] using this
theorem listB_le (f : Nat → Bool) : (listB f).length ≤ 32 := listK_le f 32
theorem listK_mem {f : Nat → Bool} {k : Nat} {d : Int} (h : d ∈ listK f k) : ∃ j : Nat, d = (j : Int) ∧ j < k ∧ f j = true := by
  simp only [listK, List.mem_map, List.mem_filter, List.mem_range] at h
  obtain ⟨j, ⟨hj, hf⟩, rfl⟩ := h
  exact ⟨j, rfl, hj, hf⟩
theorem listK_congr {f g : Nat → Bool} {k : Nat} (h : ∀ j, j < k → f j = g j) : listK f k = listK g k := by
  unfold listK
  congr 1
  exact List.filter_congr fun j hj => h j (List.mem_range.1 hj)
theorem listK_none {f : Nat → Bool} {k : Nat} (h : ∀ j, j < k → f j = false) : listK f k = [] := by
  induction k with
  | zero => rfl
  | succ k ih => rw [listK_no (h k (by omega)), ih fun j hj => h j (by omega)]
def memB (L : List Int) (j : Nat) : Bool := L.any fun d => decide (d = (j : Int))
theorem memB_iff {L : List Int} {j : Nat} : memB L j = true ↔ (j : Int) ∈ L := by
  unfold memB
  rw [List.any_eq_true]
  constructor
  · rintro ⟨d, hd, h⟩
    simp at h
    rwa [← h]
  · intro h
    exact ⟨_, h, by simp⟩
theorem memB_next {L : List Int} {k n : Nat} (h : L[k]? = some (n : Int)) (j : Nat) : memB (L.take (k + 1)) j = (memB (L.take k) j || decide (n = j)) := by
  unfold memB
  rw [List.take_add_one, h, List.any_append]
  have e : decide ((n : Int) = (j : Int)) = decide (n = j) := by rw [decide_eq_decide]; omega
  simp [e]
def gatN (L : List Int) : Nat := bitK (memB L) 32
theorem gat_next {L : List Int} {k n : Nat} (h : L[k]? = some (n : Int)) (hn : n < 31) : bits .or .u32 ((gatN (L.take k) : Nat) : Int) ((2 ^ n : Nat) : Int) = ((gatN (L.take (k + 1)) : Nat) : Int) := by
  have h2 : 2 ^ n < 2 ^ 32 := Nat.pow_lt_pow_right (by omega) (by omega)
  have h3 : 2 ^ n < 4294967296 := h2
  have hg : gatN (L.take k) < 4294967296 := bit32 _
  rw [u32_or_nat _ _ hg h3]
  congr 1
  refine ext32 (show _ < 2 ^ 32 from Nat.or_lt_two_pow hg h3) (bit32 _) fun j hj => ?_
  unfold gatN
  rw [Nat.testBit_or, bitK_test _ _ _ hj, bitK_test _ _ _ hj, memB_next h, Nat.testBit_two_pow]
theorem shl_u32 {k : Nat} (hk : k < 31) : (2 : Int) ^ k % 4294967296 = ((2 ^ k : Nat) : Int) := by
  have h2 : 2 ^ k < 2 ^ 32 := Nat.pow_lt_pow_right (by omega) (by omega)
  have e : (2 : Int) ^ k = ((2 ^ k : Nat) : Int) := by simp
  rw [e]
  have e2 : (2 : Nat) ^ 32 = 4294967296 := by decide
  rw [e2] at h2
  generalize 2 ^ k = P at *
  omega
theorem shr_one (x n : Nat) (hx : x < 4294967296) : bits .and .u32 ((x : Int) / 2 ^ n) 1 = if x.testBit n then 1 else 0 := by
  have e : (x : Int) / 2 ^ n = ((x / 2 ^ n : Nat) : Int) := by simp
  have h := bit_div (n := x) (j := n)
  rw [e, show (1 : Int) = ((1 : Nat) : Int) from rfl, u32_and_nat _ _ (Nat.lt_of_le_of_lt (Nat.div_le_self _ _) hx) (by decide), Nat.and_one_is_mod, h]
  split <;> rfl
theorem shr_eq (x n : Nat) (hx : x < 4294967296) : (bits .and .u32 ((x : Int) / 2 ^ n) 1 == 1) = x.testBit n := by
  rw [shr_one x n hx]
  cases x.testBit n <;> rfl
/-- The members of a number, where none is above k. -/
theorem listK_high {f : Nat → Bool} {k : Nat} (h : ∀ j, k ≤ j → f j = false) : ∀ {m : Nat}, k ≤ m → listK f m = listK f k := by
  intro m hm
  induction m with
  | zero =>
    obtain rfl : k = 0 := by omega
    rfl
  | succ m ih =>
    rcases Nat.lt_or_ge m k with h1 | h1
    · obtain rfl : k = m + 1 := by omega
      rfl
    · rw [listK_no (h m h1), ih h1]
theorem high_bits {n k j : Nat} (hn : n < 2 ^ k) (hj : k ≤ j) : n.testBit j = false :=
  Nat.testBit_lt_two_pow (Nat.lt_of_lt_of_le hn (Nat.pow_le_pow_right (by omega) hj))
theorem listB_small {n k : Nat} (hn : n < 2 ^ k) (hk : k ≤ 32) : listB n.testBit = listK n.testBit k := listK_high (fun j hj => high_bits hn hj) hk
theorem memB_listK (f : Nat → Bool) (k i : Nat) (hi : i < k) : memB (listK f k) i = f i := by
  rw [Bool.eq_iff_iff, memB_iff]
  constructor
  · intro h
    obtain ⟨j, he, _, hf⟩ := listK_mem h
    have : i = j := by omega
    rw [this]; exact hf
  · intro h
    exact List.mem_map.2 ⟨i, by simp [hi, h], rfl⟩
theorem setL_listK (f : Nat → Bool) (k : Nat) : setL k (listK f k) = true := by
  have hp : (listK f k).Pairwise (· < ·) := by
    unfold listK
    rw [List.pairwise_map]
    refine List.Pairwise.imp (fun {a b} h => ?_) (List.Pairwise.filter _ List.pairwise_lt_range)
    exact Int.ofNat_lt.2 h
  refine setL_ok fun j hj => ?_
  have hm : (listK f k)[j]? = some (listK f k)[j] := List.getElem?_eq_getElem hj
  obtain ⟨m, he, hlt, _⟩ := listK_mem (List.getElem_mem hj)
  unfold okI
  rw [getD_at hm, he, Bool.and_eq_true, decide_eq_true_eq, decide_eq_true_eq]
  refine ⟨?_, by omega⟩
  unfold prv
  by_cases h0 : j = 0
  · rw [if_pos h0]; omega
  · rw [if_neg h0]
    have hm2 : (listK f k)[j - 1]? = some (listK f k)[j - 1] := List.getElem?_eq_getElem (by omega)
    rw [getD_at hm2, ← he]
    exact List.pairwise_iff_getElem.1 hp (j - 1) j (by omega) hj (by omega)
theorem sorted_ext : ∀ {L M : List Int}, L.Pairwise (· < ·) → M.Pairwise (· < ·) → (∀ x, x ∈ L ↔ x ∈ M) → L = M
  | [], [], _, _, _ => rfl
  | [], b :: M, _, _, h => by have := (h b).2 List.mem_cons_self; cases this
  | a :: L, [], _, _, h => by have := (h a).1 List.mem_cons_self; cases this
  | a :: L, b :: M, hl, hm, h => by
    rw [List.pairwise_cons] at hl hm
    have hab : a = b := by
      rcases List.mem_cons.1 ((h a).1 List.mem_cons_self) with h1 | h1
      · exact h1
      · rcases List.mem_cons.1 ((h b).2 List.mem_cons_self) with h2 | h2
        · exact h2.symm
        · have := hm.1 a h1
          have := hl.1 b h2
          omega
    subst hab
    congr 1
    refine sorted_ext hl.2 hm.2 fun x => ?_
    constructor
    · intro hx
      rcases List.mem_cons.1 ((h x).1 (List.mem_cons_of_mem _ hx)) with h1 | h1
      · have := hl.1 x hx
        omega
      · exact h1
    · intro hx
      rcases List.mem_cons.1 ((h x).2 (List.mem_cons_of_mem _ hx)) with h1 | h1
      · have := hm.1 x hx
        omega
      · exact h1
theorem setL_pair {lim : Int} {L : List Int} (h : setL lim L = true) : L.Pairwise (· < ·) := by
  have key : ∀ j, j < L.length → ∀ i, i < j → L.getD i 0 < L.getD j 0 := by
    intro j
    induction j with
    | zero => intro _ i hi; omega
    | succ j ih =>
      intro hj i hi
      have h1 := setL_at h hj
      unfold okI prv at h1
      rw [if_neg (by omega), Nat.add_sub_cancel, Bool.and_eq_true, decide_eq_true_eq, decide_eq_true_eq] at h1
      rcases Nat.lt_or_ge i j with h2 | h2
      · have := ih (by omega) i h2
        omega
      · obtain rfl : i = j := by omega
        exact h1.1
  rw [List.pairwise_iff_getElem]
  intro i j hi hj hij
  have := key j hj i hij
  rwa [getD_at (List.getElem?_eq_getElem hi), getD_at (List.getElem?_eq_getElem hj)] at this
theorem listK_pair (f : Nat → Bool) (k : Nat) : (listK f k).Pairwise (· < ·) := by
  unfold listK
  rw [List.pairwise_map]
  refine List.Pairwise.imp (fun {a b} h => ?_) (List.Pairwise.filter _ List.pairwise_lt_range)
  exact Int.ofNat_lt.2 h
/-- A list in ascending order is the list of what it holds. -/
theorem setL_list {k : Nat} {L : List Int} (h : setL (k : Int) L = true) : listK (memB L) k = L :=
  sorted_ext (listK_pair _ _) (setL_pair h) fun x => by
    constructor
    · intro hx
      obtain ⟨j, rfl, _, hf⟩ := listK_mem hx
      exact memB_iff.1 hf
    · intro hx
      obtain ⟨h0, h1⟩ := set_mem h hx
      obtain ⟨j, rfl⟩ := Int.eq_ofNat_of_zero_le h0
      refine List.mem_map.2 ⟨j, ?_, rfl⟩
      rw [List.mem_filter]
      exact ⟨List.mem_range.2 (by omega), memB_iff.2 hx⟩
def cntK (f : Nat → Bool) : Nat → Nat
  | 0 => 0
  | k + 1 => cntK f k + if f k then 1 else 0
theorem cntK_list (f : Nat → Bool) : ∀ k, (listK f k).length = cntK f k
  | 0 => rfl
  | k + 1 => by
    rw [cntK]
    cases h : f k
    · rw [listK_no h, cntK_list f k]; rfl
    · rw [listK_yes h, List.length_append, cntK_list f k]; rfl
theorem cntK_add (f : Nat → Bool) (a : Nat) : ∀ b, cntK f (a + b) = cntK f a + cntK (fun j => f (a + j)) b
  | 0 => rfl
  | b + 1 => by
    rw [← Nat.add_assoc, cntK, cntK, cntK_add f a b]
    omega
theorem cntK_congr {f g : Nat → Bool} : ∀ {k : Nat}, (∀ j, j < k → f j = g j) → cntK f k = cntK g k
  | 0, _ => rfl
  | k + 1, h => by rw [cntK, cntK, cntK_congr fun j hj => h j (by omega), h k (by omega)]
theorem cntK_le (f : Nat → Bool) : ∀ k, cntK f k ≤ k
  | 0 => Nat.le_refl _
  | k + 1 => by
    have := cntK_le f k
    rw [cntK]
    split <;> omega
end Go.Proofs.Ytibcjkpfpiamkab
namespace Go.Proofs.Ytibcjkpfpiamkab
open Go.RowKit
set_option linter.unusedVariables false

/-- A game: the owners and the rows of moves. -/
structure Gm where
  own : List Int
  mv : List (List Int)
def Gm.row (G : Gm) (p : Nat) : List Int := G.mv.getD p []
def Gm.who (G : Gm) (p : Nat) : Int := G.own.getD p 0
def okRow (G : Gm) (p : Nat) : Bool := (decide (G.who p = 0) || decide (G.who p = 1)) && (!decide ((G.row p).length = 0) && setL G.own.length (G.row p))
def gE (G : Gm) : Int := if G.own.length = 0 ∨ 16 < G.own.length then 3 else if G.mv.length = G.own.length ∧ (List.range G.own.length).all (okRow G) = true then 0 else 1
structure Ok (G : Gm) : Prop where
  pos : 0 < G.own.length
  le : G.own.length ≤ 16
  len : G.mv.length = G.own.length
  rows : ∀ p, p < G.own.length → okRow G p = true
theorem gE_large {G : Gm} (h : G.own.length = 0 ∨ 16 < G.own.length) : gE G = 3 := if_pos h
theorem gE_len {G : Gm} (h : ¬ (G.own.length = 0 ∨ 16 < G.own.length)) (h2 : G.mv.length ≠ G.own.length) : gE G = 1 := by
  unfold gE
  rw [if_neg h, if_neg fun h3 => h2 h3.1]
theorem gE_bad {G : Gm} (h : ¬ (G.own.length = 0 ∨ 16 < G.own.length)) {p : Nat} (hp : p < G.own.length) (hr : okRow G p = false) : gE G = 1 := by
  unfold gE
  rw [if_neg h, if_neg]
  rintro ⟨_, h3⟩
  have := List.all_eq_true.1 h3 p (List.mem_range.2 hp)
  rw [hr] at this
  cases this
theorem gE_ok {G : Gm} (h : ¬ (G.own.length = 0 ∨ 16 < G.own.length)) (h2 : G.mv.length = G.own.length) (h3 : ∀ p, p < G.own.length → okRow G p = true) : gE G = 0 := by
  unfold gE
  rw [if_neg h, if_pos]
  exact ⟨h2, List.all_eq_true.2 fun p hp => h3 p (List.mem_range.1 hp)⟩
theorem gE_zero {G : Gm} (h : gE G = 0) : Ok G := by
  unfold gE at h
  split at h
  · cases h
  · split at h
    · rename_i h1 h2
      exact ⟨by omega, by omega, h2.1, fun p hp => List.all_eq_true.1 h2.2 p (List.mem_range.2 hp)⟩
    · cases h
theorem Ok.who {G : Gm} (H : Ok G) {p : Nat} (hp : p < G.own.length) : G.who p = 0 ∨ G.who p = 1 := by
  have := H.rows p hp
  unfold okRow at this
  simp at this
  exact this.1
theorem Ok.ne {G : Gm} (H : Ok G) {p : Nat} (hp : p < G.own.length) : 0 < (G.row p).length := by
  have := H.rows p hp
  unfold okRow at this
  simp at this
  exact List.length_pos_iff.2 this.2.1
theorem Ok.set {G : Gm} (H : Ok G) {p : Nat} (hp : p < G.own.length) : setL G.own.length (G.row p) = true := by
  have := H.rows p hp
  unfold okRow at this
  simp at this
  exact this.2.2
theorem Ok.mem {G : Gm} (H : Ok G) {p : Nat} (hp : p < G.own.length) {d : Int} (hd : d ∈ G.row p) : 0 ≤ d ∧ d.toNat < G.own.length := by
  have := set_mem (H.set hp) hd
  omega
theorem row_at {G : Gm} {p : Nat} {L : List Int} (h : G.mv[p]? = some L) : G.row p = L := by unfold Gm.row; rw [List.getD_eq_getElem?_getD, h]; rfl
theorem who_at {G : Gm} {p : Nat} {d : Int} (h : G.own[p]? = some d) : G.who p = d := getD_at h

/-! ### What is forced in one move -/
def hit (S : Nat) (L : List Int) : Bool := L.any fun d => S.testBit d.toNat
def inn (S : Nat) (L : List Int) : Bool := L.all fun d => S.testBit d.toNat
def fcB (G : Gm) (b : Int) (S p : Nat) : Bool := if G.who p = b then hit S (G.row p) else inn S (G.row p)
def fcN (G : Gm) (b : Int) (S : Nat) : Nat := bitK (fcB G b S) G.own.length
def sub (S T : Nat) : Prop := ∀ j, S.testBit j = true → T.testBit j = true
theorem sub_refl (S : Nat) : sub S S := fun _ h => h
theorem sub.trans {S T U : Nat} (h : sub S T) (g : sub T U) : sub S U := fun j hj => g j (h j hj)
theorem sub_anti {S T : Nat} (h : sub S T) (g : sub T S) : S = T := Nat.eq_of_testBit_eq fun j => by
  rw [Bool.eq_iff_iff]
  exact ⟨h j, g j⟩
theorem sub_zero (T : Nat) : sub 0 T := fun j h => by simp at h
theorem hit_mono {S T : Nat} (h : sub S T) {L : List Int} (g : hit S L = true) : hit T L = true := by
  obtain ⟨d, hd, e⟩ := List.any_eq_true.1 g
  exact List.any_eq_true.2 ⟨d, hd, h _ e⟩
theorem inn_mono {S T : Nat} (h : sub S T) {L : List Int} (g : inn S L = true) : inn T L = true :=
  List.all_eq_true.2 fun d hd => h _ (List.all_eq_true.1 g d hd)
theorem fcB_mono {G : Gm} {b : Int} {S T p : Nat} (h : sub S T) (g : fcB G b S p = true) : fcB G b T p = true := by
  unfold fcB at g ⊢
  split at g
  · rw [if_pos (by assumption)]; exact hit_mono h g
  · rw [if_neg (by assumption)]; exact inn_mono h g
theorem fcN_lt (G : Gm) (b : Int) (S : Nat) : fcN G b S < 2 ^ G.own.length := bitK_lt _ _
theorem fcN_at {G : Gm} {b : Int} {S p : Nat} (hp : p < G.own.length) : (fcN G b S).testBit p = fcB G b S p := bitK_test _ _ _ hp
theorem bit_in {S n p : Nat} (hS : S < 2 ^ n) (h : S.testBit p = true) : p < n := by
  rcases Nat.lt_or_ge p n with g | g
  · exact g
  · rw [high_bits hS g] at h; cases h
theorem fcN_iff {G : Gm} {b : Int} {S p : Nat} : (fcN G b S).testBit p = true ↔ p < G.own.length ∧ fcB G b S p = true := by
  constructor
  · intro h
    have hp := bit_in (fcN_lt G b S) h
    exact ⟨hp, by rw [← fcN_at hp]; exact h⟩
  · rintro ⟨hp, h⟩
    rw [fcN_at hp]; exact h
theorem fcN_mono {G : Gm} {b : Int} {S T : Nat} (h : sub S T) : sub (fcN G b S) (fcN G b T) := fun j hj => by
  rw [fcN_iff] at hj ⊢
  exact ⟨hj.1, fcB_mono h hj.2⟩
theorem fcN_zero {G : Gm} (H : Ok G) (b : Int) : fcN G b 0 = 0 := by
  unfold fcN
  refine bitK_zero fun p hp => ?_
  unfold fcB hit inn
  have hne := H.ne hp
  split
  · rw [List.any_eq_false]; intro d _; simp
  · rw [List.all_eq_false]
    match hL : G.row p, hne with
    | d :: r, _ => exact ⟨d, List.mem_cons_self, by simp⟩

/-! ### Levels -/
def lv (G : Gm) (goal : Nat) : Nat → Nat
  | 0 => 0
  | k + 1 => goal ||| fcN G 0 (lv G goal k)
section
variable {G : Gm} {goal : Nat}
theorem lv_lt (hg : goal < 2 ^ G.own.length) : ∀ k, lv G goal k < 2 ^ G.own.length
  | 0 => Nat.two_pow_pos _
  | k + 1 => Nat.or_lt_two_pow hg (fcN_lt _ _ _)
theorem lv_one (H : Ok G) : lv G goal 1 = goal := by
  show goal ||| fcN G 0 0 = goal
  rw [fcN_zero H, Nat.or_zero]
theorem or_sub {a b c d : Nat} (h : sub a c) (g : sub b d) : sub (a ||| b) (c ||| d) := fun j hj => by
  rw [Nat.testBit_or, Bool.or_eq_true] at hj ⊢
  exact hj.imp (h j) (g j)
theorem lv_up : ∀ k, sub (lv G goal k) (lv G goal (k + 1))
  | 0 => sub_zero _
  | k + 1 => or_sub (sub_refl _) (fcN_mono (lv_up k))
theorem lv_mono {i j : Nat} (h : i ≤ j) : sub (lv G goal i) (lv G goal j) := by
  induction j with
  | zero => obtain rfl : i = 0 := by omega
            exact sub_refl _
  | succ j ih =>
    rcases Nat.lt_or_ge j i with h1 | h1
    · obtain rfl : i = j + 1 := by omega
      exact sub_refl _
    · exact (ih h1).trans (lv_up j)
theorem cntK_mono {f g : Nat → Bool} : ∀ {n : Nat}, (∀ j, j < n → f j = true → g j = true) → cntK f n ≤ cntK g n
  | 0, _ => Nat.le_refl _
  | n + 1, h => by
    have ih := cntK_mono (n := n) fun j hj => h j (by omega)
    have hn := h n (by omega)
    rw [cntK, cntK]
    cases hf : f n
    · simp; omega
    · rw [hn hf]; simp; omega
theorem cntK_less {f g : Nat → Bool} : ∀ {n : Nat}, (∀ j, j < n → f j = true → g j = true) → (∃ j, j < n ∧ f j = false ∧ g j = true) → cntK f n < cntK g n
  | 0, _, ⟨j, hj, _⟩ => by omega
  | n + 1, h, ⟨j, hj, h1, h2⟩ => by
    have hn := h n (by omega)
    rw [cntK, cntK]
    by_cases hjn : j = n
    · subst hjn
      have ih := cntK_mono (n := j) fun i hi => h i (by omega)
      rw [h1, h2]; simp; omega
    · have ih := cntK_less (n := n) (fun i hi => h i (by omega)) ⟨j, by omega, h1, h2⟩
      cases hf : f n
      · simp; omega
      · rw [hn hf]; simp; omega
theorem sub_less {S T n : Nat} (hT : T < 2 ^ n) (h : sub S T) (hne : S ≠ T) : cntK S.testBit n < cntK T.testBit n := by
  refine cntK_less (fun j _ hj => h j hj) ?_
  apply Classical.byContradiction
  intro hno
  apply hne
  refine sub_anti h fun j hj => ?_
  cases hf : S.testBit j
  · exact absurd ⟨j, bit_in hT hj, hf, hj⟩ hno
  · rfl
theorem lv_cnt (hg : goal < 2 ^ G.own.length) : ∀ k, (∀ j, j < k → lv G goal j ≠ lv G goal (j + 1)) → k ≤ cntK (lv G goal k).testBit G.own.length
  | 0, _ => Nat.zero_le _
  | k + 1, h => by
    have ih := lv_cnt hg k fun j hj => h j (by omega)
    have := sub_less (lv_lt hg (k + 1)) (lv_up (G := G) (goal := goal) k) (h k (by omega))
    omega
theorem lv_same {k : Nat} (h : lv G goal k = lv G goal (k + 1)) : ∀ j, lv G goal (k + j) = lv G goal k
  | 0 => rfl
  | j + 1 => by
    have ih := lv_same h j
    show goal ||| fcN G 0 (lv G goal (k + j)) = _
    rw [ih]
    exact h.symm
theorem lv_end (hg : goal < 2 ^ G.own.length) {k : Nat} (hk : G.own.length ≤ k) : lv G goal k = lv G goal G.own.length := by
  have hex : ∃ i, i ≤ G.own.length ∧ lv G goal i = lv G goal (i + 1) := by
    apply Classical.byContradiction
    intro hno
    have h1 := lv_cnt hg (G.own.length + 1) fun j hj h => hno ⟨j, by omega, h⟩
    have h2 := cntK_le (lv G goal (G.own.length + 1)).testBit G.own.length
    omega
  obtain ⟨i, hi, h⟩ := hex
  have e1 := lv_same h (k - i)
  have e2 := lv_same h (G.own.length - i)
  rw [show i + (k - i) = k by omega] at e1
  rw [show i + (G.own.length - i) = G.own.length by omega] at e2
  rw [e1, e2]
theorem lv_stop {k : Nat} (hg : goal < 2 ^ G.own.length) (h : lv G goal k = lv G goal (k + 1)) : lv G goal k = lv G goal G.own.length := by
  rcases Nat.lt_or_ge k G.own.length with h1 | h1
  · have := lv_same h (G.own.length - k)
    rw [show k + (G.own.length - k) = G.own.length by omega] at this
    exact this.symm
  · exact lv_end hg h1
end

/-! ### Ranks -/
def rkI (G : Gm) (goal p : Nat) : Int := match (List.range G.own.length).find? fun k => (lv G goal (k + 1)).testBit p with
  | some k => (k : Int)
  | none => -1
section
variable {G : Gm} {goal : Nat}
theorem rk_ge (p : Nat) : -1 ≤ rkI G goal p := by
  unfold rkI
  split <;> omega
theorem rk_lt (p : Nat) : rkI G goal p < (G.own.length : Int) := by
  unfold rkI
  split
  · rename_i k h
    have := (List.find?_range_eq_some.1 h).2.1
    rw [List.mem_range] at this
    omega
  · omega
theorem rk_some {p k : Nat} (h : rkI G goal p = (k : Int)) : (lv G goal (k + 1)).testBit p = true ∧ (lv G goal k).testBit p = false := by
  unfold rkI at h
  split at h
  · rename_i m hm
    obtain rfl : m = k := by omega
    have h1 := List.find?_range_eq_some.1 hm
    refine ⟨h1.1, ?_⟩
    cases m with
    | zero => exact Nat.zero_testBit p
    | succ m =>
      have := h1.2.2 m (by omega)
      simpa using this
  · omega
/-- What belongs to a level has at most this rank. -/
theorem rk_iff (hg : goal < 2 ^ G.own.length) (p k : Nat) : (lv G goal (k + 1)).testBit p = true ↔ 0 ≤ rkI G goal p ∧ rkI G goal p ≤ (k : Int) := by
  constructor
  · intro h
    unfold rkI
    split
    · rename_i m hm
      have h1 := List.find?_range_eq_some.1 hm
      refine ⟨by omega, ?_⟩
      rcases Nat.lt_or_ge k m with h2 | h2
      · have := h1.2.2 k h2
        rw [h] at this
        simp at this
      · omega
    · rename_i hm
      exfalso
      have h1 := List.find?_eq_none.1 hm
      rcases Nat.lt_or_ge k G.own.length with h2 | h2
      · have := h1 k (by simpa using h2)
        rw [h] at this
        simp at this
      · rw [lv_end hg (by omega)] at h
        rcases Nat.eq_zero_or_pos G.own.length with h3 | h3
        · rw [h3] at h
          simp [lv] at h
        · have := h1 (G.own.length - 1) (by simp; omega)
          rw [show G.own.length - 1 + 1 = G.own.length by omega, h] at this
          simp at this
  · rintro ⟨h0, h1⟩
    obtain ⟨m, hm⟩ := Int.eq_ofNat_of_zero_le h0
    have := (rk_some hm).1
    exact lv_mono (by omega) p this
theorem rk_won (hg : goal < 2 ^ G.own.length) (p : Nat) : (lv G goal G.own.length).testBit p = true ↔ 0 ≤ rkI G goal p := by
  have h := rk_iff hg p G.own.length
  rw [lv_end hg (by omega)] at h
  rw [h]
  have := rk_lt (G := G) (goal := goal) p
  omega
theorem rk_none (hg : goal < 2 ^ G.own.length) {p : Nat} (h : ¬ (lv G goal G.own.length).testBit p = true) : rkI G goal p = -1 := by
  rw [rk_won hg] at h
  have := rk_ge (G := G) (goal := goal) p
  omega
end
def rkL (G : Gm) (goal : Nat) : List Int := (List.range G.own.length).map (rkI G goal)
theorem rkL_len (G : Gm) (goal : Nat) : (rkL G goal).length = G.own.length := by simp [rkL]
theorem rkL_at {G : Gm} {goal p : Nat} (hp : p < G.own.length) : (rkL G goal)[p]? = some (rkI G goal p) := by simp [rkL, hp]
def wonN (G : Gm) (goal : Nat) : Nat := lv G goal G.own.length
end Go.Proofs.Ytibcjkpfpiamkab
