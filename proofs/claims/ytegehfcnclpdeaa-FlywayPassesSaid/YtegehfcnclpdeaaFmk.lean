/-
  Frames that gather marks: a range over a function in the rounds of a loop; a make inside a fence; rows of numbers that change. No program in sight.
-/
import Derived.Test.YtegehfcnclpdeaaFwp
namespace Go.Proofs.Ytegehfcnclpdeaa
open Go.RowKit Go.Shelf
set_option linter.unusedVariables false

/-- The deferred calls are marks of loops that are over, of blocks from n₀ on. -/
def Marks (n₀ : Nat) : List Deferred → World → Prop
  | [], _ => True
  | d :: ds, w => ∃ D, d = { target := .collected D, args := #[] } ∧ n₀ ≤ D ∧ w.heap[D]? = some (.deferred (some [])) ∧ (∀ e ∈ ds, e ≠ d) ∧ Marks n₀ ds w
theorem Marks.keep {n₀ : Nat} {w w' : World} : ∀ {ds : List Deferred}, Marks n₀ ds w → (∀ D, { target := .collected D, args := #[] } ∈ ds → w.heap[D]? = some (.deferred (some [])) → w'.heap[D]? = some (.deferred (some []))) → Marks n₀ ds w'
  | [], _, _ => trivial
  | d :: ds, ⟨D, hd, hn, hk, hne, hm⟩, h => ⟨D, hd, hn, h D (by rw [← hd]; exact List.mem_cons_self) hk, hne, hm.keep fun D' hD' => h D' (List.mem_cons_of_mem _ hD')⟩
theorem Marks.lt {n₀ : Nat} {w : World} : ∀ {ds : List Deferred}, Marks n₀ ds w → ∀ D, { target := .collected D, args := #[] } ∈ ds → D < w.heap.size
  | d :: ds, ⟨D, hd, hn, hk, hne, hm⟩, D', hD' => by
    rcases List.mem_cons.1 hD' with h | h
    · rw [hd] at h
      injection h with h
      injection h with h
      rw [h]
      exact (Array.getElem?_eq_some_iff.1 hk).1
    · exact hm.lt D' h
theorem Marks.keeps {n₀ : Nat} {w w' : World} {ds : List Deferred} (h : Marks n₀ ds w) (k : KeepsOthers w w') : Marks n₀ ds w' := h.keep fun D _ hD => k.same D _ hD rfl
theorem Marks.below {n₀ : Nat} {w w' : World} {ds : List Deferred} (h : Marks n₀ ds w) (k : Below w.heap.size w w') : Marks n₀ ds w' := h.keep fun D _ hD => (k.block D (Array.getElem?_eq_some_iff.1 hD).1).trans hD
theorem marks_own {β : Type} (n₀ B : Nat) (ds : List Deferred) (h : ∀ D, { target := .collected D, args := #[] } ∈ ds → D < B) : OwnFrom B (fun (_ : β) W => Marks n₀ ds W) := fun _ W W' row hm hg hr =>
  hm.keep fun D hD hk => (hg.block D (Array.getElem?_eq_some_iff.1 hk).1 fun e => by
    have := (hr D e.symm).1
    have := h D hD
    omega).trans hk
theorem Marks.push {n₀ : Nat} {w : World} {ds : List Deferred} (h : Marks n₀ ds w) {D : Nat} (hn : n₀ ≤ D) (hk : w.heap[D]? = some (.deferred (some []))) (hD : ∀ D', { target := .collected D', args := #[] } ∈ ds → D' < D) : Marks n₀ ({ target := .collected D, args := #[] } :: ds) w :=
  ⟨D, rfl, hn, hk, fun e he hE => by
    rw [hE] at he
    exact Nat.lt_irrefl _ (hD D he), h⟩
theorem leaves_marks {F : Fence} {n : Nat} {P : Program} {fn : Func} {tmps : Array Value} {R : Ending → World → Prop} {n₀ : Nat} (I : World → Prop)
    (hI : ∀ W D, n₀ ≤ D → W.heap[D]? = some (.deferred (some [])) → I W → I (W.putObj D (.deferred none))) (hR : ∀ W, I W → LeavesInM F n P fn tmps R [] .returning W) : ∀ (ds : List Deferred) (W : World), Marks n₀ ds W → I W → LeavesInM F n P fn tmps R ds .returning W
  | [], W, _, hi => hR W hi
  | d :: ds, W, ⟨D, hd, hn, hk, hne, hm⟩, hi => by
    refine ⟨by simp, .inl ⟨D, _, by rw [hd], run_takeDeferred hk, leaves_marks I hI hR ds _ (hm.keep fun D' hD' hk' => ?_) (hI W D hn hk hi)⟩⟩
    refine (World.putObj_heap_other fun e => ?_).trans hk'
    exact hne _ hD' (by rw [hd, e])
/-- The same with no way out by a panic: regions that draw their order then take what yields in whatever world first. -/
def np (Q : Exit → Act → World → Prop) : Exit → Act → World → Prop
  | .panic _, _, _ => False
  | e, a, w => Q e a w
theorem np_le {Q : Exit → Act → World → Prop} : ∀ e a w, np Q e a w → Q e a w
  | .normal, _, _, h => h
  | .ret, _, _, h => h
  | .exit _, _, _, h => h
  | .goto _, _, _, h => h
  | .outgrown, _, _, h => h
  | .panic _, _, _, h => h.elim
theorem wpIn_loop_marks {F : Fence} {n : Nat} {P : Program} {c : Code} {Q : Exit → Act → World → Prop} (n₀ : Nat) (T : Array Value → World → Prop) (μ : Array Value → World → Nat) {tmps : Array Value} {ds : List Deferred} {w : World} (h0 : T tmps w) (hm : Marks n₀ ds w)
    (round : ∀ tmps ds w, T tmps w → Marks n₀ ds w → c.wpIn F n P (Exit.then (fun a' w' => (T a'.tmps w' ∧ Marks n₀ a'.defers w') ∧ μ a'.tmps w' < μ tmps w) Q) { tmps := tmps, defers := ds } w) : (Code.loop c).wpIn F n P Q { tmps := tmps, defers := ds } w :=
  wpIn_loop (fun a w => T a.tmps w ∧ Marks n₀ a.defers w) (fun a w => μ a.tmps w) ⟨h0, hm⟩ fun a w ⟨ht, hm⟩ => round a.tmps a.defers w ht hm
theorem wpListIn_make_full {F : Fence} {n : Nat} {P : Program} (w : World) {ops : Array Oper} {rest : List Oper} {o : Oper} {a : Act} {Q : Exit → Act → World → Prop}
    (hg : o.guard = none) (l c : Operand) (t : TypeId) (hop : o.op = Op.makeSlice t l c)
    (base : Nat) (e : TypeId) (i : TypeInfo) (z : Value) (size : Nat) (h1 : P.underlying t = some (.slice e)) (h2 : P.info? e = some i) (h3 : i.zero = some z) (h4 : i.size = size)
    (kl kc : IntKind) (L C : Int) (m : Nat) (hl : a.eval l = .int kl L) (hc : a.eval c = .int kc C) (hL : L = (m : Int)) (hC : C = (m : Int)) (b2 : i.bytes * m ≤ 281474976710656) (b3 : m ≤ maxLen) (b4 : base ≤ w.heap.size)
    (hK : ∀ w', w'.ownsRow base e size (.slice (some ⟨w.heap.size, 0, none⟩) m m) m (madeCells z.cells (m * size)).toList → w.grownBy w' none → wpListIn F n P ops Q rest (a.put o.dst (.slice (some ⟨w.heap.size, 0, none⟩) m m)) w') :
    wpListIn F n P ops Q (o :: rest) a w := by
  refine wpListIn_plain hg fun K hK' => ?_
  obtain ⟨w', hrun, r1, r2⟩ := run_make_full (P := P) w base t e i z size h1 h2 h3 h4 kl kc m b2 b3 b4
  subst hL
  subst hC
  unfold Oper.wpIn
  refine ⟨?_, ?_⟩
  · simp [Oper.about, hop]
  · rw [Oper.semAt_plain F _ _ (by rw [hop]; intro c hc'; cases hc')]
    simp [execOp, hop, hl, hc, hrun, Result.andThen]
    exact hK' _ _ (hK w' r1 r2)
/-- append inside a fence, in the words of a walk (as 'app' is outside). -/
theorem appIn {F : Fence} {n : Nat} {P : Program} {w w0 : World} {ops : Array Oper} {rest : List Oper} {o : Oper} {a : Act} {Q : Exit → Act → World → Prop} {T e : TypeId} {z : Value} {size bytes : Nat} (E : Elem P T e z size bytes) (hgd : o.guard = none) (s x : Operand)
    (ho : o.op = .call { callee := .builtin .append, args := #[s, x], argTypes := #[T, T] }) {B : Nat} {v : Value} {k : Nat} {xs : List Value} (hs : a.eval s = v) (hown : w.ownsRow B e size v k xs) (hb : Below B w0 w) (hB : B ≤ w.heap.size)
    (ad : Addr) (c : Nat) {m : Nat} {news : List Value} (hx : a.eval x = .slice (some ad) m c) (hcs : ∀ j u, news[j]? = some u → w.cell? (ad.add j) = some u) (hl : news.length = m * size) (h1 : ∀ u ∈ news, u.oneCell' = true) (N : Nat) (hN : k + m = N) (hbytes : N * bytes ≤ 140737488355328)
    (h : ∀ A' c' w', w'.ownsRow B e size (.slice A' N c') N (xs ++ news) → Below B w0 w' → w.grownBy w' v.ownBlock → ((Value.slice A' N c').ownBlock = v.ownBlock ∨ (Value.slice A' N c').ownBlock = some w.heap.size) → wpListIn F n P ops Q rest (a.put o.dst (.slice A' N c')) w') :
    wpListIn F n P ops Q (o :: rest) a w := by
  obtain ⟨i, hi, hz, hsize, hby⟩ := info_parts E.hi
  subst hN
  have h63 : k + m ≤ maxLen := by
    have := Nat.le_trans (Nat.le_mul_of_pos_right (k + m) E.hby) hbytes
    simp only [maxLen]
    omega
  refine wpListIn_plain hgd fun K hK' => ?_
  obtain ⟨v', w', hrun, h2, h3, _, h5⟩ := run_append_own_at (P := P) w B T o.type e i z size bytes E.ht hi hz hsize hby E.hzs E.hsz v k xs hown ad m c news hl hcs h1 h63 hbytes hB
  unfold Oper.wpIn
  refine ⟨?_, ?_⟩
  · simp [Oper.about, ho, resolve, Target.leads, Sem.run_pure]
  · rw [Oper.semAt_plain F _ _ (by rw [ho]; intro c hc'; cases hc')]
    simp [execOp, ho, resolve, invoke, builtin, hs, hx, hrun, Result.andThen]
    obtain ⟨A', c', rfl, _⟩ := own_form h2
    exact hK' _ _ (h A' c' w' h2 (Below.app hb hown h3 hB (Nat.le_refl _)) h3 h5)
theorem blk_kept {W W' : World} {row : Option Nat} {b : Nat} {cs : Array Value} {t : TypeId} {fz : Nat × Nat} (h : W.heap[b]? = some (.cells cs t fz)) (hg : W.grownBy W' row) (hr : ∀ r, row = some r → ∃ o : Obj, W.heap[r]? = some o ∧ o.isCells = false) : W'.heap[b]? = some (.cells cs t fz) :=
  (hg.block b (Array.getElem?_eq_some_iff.1 h).1 fun e => by
    obtain ⟨o, ho, hc⟩ := hr b e.symm
    rw [h] at ho
    cases ho
    cases hc).trans h
theorem row_kept {W W' : World} {row : Option Nat} {base n size : Nat} {e : TypeId} {v : Value} {xs : List Value} (h : W.ownsRow base e size v n xs) (hg : W.grownBy W' row) (hr : ∀ r, row = some r → ∃ o : Obj, W.heap[r]? = some o ∧ o.isCells = false) : W'.ownsRow base e size v n xs := by
  refine h.kept hg ?_
  rcases h.2 with ⟨rfl, _⟩ | ⟨g, cap, cur, rfl, _, hgb, _⟩
  · exact .inl rfl
  · refine .inr fun e' => ?_
    obtain ⟨o, ho, hc⟩ := hr g (by simpa [Value.ownBlock] using e'.symm)
    rw [hgb] at ho; cases ho; cases hc
theorem boxed_kept {W W' : World} {row : Option Nat} {B : Nat} {t : TypeId} {v : Value} (h : Boxed W B t v) (hg : W.grownBy W' row) (hr : ∀ r, row = some r → ∃ o : Obj, W.heap[r]? = some o ∧ o.isCells = false) : Boxed W' B t v := blk_kept h hg hr
/-- The first n numbers of F, as a row. -/
def rowF (F : Nat → Int) (n : Nat) : List Int := (List.range n).map F
theorem rowF_len (F : Nat → Int) (n : Nat) : (rowF F n).length = n := by simp [rowF]
theorem rowF_get {F : Nat → Int} {n j : Nat} (h : j < n) : (rowF F n)[j]? = some (F j) := by simp [rowF, h]
theorem rowF_at {F : Nat → Int} {n j : Nat} (h : j < n) : (ints (rowF F n)).toArray[j]? = some (.int .i64 (F j)) := by simp [rowF, ints, h]
theorem rowF_congr {F G : Nat → Int} {n : Nat} (h : ∀ j, j < n → F j = G j) : rowF F n = rowF G n := by
  unfold rowF
  exact List.map_congr_left fun p hp => h p (List.mem_range.1 hp)
theorem rowF_set {F G : Nat → Int} {n k : Nat} {x : Int} (hk : x = G k) (hg : ∀ j, j ≠ k → G j = F j) : (ints (rowF F n)).toArray.setIfInBounds k (.int .i64 x) = (ints (rowF G n)).toArray := by
  rw [List.setIfInBounds_toArray]
  congr 1
  refine List.ext_getElem? fun j => ?_
  rw [List.getElem?_set]
  by_cases hj : j < n
  · have a1 := rowF_at (F := F) hj
    have a2 := rowF_at (F := G) hj
    rw [List.getElem?_toArray] at a1 a2
    rw [a1, a2]
    by_cases h : k = j
    · subst h
      rw [if_pos rfl, if_pos (by simp [rowF, ints]; exact hj), hk]
    · rw [if_neg h, hg j fun e => h e.symm]
  · have e : ∀ f : Nat → Int, (ints (rowF f n))[j]? = none := fun f => by simp [rowF, ints]; omega
    rw [e F, e G]
    split
    · rw [if_neg (by simp [rowF, ints]; omega)]
    · rfl
theorem made_rowF {w w1 : World} {base n : Nat} {t : TypeId} (h : w1.ownsRow base t 1 (.slice (some ⟨w.heap.size, 0, none⟩) n n) n (madeCells (Value.int .i64 0).cells (n * 1)).toList) (hg : w.grownBy w1 none) :
    Below w.heap.size w w1 ∧ w1.heap[w.heap.size]? = some (.cells (ints (rowF (fun _ => 0) n)).toArray t (0, 0)) := by
  refine ⟨(Below.refl _ _).grown hg (Nat.le_refl _) (by simp), ?_⟩
  have hcells : (madeCells (Value.int .i64 0).cells (n * 1)).toList = ints (rowF (fun _ => 0) n) := by
    rw [Nat.mul_one]
    refine (toList_madeCells_one (.int .i64 0) n).trans ?_
    refine List.ext_getElem? fun j => ?_
    by_cases h : j < n
    · simp [rowF, ints, h]
    · simp [rowF, ints, h]
  rw [← hcells]
  exact own_full h
theorem grown_set (w : World) (b i : Nat) (u : Value) : w.grownBy (w.setCell ⟨b, i, none⟩ u) (some b) :=
  ⟨rfl, rfl, rfl, by simp [World.setCell], fun k hk hne => by
    have : k ≠ b := fun e => hne (by rw [e])
    simp [World.setCell, Array.getElem?_modify, Ne.symm this]⟩
theorem own_set {w : World} {base n size : Nat} {e : TypeId} {v : Value} {xs : List Value} {g : Nat} (h : w.ownsRow base e size v n xs) (hg : g < base) (u : Value) (j : Nat) : (w.setCell ⟨g, j, none⟩ u).ownsRow base e size v n xs := by
  refine h.kept (grown_set w g j u) ?_
  rcases h.2 with ⟨rfl, _⟩ | ⟨g', cap, cur, rfl, hb, hgb, _⟩
  · exact .inl rfl
  · refine .inr fun e' => ?_
    simp [Value.ownBlock] at e'
    omega
theorem boxed_app {W w1 : World} {B base k size : Nat} {t e : TypeId} {v u : Value} {xs : List Value} {tmp : Obj} (hv : Boxed W B t u) (hte : t ≠ e) (hrow : W.ownsRow base e size v k xs) (hg : (W.alloc tmp).grownBy w1 v.ownBlock) : Boxed w1 B t u :=
  (hv.alloc tmp).kept hg (hv.not_row hte hrow)
theorem lt_of_block' {w : World} {g : Nat} {o : Obj} (h : w.heap[g]? = some o) : g < w.heap.size := (Array.getElem?_eq_some_iff.1 h).1
theorem blk_alloc' {w : World} {o : Obj} {g : Nat} {x : Obj} (h : w.heap[g]? = some x) : (w.alloc o).heap[g]? = some x := (((Below.refl w.heap.size w).alloc (Nat.le_refl _) o).block _ (lt_of_block' h)).trans h
end Go.Proofs.Ytegehfcnclpdeaa
