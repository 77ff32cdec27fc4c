/-
  A slice of slices that the call makes, row by row: what is known of it, and an append at a step of a region that draws its order. No program in sight.
-/
import Derived.Test.YtfmhanpibgmgfaaGme
import Derived.Test.YtfmhanpibgmgfaaGen
import Derived.Deep.AppendLies
namespace Go.Proofs.Ytfmhanpibgmgfaa
open Go.RowKit
set_option linter.unusedVariables false

/-- append of whatever slice to one of the call's own, at a step of a region that draws its order. -/
theorem step_app {P : Program} {w w0 : World} {ops : Array Oper} {o : Oper} {a : Act} {K : Act → World → Prop} {Q : Exit → Act → World → Prop} {F : Prop} {T e : TypeId} {z : Value} {size bytes : Nat} (E : Elem P T e z size bytes) (hgd : o.guard = none) (s x : Operand)
    (ho : o.op = .call { callee := .builtin .append, args := #[s, x], argTypes := #[T, T] }) {B : Nat} {v : Value} {n : Nat} {xs : List Value} (hs : a.eval s = v) (hown : w.ownsRow B e size v n xs) (hb : Below B w0 w) (hB : B ≤ w.heap.size)
    {B' : Nat} {A : Option Addr} {m c : Nat} {news : List Value} (hx : a.eval x = .slice A m c) (hr : Rd w B' A news) (hl : news.length = m * size) (h1 : ∀ u ∈ news, u.oneCell' = true) (N : Nat) (hN : n + m = N) (hbytes : N * bytes ≤ 140737488355328)
    (h : ∀ A' c' w', w'.ownsRow B e size (.slice A' N c') N (xs ++ news) → Below B w0 w' → w.grownBy w' v.ownBlock → ((Value.slice A' N c').ownBlock = v.ownBlock ∨ (Value.slice A' N c').ownBlock = some w.heap.size) → K (a.put o.dst (.slice A' N c')) w') :
    if Region.wanted o (yielded ops a.tmps) = true then Oper.wp P o a w K Q else F := by
  have hw : Region.wanted o (yielded ops a.tmps) = true := by simp [Region.wanted, hgd]
  rw [if_pos hw]
  obtain ⟨i, hi, hz, hsize, hby⟩ := info_parts E.hi
  subst hN
  have h63 : n + m ≤ maxLen := by
    have := Nat.le_trans (Nat.le_mul_of_pos_right (n + m) E.hby) hbytes
    simp only [maxLen]
    omega
  have key : ∃ v' w', (Builtin.append_ #[T, T] o.type #[v, .slice A m c]).run P w = .ok v' w' ∧ w'.ownsRow B e size v' (n + m) (xs ++ news) ∧ w.grownBy w' v.ownBlock ∧ (v'.ownBlock = v.ownBlock ∨ v'.ownBlock = some w.heap.size) := by
    rcases A with _ | ad
    · have hn : news = [] := by
        rcases hr with h0 | ⟨b, o', ha, _⟩
        · exact h0
        · cases ha
      subst hn
      have hm : m = 0 := by
        rcases Nat.eq_zero_or_pos m with h0 | h0
        · exact h0
        · have := Nat.mul_pos h0 E.hsz
          simp at hl
          omega
      subst hm
      refine ⟨v, w, ?_, by simpa using hown, World.grownBy.refl w _, .inl rfl⟩
      rcases hown.2 with ⟨rfl, rfl⟩ | ⟨g, cap, cur, rfl, _, _, hnc, _⟩
      · simp [Builtin.append_, run_underlying E.ht, sizeOf, typeInfo, hi, Builtin.lenOf, Builtin.firstCells]
      · simp [Builtin.append_, run_underlying E.ht, sizeOf, typeInfo, hi, Builtin.lenOf, Builtin.firstCells, hnc, storeCells]
    · have hcells : ∀ j u, news[j]? = some u → w.cell? (ad.add j) = some u := by
        intro j u hu
        obtain ⟨b, o', ha, _, hc⟩ := hr.at_ hu
        injection ha with ha
        subst ha
        rw [Go.WideShapes.add_plain]
        exact hc
      obtain ⟨v', w', hrun, h2, h3, _, h5⟩ := run_append_own_at (P := P) w B T o.type e i z size bytes E.ht hi hz hsize hby E.hzs E.hsz v n xs hown ad m c news hl hcells h1 h63 hbytes hB
      exact ⟨v', w', hrun, h2, h3, h5⟩
  obtain ⟨v', w', hrun, h2, h3, h4⟩ := key
  obtain ⟨A', c', rfl, _⟩ := own_form h2
  unfold Oper.wp execOp
  simp only [ho, resolve, invoke, builtin, Sem.run_bind, Sem.run_pure, Result.andThen_ok, List.map_toArray, List.map_cons, List.map_nil, hs, hx, hrun]
  exact h A' c' w' h2 (Below.app hb hown h3 hB (Nat.le_refl _)) h3 h4

theorem own_drew {w : World} {B n : Nat} {e : TypeId} {size : Nat} {v : Value} {xs : List Value} (h : w.ownsRow B e size v n xs) : w.drew.ownsRow B e size v n xs := own_below h (Below.refl _ _).drew
theorem rd_drew {w : World} {B : Nat} {A : Option Addr} {xs : List Value} (h : Rd w B A xs) : Rd w.drew B A xs := h
/-- A block that can be written to. -/
def Soft (w : World) (b : Nat) : Prop := ∃ cs t, w.heap[b]? = some (.cells cs t (0, 0))
theorem Soft.lt {w : World} {b : Nat} (h : Soft w b) : b < w.heap.size := by
  obtain ⟨cs, t, h⟩ := h
  exact lt_of_block h
theorem Soft.of {w w' : World} {b : Nat} (h : Soft w b) (e : w'.heap[b]? = w.heap[b]?) : Soft w' b := by
  obtain ⟨cs, t, h⟩ := h
  exact ⟨cs, t, e.trans h⟩
theorem Soft.free {w : World} {b : Nat} (h : Soft w b) (i : Nat) : w.frozen? ⟨b, i, none⟩ = false := by
  obtain ⟨cs, t, h⟩ := h
  exact blk_free h i
theorem heap_set_off {w : World} {g b : Nat} (h : b ≠ g) (i : Nat) (u : Value) : (w.setCell ⟨g, i, none⟩ u).heap[b]? = w.heap[b]? := by
  simp [World.setCell, Array.getElem?_modify, Ne.symm h]
theorem Soft.set {w : World} {b : Nat} (h : Soft w b) (b' i : Nat) (u : Value) : Soft (w.setCell ⟨b', i, none⟩ u) b := by
  by_cases e : b = b'
  · subst e
    obtain ⟨cs, t, h⟩ := h
    exact ⟨_, _, blk_set h i u⟩
  · exact h.of (heap_set_off e _ _)
theorem own_soft {w : World} {B n : Nat} {e : TypeId} {size : Nat} {v : Value} {xs : List Value} (h : w.ownsRow B e size v n xs) {g : Nat} (hg : v.ownBlock = some g) : B ≤ g ∧ Soft w g := by
  rcases h.2 with ⟨rfl, _⟩ | ⟨g', cap, cur, rfl, hb, hg', _⟩
  · simp [Value.ownBlock] at hg
  · have : g' = g := by simpa [Value.ownBlock] using hg
    subst this
    exact ⟨hb, _, _, hg'⟩
/-- Rows in memory of the call's own: a slice of theirs that is owned, each row in a block from B on that is not that slice's. -/
structure OwnR (w : World) (B : Nat) (e : TypeId) (v : Value) (rs : List Rw) : Prop where
  own : w.ownsRow B e 1 v rs.length (rs.map Rw.v)
  row : ∀ r ∈ rs, Rd w w.heap.size r.A (ints r.l) ∧ r.l.length ≤ r.c ∧ r.c ≤ maxLen ∧ (∀ ad, r.A = some ad → B ≤ ad.block ∧ Soft w ad.block ∧ v.ownBlock ≠ some ad.block)
theorem OwnR.nil (w : World) (B : Nat) (e : TypeId) : OwnR w B e (.slice none 0 0) [] := ⟨World.ownsRow_nil _ _ _ _, by simp⟩
theorem OwnR.up {w w' : World} {B : Nat} {e : TypeId} {v : Value} {rs : List Rw} (h : OwnR w B e v rs) (hb : Below w.heap.size w w') : OwnR w' B e v rs :=
  ⟨own_below h.own hb, fun r hr => by
    obtain ⟨h1, h2, h3, h4⟩ := h.row r hr
    exact ⟨h1.up hb, h2, h3, fun ad ha => by
      obtain ⟨h5, h6, h7⟩ := h4 ad ha
      exact ⟨h5, h6.of (hb.block _ h6.lt), h7⟩⟩⟩
/-- A cell of a block that is not the row that grew. -/
theorem rd_far {w w' : World} {row : Option Nat} {B : Nat} {A : Option Addr} {xs : List Value} (h : Rd w B A xs) (hB : B ≤ w.heap.size) (hg : w.grownBy w' row) (hne : ∀ ad, A = some ad → row ≠ some ad.block) : Rd w' B A xs := by
  rcases h with rfl | ⟨b, o, ha, hb, hc⟩
  · exact .inl rfl
  · exact .inr ⟨b, o, ha, hb, fun i u hu => (hg.cell_far ⟨b, o + i, none⟩ (by show b < _; omega) (fun he => hne _ ha he.symm)).trans (hc i u hu)⟩
/-- Another row has grown. -/
theorem OwnR.far {w w' : World} {row : Option Nat} {B : Nat} {e : TypeId} {v : Value} {rs : List Rw} (h : OwnR w B e v rs) (hg : w.grownBy w' row) (hs : w.heap.size ≤ w'.heap.size) (hv : v.ownBlock = none ∨ v.ownBlock ≠ row) (hr : ∀ r ∈ rs, ∀ ad, r.A = some ad → row ≠ some ad.block) : OwnR w' B e v rs :=
  ⟨h.own.kept hg hv, fun r hq => by
    obtain ⟨h1, h2, h3, h4⟩ := h.row r hq
    exact ⟨(rd_far h1 (Nat.le_refl _) hg (hr r hq)).more hs, h2, h3, fun ad ha => by
      obtain ⟨h5, h6, h7⟩ := h4 ad ha
      exact ⟨h5, h6.of (hg.block _ h6.lt fun he => hr r hq ad ha he.symm), h7⟩⟩⟩
/-- A row more: it lies in a block of its own. -/
theorem OwnR.app {w w' : World} {B : Nat} {e : TypeId} {v : Value} {rs : List Rw} (h : OwnR w B e v rs) {r : Rw} (hrd : Rd w w.heap.size r.A (ints r.l)) (hc : r.l.length ≤ r.c) (hm : r.c ≤ maxLen) (hfr : ∀ ad, r.A = some ad → B ≤ ad.block ∧ Soft w ad.block ∧ v.ownBlock ≠ some ad.block)
    {v' : Value} (hown : w'.ownsRow B e 1 v' (rs.length + 1) (rs.map Rw.v ++ [r.v])) (hg : w.grownBy w' v.ownBlock) (hs : w.heap.size ≤ w'.heap.size) (hv : v'.ownBlock = v.ownBlock ∨ v'.ownBlock = some w.heap.size) : OwnR w' B e v' (rs ++ [r]) := by
  refine ⟨by rw [List.length_append, List.map_append]; exact hown, fun q hq => ?_⟩
  have key : Rd w w.heap.size q.A (ints q.l) ∧ q.l.length ≤ q.c ∧ q.c ≤ maxLen ∧ (∀ ad, q.A = some ad → B ≤ ad.block ∧ Soft w ad.block ∧ v.ownBlock ≠ some ad.block) := by
    rcases List.mem_append.1 hq with h1 | h1
    · exact h.row q h1
    · rw [List.mem_singleton.1 h1]
      exact ⟨hrd, hc, hm, hfr⟩
  obtain ⟨h1, h2, h3, h4⟩ := key
  refine ⟨(rd_far h1 (Nat.le_refl _) hg fun ad ha => (h4 ad ha).2.2).more hs, h2, h3, fun ad ha => ?_⟩
  obtain ⟨h5, h6, h7⟩ := h4 ad ha
  have h8 := h6.lt
  refine ⟨h5, h6.of (hg.block _ h8 fun he => h7 he.symm), fun he => ?_⟩
  rcases hv with h9 | h9
  · exact h7 (h9 ▸ he)
  · rw [h9] at he
    injection he with he
    omega
theorem OwnR.rd {w : World} {B : Nat} {e : TypeId} {A : Option Addr} {n c : Nat} {rs : List Rw} (h : OwnR w B e (.slice A n c) rs) (hn : n = rs.length) : RdR w w.heap.size A rs := by
  subst hn
  exact ⟨Rd.of_own h.own, fun r hr => (h.row r hr).1⟩
theorem own_at_soft {w : World} {B n c : Nat} {A : Option Addr} {e : TypeId} {size : Nat} {xs : List Value} (h : w.ownsRow B e size (.slice A n c) n xs) : n ≤ c ∧ c ≤ maxLen ∧ ∀ ad, A = some ad → B ≤ ad.block ∧ Soft w ad.block := by
  rcases h.2 with ⟨hv, hn⟩ | ⟨g, cap, cur, hv, hb, hg, hnc, hcm, _⟩
  · injection hv with h1 h2 h3
    subst h1
    refine ⟨by omega, by rw [h3]; simp [maxLen], fun _ h => by cases h⟩
  · injection hv with h1 h2 h3
    subst h1 h3
    refine ⟨hnc, hcm, fun ad ha => ?_⟩
    cases ha
    exact ⟨hb, _, _, hg⟩
/-- A row that the round has made goes to the others. -/
theorem OwnR.grow {w w6 X w7 : World} {B : Nat} {e e6 : TypeId} {v v' : Value} {rs : List Rw} {A6 : Option Addr} {c6 : Nat} {l : List Int} (O : OwnR w B e v rs) (o6 : w6.ownsRow w.heap.size e6 1 (.slice A6 l.length c6) l.length (ints l)) (b6 : Below w.heap.size w w6) (bx : Below w6.heap.size w6 X)
    (o7 : w7.ownsRow B e 1 v' (rs.length + 1) (rs.map Rw.v ++ [.slice A6 l.length c6])) (g7 : X.grownBy w7 v.ownBlock) (h7 : v'.ownBlock = v.ownBlock ∨ v'.ownBlock = some X.heap.size) (hB : B ≤ w.heap.size) : OwnR w7 B e v' (rs ++ [⟨A6, c6, l⟩]) := by
  obtain ⟨h1, h2, h3⟩ := own_at_soft o6
  refine OwnR.app (w := X) (O.up (b6.trans (bx.mono b6.size))) ((Rd.of_own o6).up bx) h1 h2 (fun ad ha => ?_) o7 g7 g7.size h7
  obtain ⟨h4, h5⟩ := h3 ad ha
  refine ⟨Nat.le_trans hB h4, h5.of (bx.block _ h5.lt), fun he => ?_⟩
  have := (O.own.lt _ he).2
  omega
/-- A store into a block below the base. -/
theorem own_set_off {w : World} {B n g : Nat} {e : TypeId} {size : Nat} {v : Value} {xs : List Value} (h : w.ownsRow B e size v n xs) (hg : ∀ b, v.ownBlock = some b → b ≠ g) (i : Nat) (u : Value) : (w.setCell ⟨g, i, none⟩ u).ownsRow B e size v n xs := by
  refine ⟨h.1, ?_⟩
  rcases h.2 with h1 | ⟨g', cap, cur, hv, hb, hg', hr⟩
  · exact .inl h1
  · exact .inr ⟨g', cap, cur, hv, hb, (heap_set_off (hg g' (by rw [hv]; rfl)) i u).trans hg', hr⟩
theorem rd_set_off {w : World} {B g : Nat} {A : Option Addr} {xs : List Value} (h : Rd w B A xs) (hg : ∀ ad, A = some ad → ad.block ≠ g) (i : Nat) (u : Value) : Rd (w.setCell ⟨g, i, none⟩ u) B A xs := by
  rcases h with h0 | ⟨b, o, ha, hb, hc⟩
  · exact .inl h0
  · exact .inr ⟨b, o, ha, hb, fun j x hx => (World.cell?_of_block (a := ⟨b, o + j, none⟩) (heap_set_off (hg _ ha) i u)).trans (hc j x hx)⟩
theorem OwnR.set_off {w : World} {B g : Nat} {e : TypeId} {v : Value} {rs : List Rw} (h : OwnR w B e v rs) (hg : g < B) (i : Nat) (u : Value) : OwnR (w.setCell ⟨g, i, none⟩ u) B e v rs := by
  refine ⟨own_set_off h.own (fun b hb => by have := (h.own.lt b hb).1; omega) i u, fun r hr => ?_⟩
  obtain ⟨h1, h2, h3, h4⟩ := h.row r hr
  refine ⟨(rd_set_off h1 (fun ad ha => by have := (h4 ad ha).1; omega) i u).more (by simp [World.setCell]), h2, h3, fun ad ha => ?_⟩
  obtain ⟨h5, h6, h7⟩ := h4 ad ha
  exact ⟨h5, h6.set g i u, h7⟩
/-- A game in new memory, its parts apart. -/
structure Apart (w0 w : World) (g : Gv) : Prop where
  f0 : ∀ ad, g.A0 = some ad → w0.heap.size ≤ ad.block ∧ Soft w ad.block
  fr : ∀ r ∈ g.rs, ∀ ad, r.A = some ad → w0.heap.size ≤ ad.block ∧ Soft w ad.block
  x0 : ∀ ad ad', g.A0 = some ad → g.A1 = some ad' → ad'.block ≠ ad.block
  xr : ∀ r ∈ g.rs, ∀ ad ad', r.A = some ad → g.A1 = some ad' → ad'.block ≠ ad.block
  y0 : ∀ r ∈ g.rs, ∀ ad ad', r.A = some ad → g.A0 = some ad' → ad'.block ≠ ad.block
  f1 : ∀ ad, g.A1 = some ad → w0.heap.size ≤ ad.block
theorem own_blk_of {w : World} {B n c : Nat} {A : Option Addr} {e : TypeId} {size : Nat} {xs : List Value} (h : w.ownsRow B e size (.slice A n c) n xs) : ∀ ad, A = some ad → (Value.slice A n c).ownBlock = some ad.block := by
  intro ad ha
  rcases h.2 with ⟨hv, hn⟩ | ⟨g, cap, cur, hv, hb, hg, hnc, hcm, _⟩
  · injection hv with h1
    rw [h1] at ha
    cases ha
  · injection hv with h1
    subst h1
    cases ha
    rfl
/-- A game whose two slices are the call's own. -/
theorem made_game {w0 wr : World} {B0 B : Nat} {e0 e1 : TypeId} {A0 A1 : Option Addr} {c0 c1 : Nat} {own : List Int} {rs : List Rw} (h0 : wr.ownsRow B0 e0 1 (.slice A0 own.length c0) own.length (ints own)) (h1 : OwnR wr B e1 (.slice A1 rs.length c1) rs) (hb0 : w0.heap.size ≤ B0) (hb1 : w0.heap.size ≤ B)
    (hx : ∀ b, (Value.slice A0 own.length c0).ownBlock = some b → (Value.slice A1 rs.length c1).ownBlock ≠ some b ∧ ∀ r ∈ rs, ∀ ad, r.A = some ad → ad.block ≠ b) :
    Gfit ⟨A0, c0, own, A1, c1, rs⟩ ∧ RdG wr wr.heap.size ⟨A0, c0, own, A1, c1, rs⟩ ∧ Apart w0 wr ⟨A0, c0, own, A1, c1, rs⟩ := by
  obtain ⟨a1, a2, a3⟩ := own_at_soft h0
  obtain ⟨b1, b2, b3⟩ := own_at_soft h1.own
  refine ⟨⟨a1, a2, b1, b2, fun r hr => ⟨(h1.row r hr).2.1, (h1.row r hr).2.2.1⟩⟩, ⟨Rd.of_own h0, h1.rd rfl⟩, ⟨fun ad ha => ?_, fun r hr ad ha => ?_, fun ad ad' ha ha' => ?_, fun r hr ad ad' ha ha' => ?_, fun r hr ad ad' ha ha' => ?_, fun ad ha => Nat.le_trans hb1 (b3 ad ha).1⟩⟩
  · exact ⟨Nat.le_trans hb0 (a3 ad ha).1, (a3 ad ha).2⟩
  · obtain ⟨h5, h6, _⟩ := (h1.row r hr).2.2.2 ad ha
    exact ⟨Nat.le_trans hb1 h5, h6⟩
  · intro he
    exact (hx _ (own_blk_of h0 ad ha)).1 (by rw [own_blk_of h1.own ad' ha', he])
  · intro he
    obtain ⟨_, _, h7⟩ := (h1.row r hr).2.2.2 ad ha
    exact h7 (by rw [own_blk_of h1.own ad' ha', he])
  · intro he
    exact (hx _ (own_blk_of h0 ad' ha')).2 r hr ad ha he.symm
def MadeG (w : World) (G : Gm) (e : Ending) (w' : World) : Prop := ∃ g : Gv, e = .returned g.v ∧ g.G = G ∧ Gfit g ∧ RdG w' w'.heap.size g ∧ Apart w w' g ∧ Below w.heap.size w w'
def MadeGE (w : World) (G : Gm) (E : Int) (e : Ending) (w' : World) : Prop := ∃ g : Gv, e = .returned (.tuple #[g.v, .int .i64 E]) ∧ g.G = G ∧ Gfit g ∧ RdG w' w'.heap.size g ∧ Apart w w' g ∧ Below w.heap.size w w'
/-- The state of a game that is made place by place in a box: its two slices are the call's own. -/
structure ExS (w0 w : World) (bx : Nat) (eI eR tG : TypeId) (vo vm : Value) (os : List Int) (rs : List Rw) : Prop where
  b : Below bx w0 w
  x : w.heap[bx]? = some (.cells #[vo, vm] tG (0, 0))
  o : w.ownsRow (bx + 1) eI 1 vo os.length (ints os)
  m : OwnR w (bx + 1) eR vm rs
  a : ∀ b, vo.ownBlock = some b → vm.ownBlock ≠ some b ∧ ∀ r ∈ rs, ∀ ad, r.A = some ad → ad.block ≠ b
theorem ExS.owner {w0 w X w7 : World} {bx : Nat} {eI eR tG : TypeId} {vo vm vo' : Value} {os : List Int} {rs : List Rw} (S : ExS w0 w bx eI eR tG vo vm os rs) (hX : Below w.heap.size w X) {d : Int} (o7 : w7.ownsRow (bx + 1) eI 1 vo' (os.length + 1) (ints os ++ [.int .i64 d])) (g7 : X.grownBy w7 vo.ownBlock)
    (h7 : vo'.ownBlock = vo.ownBlock ∨ vo'.ownBlock = some X.heap.size) (b7 : Below (bx + 1) w w7) : ExS w0 (w7.setCell ⟨bx, 0, none⟩ vo') bx eI eR tG vo' vm (os ++ [d]) rs := by
  have hlt := lt_of_block S.x
  refine ⟨Below.setCell (p := ⟨bx, 0, none⟩) (S.b.trans (b7.mono (Nat.le_succ _))) (Nat.le_refl _) _, blk_set ((b7.block bx (Nat.lt_succ_self _)).trans S.x) 0 vo', ?_, ?_, ?_⟩
  · refine own_set_off ?_ (fun b hb => by have := (o7.lt b hb).1; omega) 0 vo'
    rw [List.length_append, ints_append]
    exact o7
  · refine OwnR.set_off ?_ (Nat.lt_succ_self _) 0 vo'
    refine OwnR.far (S.m.up hX) g7 g7.size ?_ (fun r hr ad ha he => (S.a _ he).2 r hr ad ha rfl)
    rcases hb : vo.ownBlock with _ | b
    · cases hm : vm.ownBlock
      · exact .inl rfl
      · exact .inr (by simp)
    · exact .inr ((S.a b hb).1)
  · intro b hb
    rcases h7 with h | h
    · exact S.a b (h ▸ hb)
    · rw [h] at hb
      injection hb with hb
      have hs := hX.size
      refine ⟨fun he => by have := (S.m.own.lt b he).2; omega, fun r hr ad ha => ?_⟩
      have := ((S.m.row r hr).2.2.2 ad ha).2.1.lt
      omega
theorem ExS.row {w0 w w6 X w7 : World} {bx : Nat} {eI eR tG : TypeId} {vo vm vm' : Value} {os : List Int} {rs : List Rw} (S : ExS w0 w bx eI eR tG vo vm os rs) {g : Nat} {l : List Int} {t6 : TypeId} (h6 : w6.heap[g]? = some (.cells (ints l).toArray t6 (0, 0))) (hg : w.heap.size ≤ g) (hl : l.length ≤ maxLen) (b6 : Below w.heap.size w w6) (bx6 : Below w6.heap.size w6 X)
    (o7 : w7.ownsRow (bx + 1) eR 1 vm' (rs.length + 1) (rs.map Rw.v ++ [.slice (some ⟨g, 0, none⟩) l.length l.length])) (g7 : X.grownBy w7 vm.ownBlock) (h7 : vm'.ownBlock = vm.ownBlock ∨ vm'.ownBlock = some X.heap.size) (b7 : Below (bx + 1) w w7) :
    ExS w0 (w7.setCell ⟨bx, 1, none⟩ vm') bx eI eR tG vo vm' os (rs ++ [⟨some ⟨g, 0, none⟩, l.length, l⟩]) := by
  have hlt := lt_of_block S.x
  have hX := b6.trans (bx6.mono b6.size)
  refine ⟨Below.setCell (p := ⟨bx, 1, none⟩) (S.b.trans (b7.mono (Nat.le_succ _))) (Nat.le_refl _) _, blk_set ((b7.block bx (Nat.lt_succ_self _)).trans S.x) 1 vm', ?_, ?_, ?_⟩
  · refine own_set_off ((own_below S.o hX).kept g7 ?_) (fun b hb => by have := (S.o.lt b hb).1; omega) 1 vm'
    rcases hb : vo.ownBlock with _ | b
    · exact .inl rfl
    · exact .inr (fun he => (S.a b hb).1 he.symm)
  · refine OwnR.set_off ?_ (Nat.lt_succ_self _) 1 vm'
    refine OwnR.app (S.m.up hX) ((Rd.of_block h6).up bx6) (Nat.le_refl _) hl (fun ad ha => ?_) o7 g7 g7.size h7
    cases ha
    refine ⟨by show bx + 1 ≤ g; omega, (show Soft w6 g from ⟨_, _, h6⟩).of (bx6.block _ (lt_of_block h6)), fun he => ?_⟩
    have h1 : g < w.heap.size := (S.m.own.lt _ he).2
    omega
  · intro b hb
    have hbw := (S.o.lt b hb).2
    obtain ⟨a1, a2⟩ := S.a b hb
    refine ⟨?_, fun r hr ad ha => ?_⟩
    · rcases h7 with h | h
      · rw [h]; exact a1
      · rw [h]
        intro he
        injection he with he
        have := hX.size
        omega
    · rcases List.mem_append.1 hr with h1 | h1
      · exact a2 r h1 ad ha
      · rw [List.mem_singleton.1 h1] at ha
        cases ha
        show g ≠ b
        omega
theorem ExS.made {w0 w wS : World} {bx : Nat} {eI eR tG : TypeId} {A0 A1 : Option Addr} {c0 c1 : Nat} {os : List Int} {rs : List Rw} (S : ExS w0 w bx eI eR tG (.slice A0 os.length c0) (.slice A1 rs.length c1) os rs) (hS : wS.heap.size ≤ bx) {q : Nat} (hq : q < bx + 1) (u0 u1 : Value) :
    Gfit ⟨A0, c0, os, A1, c1, rs⟩ ∧ RdG ((w.setCell ⟨q, 0, none⟩ u0).setCell ⟨q, 1, none⟩ u1) ((w.setCell ⟨q, 0, none⟩ u0).setCell ⟨q, 1, none⟩ u1).heap.size ⟨A0, c0, os, A1, c1, rs⟩ ∧ Apart wS ((w.setCell ⟨q, 0, none⟩ u0).setCell ⟨q, 1, none⟩ u1) ⟨A0, c0, os, A1, c1, rs⟩ := by
  have hne : ∀ b, (Value.slice A0 os.length c0).ownBlock = some b → b ≠ q := fun b hb => by have := (S.o.lt b hb).1; omega
  exact made_game (own_set_off (own_set_off S.o hne 0 u0) hne 1 u1) ((S.m.set_off hq 0 u0).set_off hq 1 u1) (by omega) (by omega) S.a
end Go.Proofs.Ytfmhanpibgmgfaa
