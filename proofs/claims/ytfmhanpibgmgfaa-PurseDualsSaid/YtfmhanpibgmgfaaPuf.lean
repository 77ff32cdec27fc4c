/-
  The search for pays and balances: how the first stand grows in memory. No program in sight but types.
-/
import Derived.Test.YtfmhanpibgmgfaaPue
import Derived.Test.YtfmhanpibgmgfaaRws
namespace Go.Proofs.Ytfmhanpibgmgfaa
open Go.RowKit
set_option linter.unusedVariables false

theorem eRow0 : Elem Try.prog 69 22 (.slice none 0 0) 1 24 := ⟨Try.underlying69, by kernel_rfl, rfl, by decide, by decide⟩
def inF (k g : Nat) : Int := if g.testBit k then 1 else 0
def alF (k : Nat) : Int := ((2 ^ k : Nat) : Int)
def vaF (v : List Int) (k : Nat) : Int := nth v (2 ^ k)
theorem own_step {w X w7 : World} {B g i n size : Nat} {e : TypeId} {u v : Value} {row : Option Nat} {xs : List Value} (h : w.ownsRow B e size v n xs) (hb : Below w.heap.size w X) (hg : X.grownBy w7 row) (hr : ∀ b, v.ownBlock = some b → row ≠ some b) (hB : g < B) :
    (w7.setCell ⟨g, i, none⟩ u).ownsRow B e size v n xs := by
  have h1 := own_below h hb
  have h2 : w7.ownsRow B e size v n xs := h1.kept hg (by
    cases hv : v.ownBlock with
    | none => exact .inl rfl
    | some b => exact .inr fun h => hr b hv h.symm)
  exact own_set_off h2 (fun b hb => by have := (h2.lt b hb).1; omega) i u
theorem blk_step {w X w7 : World} {g i b : Nat} {o : Obj} {u : Value} {row : Option Nat} (h : w.heap[b]? = some o) (hb : Below w.heap.size w X) (hg : X.grownBy w7 row) (hr : row ≠ some b) (hne : b ≠ g) : (w7.setCell ⟨g, i, none⟩ u).heap[b]? = some o := by
  have hlt := lt_of_block' h
  refine (heap_set_off hne i u).trans ((hg.block b (Nat.lt_of_lt_of_le hlt hb.size) (fun e => hr e.symm)).trans ((hb.block b hlt).trans h))
/-- The first stand, and the pay of it, while they grow. -/
structure Bg (w : World) (B ps pb L : Nat) (v : List Int) (vc vp vn : Value) (G : Nat → Nat) (c p m : Nat) : Prop where
  hs : w.heap[ps]? = some (.cells #[.int .i64 1, vc, vp, .slice none 0 0] 82 (0, 0))
  hb : w.heap[pb]? = some (.cells #[.int .i64 1, vn] 44 (0, 0))
  oc : w.ownsRow B 3 1 vc c (ints (rowF alF c))
  op : w.ownsRow B 22 1 vp p ((List.range p).map fun k => .slice (some ⟨G k, 0, none⟩) L L)
  on : w.ownsRow B 3 1 vn m (ints (rowF (vaF v) m))
  rw : ∀ k, k < p → RowB w (G k) L (inF k) ∧ B ≤ G k ∧ vc.ownBlock ≠ some (G k) ∧ vp.ownBlock ≠ some (G k) ∧ vn.ownBlock ≠ some (G k)
  cn : ∀ b, vc.ownBlock = some b → vn.ownBlock ≠ some b
  cp : ∀ b, vc.ownBlock = some b → vp.ownBlock ≠ some b
  pn : ∀ b, vp.ownBlock = some b → vn.ownBlock ≠ some b
  sB : ps < B
  bB : pb < B
  sb : ps ≠ pb
theorem Bg.up {w w' : World} {B ps pb L : Nat} {v : List Int} {vc vp vn : Value} {G : Nat → Nat} {c p m : Nat} (h : Bg w B ps pb L v vc vp vn G c p m) (hb : Below w.heap.size w w') : Bg w' B ps pb L v vc vp vn G c p m :=
  { h with
    hs := (hb.block _ (lt_of_block' h.hs)).trans h.hs
    hb := (hb.block _ (lt_of_block' h.hb)).trans h.hb
    oc := own_below h.oc hb
    op := own_below h.op hb
    on := own_below h.on hb
    rw := fun k hk => ⟨(hb.block _ (lt_of_block' (h.rw k hk).1)).trans (h.rw k hk).1, (h.rw k hk).2⟩ }
theorem range_next (f : Nat → Value) (p : Nat) : (List.range (p + 1)).map f = (List.range p).map f ++ [f p] := by rw [List.range_succ, List.map_append]; rfl
theorem rowF_next (f : Nat → Int) (p : Nat) : ints (rowF f (p + 1)) = ints (rowF f p) ++ [.int .i64 (f p)] := by
  unfold rowF
  rw [List.range_succ, List.map_append, ints_append]
  rfl
/-- A row more. -/
theorem Bg.addP {w X w7 : World} {B ps pb L : Nat} {v : List Int} {vc vp vn v7 : Value} {G : Nat → Nat} {c p m g : Nat} (h : Bg w B ps pb L v vc vp vn G c p m) (hx : Below w.heap.size w X) (hg7 : X.grownBy w7 vp.ownBlock) (ho7 : w7.ownsRow B 22 1 v7 (p + 1) ((List.range p).map (fun k => .slice (some ⟨G k, 0, none⟩) L L) ++ [.slice (some ⟨g, 0, none⟩) L L]))
    (h7 : v7.ownBlock = vp.ownBlock ∨ v7.ownBlock = some X.heap.size) (hr : RowB w g L (inF p)) (hBg : B ≤ g) (n1 : vc.ownBlock ≠ some g) (n2 : vp.ownBlock ≠ some g) (n3 : vn.ownBlock ≠ some g) :
    Bg (w7.setCell ⟨ps, 2, none⟩ v7) B ps pb L v vc v7 vn (fun k => if k = p then g else G k) c (p + 1) m := by
  have off : ∀ b, b < B → vp.ownBlock ≠ some b := fun b hb he => by have := (h.op.lt b he).1; omega
  have ps7 : w7.heap[ps]? = some (.cells #[.int .i64 1, vc, vp, .slice none 0 0] 82 (0, 0)) := (hg7.block ps (Nat.lt_of_lt_of_le (lt_of_block' h.hs) hx.size) (fun e => off ps h.sB e.symm)).trans ((hx.block _ (lt_of_block' h.hs)).trans h.hs)
  have hsz := hx.size
  have new : ∀ b, b < w.heap.size → vp.ownBlock ≠ some b → v7.ownBlock ≠ some b := fun b hb hne he => by
    rcases h7 with h7 | h7
    · exact hne (h7 ▸ he)
    · rw [h7] at he
      injection he with he
      omega
  refine { h with hs := ?_, hb := ?_, oc := ?_, op := ?_, on := ?_, rw := ?_, cp := ?_, pn := ?_ }
  · rw [blk_set ps7 2 v7]
    rfl
  · exact blk_step h.hb hx hg7 (off pb h.bB) (Ne.symm h.sb)
  · exact own_step h.oc hx hg7 h.cp h.sB
  · have e : (List.range (p + 1)).map (fun k => Value.slice (some ⟨if k = p then g else G k, 0, none⟩) L L) = (List.range p).map (fun k => .slice (some ⟨G k, 0, none⟩) L L) ++ [.slice (some ⟨g, 0, none⟩) L L] := by
      rw [range_next, if_pos rfl]
      congr 1
      refine List.map_congr_left fun k hk => ?_
      rw [if_neg (by have := List.mem_range.1 hk; omega)]
    rw [e]
    exact own_set_off ho7 (fun b hb => by have := (ho7.lt b hb).1; have := h.sB; omega) 2 v7
  · exact own_step h.on hx hg7 (fun b hb he => h.pn b he hb) h.sB
  · intro k hk
    by_cases e : k = p
    · rw [if_pos e, e]
      refine ⟨blk_step hr hx hg7 n2 (by have := h.sB; omega), hBg, n1, new g (lt_of_block' hr) n2, n3⟩
    · rw [if_neg e]
      obtain ⟨r1, r2, r3, r4, r5⟩ := h.rw k (by omega)
      exact ⟨blk_step r1 hx hg7 r4 (by have := h.sB; omega), r2, r3, new _ (lt_of_block' r1) r4, r5⟩
  · intro b hb
    exact new b (h.oc.lt b hb).2 (h.cp b hb)
  · intro b hb he
    exact new b (h.on.lt b he).2 (fun h2 => h.pn b h2 he) hb
/-- A chosen group more. -/
theorem Bg.addC {w X w7 : World} {B ps pb L : Nat} {v : List Int} {vc vp vn v7 : Value} {G : Nat → Nat} {c p m : Nat} (h : Bg w B ps pb L v vc vp vn G c p m) (hx : Below w.heap.size w X) (hg7 : X.grownBy w7 vc.ownBlock) (ho7 : w7.ownsRow B 3 1 v7 (c + 1) (ints (rowF alF c) ++ [.int .i64 (alF c)]))
    (h7 : v7.ownBlock = vc.ownBlock ∨ v7.ownBlock = some X.heap.size) :
    Bg (w7.setCell ⟨ps, 1, none⟩ v7) B ps pb L v v7 vp vn G (c + 1) p m := by
  have off : ∀ b, b < B → vc.ownBlock ≠ some b := fun b hb he => by have := (h.oc.lt b he).1; omega
  have ps7 : w7.heap[ps]? = some (.cells #[.int .i64 1, vc, vp, .slice none 0 0] 82 (0, 0)) := (hg7.block ps (Nat.lt_of_lt_of_le (lt_of_block' h.hs) hx.size) (fun e => off ps h.sB e.symm)).trans ((hx.block _ (lt_of_block' h.hs)).trans h.hs)
  have hsz := hx.size
  have new : ∀ b, b < w.heap.size → vc.ownBlock ≠ some b → v7.ownBlock ≠ some b := fun b hb hne he => by
    rcases h7 with h7 | h7
    · exact hne (h7 ▸ he)
    · rw [h7] at he
      injection he with he
      omega
  refine { h with hs := ?_, hb := ?_, oc := ?_, op := ?_, on := ?_, rw := ?_, cn := ?_, cp := ?_ }
  · rw [blk_set ps7 1 v7]
    rfl
  · exact blk_step h.hb hx hg7 (off pb h.bB) (Ne.symm h.sb)
  · rw [rowF_next]
    exact own_set_off ho7 (fun b hb => by have := (ho7.lt b hb).1; have := h.sB; omega) 1 v7
  · exact own_step h.op hx hg7 (fun b hb he => h.cp b he hb) h.sB
  · exact own_step h.on hx hg7 (fun b hb he => h.cn b he hb) h.sB
  · intro k hk
    obtain ⟨r1, r2, r3, r4, r5⟩ := h.rw k hk
    exact ⟨blk_step r1 hx hg7 r3 (by have := h.sB; omega), r2, new _ (lt_of_block' r1) r3, r4, r5⟩
  · intro b hb he
    exact new b (h.on.lt b he).2 (fun h2 => h.cn b h2 he) hb
  · intro b hb he
    exact new b (h.op.lt b he).2 (fun h2 => h.cp b h2 he) hb
/-- What a player gets. -/
theorem Bg.addN {w X w7 : World} {B ps pb L : Nat} {v : List Int} {vc vp vn v7 : Value} {G : Nat → Nat} {c p m : Nat} (h : Bg w B ps pb L v vc vp vn G c p m) (hx : Below w.heap.size w X) (hg7 : X.grownBy w7 vn.ownBlock) (ho7 : w7.ownsRow B 3 1 v7 (m + 1) (ints (rowF (vaF v) m) ++ [.int .i64 (vaF v m)]))
    (h7 : v7.ownBlock = vn.ownBlock ∨ v7.ownBlock = some X.heap.size) :
    Bg (w7.setCell ⟨pb, 1, none⟩ v7) B ps pb L v vc vp v7 G c p (m + 1) := by
  have off : ∀ b, b < B → vn.ownBlock ≠ some b := fun b hb he => by have := (h.on.lt b he).1; omega
  have pb7 : w7.heap[pb]? = some (.cells #[.int .i64 1, vn] 44 (0, 0)) := (hg7.block pb (Nat.lt_of_lt_of_le (lt_of_block' h.hb) hx.size) (fun e => off pb h.bB e.symm)).trans ((hx.block _ (lt_of_block' h.hb)).trans h.hb)
  have hsz := hx.size
  have new : ∀ b, b < w.heap.size → vn.ownBlock ≠ some b → v7.ownBlock ≠ some b := fun b hb hne he => by
    rcases h7 with h7 | h7
    · exact hne (h7 ▸ he)
    · rw [h7] at he
      injection he with he
      omega
  refine { h with hs := ?_, hb := ?_, oc := ?_, op := ?_, on := ?_, rw := ?_, cn := ?_, pn := ?_ }
  · exact blk_step h.hs hx hg7 (off ps h.sB) h.sb
  · rw [blk_set pb7 1 v7]
    rfl
  · exact own_step h.oc hx hg7 h.cn h.bB
  · exact own_step h.op hx hg7 h.pn h.bB
  · rw [rowF_next]
    exact own_set_off ho7 (fun b hb => by have := (ho7.lt b hb).1; have := h.bB; omega) 1 v7
  · intro k hk
    obtain ⟨r1, r2, r3, r4, r5⟩ := h.rw k hk
    exact ⟨blk_step r1 hx hg7 r5 (by have := h.bB; omega), r2, r3, r4, new _ (lt_of_block' r1) r5⟩
  · intro b hb
    exact new b (h.oc.lt b hb).2 (h.cn b hb)
  · intro b hb
    exact new b (h.op.lt b hb).2 (h.pn b hb)
theorem own_blk {w : World} {B n : Nat} {e : TypeId} {v : Value} {xs : List Value} (h : w.ownsRow B e 1 v n xs) (h0 : 0 < n) : ∃ (g c : Nat) (cur : Array Value), v = .slice (some ⟨g, 0, none⟩) n c ∧ v.ownBlock = some g ∧ B ≤ g ∧ w.heap[g]? = some (.cells cur e (0, 0)) ∧ ∀ (k : Nat) (u : Value), xs[k]? = some u → cur[k]? = some u := by
  rcases h.2 with ⟨hv, hn⟩ | ⟨g, cap, cur, hv, hb, hg, hnc, hcm, hcs, htake⟩
  · omega
  · refine ⟨g, cap, cur, hv, by rw [hv]; rfl, hb, hg, fun k u hk => ?_⟩
    rw [← htake, List.getElem?_take] at hk
    split at hk
    · simpa using hk
    · cases hk
/-- The first stand is whole. -/
theorem Bg.made {w w' : World} {B B' ps pb L n g c : Nat} {v : List Int} {vc vp vn : Value} {G : Nat → Nat} {E : Nat → Int} (h : Bg w B ps pb L v vc vp vn G n n n) (hn : 0 < n) (hb : Below w.heap.size w w') (hg : w.heap.size ≤ g) (hr : RowB w' g L E) (hBs : B' ≤ ps) (hBB : B' ≤ B) :
    Nonempty (StP (w'.setCell ⟨ps, 3, none⟩ (.slice (some ⟨g, 0, none⟩) L c)) B' ps n L 1 alF inF E) := by
  obtain ⟨gc, cc, curc, hvc, hoc, hbc, hgc, hcv⟩ := own_blk h.oc hn
  obtain ⟨gp, cp, curp, hvp, hop, hbp, hgp, hpv⟩ := own_blk h.op hn
  have l1 := lt_of_block' h.hs
  have l2 := lt_of_block' hgc
  have l3 := lt_of_block' hgp
  have sB := h.sB
  have off : ∀ b, b ≠ ps → (w'.setCell ⟨ps, 3, none⟩ (.slice (some ⟨g, 0, none⟩) L c)).heap[b]? = w'.heap[b]? := fun b hne => Below.heap_setCell _ _ _ b hne
  refine ⟨{ gc := gc, cc := cc, gp := gp, cp := cp, ge := g, ce := c, curc := curc, curp := curp, G := G, C := fun _ => L
            hs := by
              rw [blk_set ((hb.block _ l1).trans h.hs) 3 _, hvc, hvp]
              rfl
            hc := (off gc (by omega)).trans ((hb.block _ l2).trans hgc)
            hcv := fun k hk => hcv k _ (by rw [ints_at (rowF_get hk)])
            hp := (off gp (by omega)).trans ((hb.block _ l3).trans hgp)
            hpv := fun k hk => hpv k _ (by rw [List.getElem?_map, List.getElem?_range hk]; rfl)
            hg := fun k hk => ?_
            he := (off g (by omega)).trans hr
            d1 := by omega
            d2 := by omega
            d3 := by omega
            d4 := by omega
            d5 := by omega
            d6 := fun e => h.cp gc hoc (by rw [hop, e])
            bs := hBs
            bc := by omega
            bp := by omega }⟩
  obtain ⟨r1, r2, r3, r4, r5⟩ := h.rw k hk
  exact ⟨(off _ (by omega)).trans ((hb.block _ (lt_of_block' r1)).trans r1), by omega, fun e => r3 (by rw [hoc, e]), fun e => r4 (by rw [hop, e])⟩
end Go.Proofs.Ytfmhanpibgmgfaa
