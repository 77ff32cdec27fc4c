/-
  The first message that is heard: how the variables of the search lie. Condition: none.
-/
import Derived.Test.YtjongjndoaojnaaHd3
import Derived.Test.YtjongjndoaojnaaLv1
namespace Go.Proofs.Ytjongjndoaojnaa
open Go.RowKit
set_option linter.unusedVariables false

def findV (bt bv bc bf bm : Nat) : Value := .func (.func 63) #[] #[.pointer (some ⟨bt, 0, none⟩), .pointer (some ⟨bv, 0, none⟩), .pointer (some ⟨bc, 0, none⟩), .pointer (some ⟨bf, 0, none⟩), .pointer (some ⟨bm, 0, none⟩)]
def rowU (V : Nat → Bool) (n : Nat) : List Value := (List.range n).map fun p => .bool (V p)
theorem rowU_at {V : Nat → Bool} {n j : Nat} (h : j < n) : (rowU V n).toArray[j]? = some (.bool (V j)) := by simp [rowU, h]
theorem rowU_set {V U : Nat → Bool} {n k : Nat} {x : Bool} (hk : x = U k) (hg : ∀ j, j ≠ k → U j = V j) : (rowU V n).toArray.setIfInBounds k (.bool x) = (rowU U n).toArray := by
  rw [List.setIfInBounds_toArray]
  congr 1
  refine List.ext_getElem? fun j => ?_
  rw [List.getElem?_set]
  by_cases hj : j < n
  · have a1 := rowU_at (V := V) hj
    have a2 := rowU_at (V := U) hj
    rw [List.getElem?_toArray] at a1 a2
    rw [a1, a2]
    by_cases h : k = j
    · subst h
      rw [if_pos rfl, if_pos (by simp [rowU]; exact hj), hk]
    · rw [if_neg h, hg j fun e => h e.symm]
  · have e : ∀ f : Nat → Bool, (rowU f n)[j]? = none := fun f => by simp [rowU]; omega
    rw [e, e]
    split
    · rw [if_neg (by simp [rowU]; omega)]
    · rfl
structure ApD (B bm vk bt bv bc bf : Nat) : Prop where
  m : B ≤ bm
  k : B ≤ vk
  mv : bm ≠ vk
  tm : bt ≠ bm
  tk : bt ≠ vk
  vm : bv ≠ bm
  vk_ : bv ≠ vk
  cm : bc ≠ bm
  ck : bc ≠ vk
  fm : bf ≠ bm
  fk : bf ≠ vk
structure DcSt (B bm vk bt bv bc bf : Nat) (C : List ByteArray) (A : Option Addr) (c : Nat) (t : ByteArray) (w : World) (P : List Int) (V : Nat → Bool) (AE : Option Addr) (cE : Nat) : Prop where
  ht : w.heap[bt]? = some (.cells #[.string t] 9 (0, 0))
  hv : w.heap[bv]? = some (.cells #[.slice (some ⟨vk, 0, none⟩) (t.size + 1) (t.size + 1)] 67 (0, 0))
  hc : w.heap[bc]? = some (.cells #[.slice A C.length c] 22 (0, 0))
  hf : w.heap[bf]? = some (.cells #[findV bt bv bc bf bm] 62 (0, 0))
  hm : w.heap[bm]? = some (.cells #[.slice AE P.length cE] 23 (0, 0))
  hk : w.heap[vk]? = some (.cells (rowU V (t.size + 1)).toArray 4 (0, 0))
  hE : w.ownsRow B 3 1 (.slice AE P.length cE) P.length (ints P)
  hr : Rd w B A (txts C)
  hB : B ≤ w.heap.size
  o1 : (Value.slice AE P.length cE).ownBlock ≠ some bm
  o2 : (Value.slice AE P.length cE).ownBlock ≠ some vk
  o3 : (Value.slice AE P.length cE).ownBlock ≠ some bt
  o4 : (Value.slice AE P.length cE).ownBlock ≠ some bv
  o5 : (Value.slice AE P.length cE).ownBlock ≠ some bc
  o6 : (Value.slice AE P.length cE).ownBlock ≠ some bf
section
variable {B bm vk bt bv bc bf : Nat} {C : List ByteArray} {A : Option Addr} {c : Nat} {t : ByteArray} {w w' : World} {P P' : List Int} {V V' : Nat → Bool} {AE AE' : Option Addr} {cE cE' : Nat}
theorem DcSt.next (h : DcSt B bm vk bt bv bc bf C A c t w P V AE cE) (ap : ApD B bm vk bt bv bc bf) (k : Kp bm vk (Value.slice AE P.length cE).ownBlock w w') (hob : Ob (Value.slice AE P.length cE).ownBlock (Value.slice AE' P'.length cE').ownBlock w.heap.size)
    (hm : w'.heap[bm]? = some (.cells #[.slice AE' P'.length cE'] 23 (0, 0))) (hk : w'.heap[vk]? = some (.cells (rowU V' (t.size + 1)).toArray 4 (0, 0))) (hE : w'.ownsRow B 3 1 (.slice AE' P'.length cE') P'.length (ints P')) :
    DcSt B bm vk bt bv bc bf C A c t w' P' V' AE' cE' := by
  have hge := own_ge h.hE
  obtain ⟨k1, k2, k3, k4, k5⟩ := k
  have hoth : ∀ x, x < w.heap.size → x ≠ bm → x ≠ vk → (Value.slice AE P.length cE).ownBlock ≠ some x → w'.heap[x]? = w.heap[x]? := fun x a b c d => k5 x a b c fun e => d e.symm
  have hne : ∀ x, x < w.heap.size → (Value.slice AE P.length cE).ownBlock ≠ some x → (Value.slice AE' P'.length cE').ownBlock ≠ some x := by
    intro x hx hn
    rcases hob with e | ⟨j, e, hj⟩
    · rw [e]; exact hn
    · rw [e]; intro e2; injection e2 with e2; omega
  have l1 := lt_of_block h.ht
  have l2 := lt_of_block h.hv
  have l3 := lt_of_block h.hc
  have l4 := lt_of_block h.hf
  have l5 := lt_of_block h.hm
  have l6 := lt_of_block h.hk
  refine ⟨(hoth bt l1 ap.tm ap.tk h.o3).trans h.ht, (hoth bv l2 ap.vm ap.vk_ h.o4).trans h.hv, (hoth bc l3 ap.cm ap.ck h.o5).trans h.hc, (hoth bf l4 ap.fm ap.fk h.o6).trans h.hf, hm, hk, hE, ?_, Nat.le_trans h.hB k4, hne bm l5 h.o1, hne vk l6 h.o2, hne bt l1 h.o3, hne bv l2 h.o4, hne bc l3 h.o5, hne bf l4 h.o6⟩
  refine h.hr.keep fun p hp => ?_
  have hB := h.hB
  have := ap.m
  have := ap.k
  unfold World.cell?
  simp only [k5 p.block (by omega) (by omega) (by omega) fun e => by have := hge _ e.symm; omega]
theorem DcSt.below (h : DcSt B bm vk bt bv bc bf C A c t w P V AE cE) (ap : ApD B bm vk bt bv bc bf) (k : Kp bm vk (Value.slice AE P.length cE).ownBlock w w') : Below B w w' :=
  k.below ap.m ap.k (fun j hj => (own_ge h.hE j hj).1) h.hB
/-- Behind the store into the table. -/
theorem DcSt.vain (h : DcSt B bm vk bt bv bc bf C A c t w P V AE cE) (ap : ApD B bm vk bt bv bc bf) (n : Nat) :
    DcSt B bm vk bt bv bc bf C A c t (w.setCell ⟨vk, n, none⟩ (.bool true)) P (fun p => if p = n then true else V p) AE cE ∧ Below B w (w.setCell ⟨vk, n, none⟩ (.bool true)) := by
  have hg := grown_setC w vk n (.bool true)
  have hk := Kp.grown (lb := bm) (mb := vk) (o := (Value.slice AE P.length cE).ownBlock) hg (.inr (.inr (.inl rfl)))
  refine ⟨h.next ap hk Ob.refl ((hg.block bm (lt_of_block h.hm) fun e => ap.mv (by injection e)).trans h.hm) ?_ (own_keepB h.hE fun j hj => hg.block j (own_ge h.hE j hj).2 fun e => h.o2 (by rw [hj, e])), h.below ap hk⟩
  rw [blk_set h.hk n _, rowU_set (U := fun p => if p = n then true else V p) (by simp) (fun j hj => by simp [hj])]
/-- Behind the append of a number. -/
theorem DcSt.push {w1 : World} (h : DcSt B bm vk bt bv bc bf C A c t w P V AE cE) (ap : ApD B bm vk bt bv bc bf) {x : Int} {A' : Option Addr} {c' : Nat}
    (hown : w1.ownsRow B 3 1 (.slice A' (P ++ [x]).length c') (P ++ [x]).length (ints (P ++ [x]))) (hg : w.grownBy w1 (Value.slice AE P.length cE).ownBlock)
    (hor : (Value.slice A' (P ++ [x]).length c').ownBlock = (Value.slice AE P.length cE).ownBlock ∨ (Value.slice A' (P ++ [x]).length c').ownBlock = some w.heap.size) :
    DcSt B bm vk bt bv bc bf C A c t (w1.setCell ⟨bm, 0, none⟩ (.slice A' (P ++ [x]).length c')) (P ++ [x]) V A' c' ∧ Below B w (w1.setCell ⟨bm, 0, none⟩ (.slice A' (P ++ [x]).length c')) := by
  have l4 := lt_of_block h.hm
  have l5 := lt_of_block h.hk
  have hob : Ob (Value.slice AE P.length cE).ownBlock (Value.slice A' (P ++ [x]).length c').ownBlock w.heap.size := by
    rcases hor with e | e
    · exact .inl e
    · exact .inr ⟨_, e, Nat.le_refl _⟩
  have hk : Kp bm vk (Value.slice AE P.length cE).ownBlock w (w1.setCell ⟨bm, 0, none⟩ (.slice A' (P ++ [x]).length c')) :=
    (Kp.grown hg (.inr (.inr (.inr rfl)))).trans hob (Kp.grown (grown_setC _ _ _ _) (.inr (.inl rfl)))
  refine ⟨h.next ap hk hob ?_ ?_ (own_keepB hown fun j hj => (grown_setC _ _ _ _).block j (own_ge hown j hj).2 fun e => ?_), h.below ap hk⟩
  · rw [blk_set ((hg.block bm l4 fun e => h.o1 e.symm).trans h.hm) 0]
    rfl
  · exact ((grown_setC _ _ _ _).block vk (Nat.lt_of_lt_of_le l5 hg.size) fun e => ap.mv (by injection e with e; exact e.symm)).trans ((hg.block vk l5 fun e => h.o2 e.symm).trans h.hk)
  · rcases hor with e2 | e2
    · exact h.o1 (by rw [← e2, hj, e])
    · rw [hj] at e2
      injection e with e
      injection e2 with e2
      omega
theorem DcSt.stay (h : DcSt B bm vk bt bv bc bf C A c t w P V AE cE) (ap : ApD B bm vk bt bv bc bf) (hg : w.grownBy w' none) : DcSt B bm vk bt bv bc bf C A c t w' P V AE cE :=
  h.next ap (Kp.grown hg (.inl rfl)) Ob.refl ((hg.block bm (lt_of_block h.hm) (by simp)).trans h.hm) ((hg.block vk (lt_of_block h.hk) (by simp)).trans h.hk) (own_keepB h.hE fun j hj => hg.block j (own_ge h.hE j hj).2 (by simp))
end
/-- What the table says is so. -/
def VOk (C : List ByteArray) (t : ByteArray) (V : Nat → Bool) : Prop := ∀ p, V p = true → ways C ((bl t).drop p) = 0
end Go.Proofs.Ytjongjndoaojnaa
