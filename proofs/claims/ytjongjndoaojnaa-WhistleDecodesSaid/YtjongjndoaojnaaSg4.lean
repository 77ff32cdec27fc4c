/-
  Messages: how they sound; two of which one is ahead. No program in sight. No condition.
-/
import Derived.Test.YtjongjndoaojnaaSg1
namespace Go.Proofs.Ytjongjndoaojnaa
set_option linter.unusedVariables false

def sgAt (C : List ByteArray) (i : Int) : List UInt8 := bl (C.getD i.toNat ⟨#[]⟩)
/-- How a message sounds. -/
def sndL (C : List ByteArray) (l : List Int) : List UInt8 := (l.map (sgAt C)).flatten
theorem sndL_append (C : List ByteArray) (a b : List Int) : sndL C (a ++ b) = sndL C a ++ sndL C b := by simp [sndL]
theorem sndL_one (C : List ByteArray) (i : Int) : sndL C [i] = sgAt C i := by simp [sndL]
theorem sgAt_of {C : List ByteArray} {k : Nat} {s : ByteArray} (h : C[k]? = some s) : sgAt C (k : Int) = bl s := by
  unfold sgAt
  rw [Int.toNat_natCast, List.getD_eq_getElem?_getD, h]
  rfl
def idxB (C : List ByteArray) (l : List Int) : Bool := l.all fun i => decide (0 ≤ i) && decide (i < C.length)
theorem idxB_append (C : List ByteArray) (a b : List Int) : idxB C (a ++ b) = (idxB C a && idxB C b) := by simp [idxB]
theorem idxB_one {C : List ByteArray} {k : Nat} (h : k < C.length) : idxB C [(k : Int)] = true := by simp [idxB, h]
/-- Two messages that begin with different signals, the first one of which is ahead by u. -/
structure Ahead (C : List ByteArray) (u : List UInt8) (a b : List Int) : Prop where
  ia : idxB C a = true
  ib : idxB C b = true
  snd : sndL C a = sndL C b ++ u
  hd : ∃ x y r t, a = x :: r ∧ b = y :: t ∧ x ≠ y
theorem Ahead.base {C : List ByteArray} {i j : Nat} {x y : ByteArray} {t : List UInt8} (hi : C[i]? = some x) (hj : C[j]? = some y) (hne : i ≠ j) (he : bl x = bl y ++ t) : Ahead C t [(i : Int)] [(j : Int)] :=
  ⟨idxB_one (List.getElem?_eq_some_iff.1 hi).1, idxB_one (List.getElem?_eq_some_iff.1 hj).1, by rw [sndL_one, sndL_one, sgAt_of hi, sgAt_of hj, he], _, _, _, _, rfl, rfl, by omega⟩
theorem Ahead.left {C : List ByteArray} {u t : List UInt8} {a b : List Int} {i : Nat} {x : ByteArray} (h : Ahead C u a b) (hi : C[i]? = some x) (he : u = bl x ++ t) : Ahead C t a (b ++ [(i : Int)]) := by
  obtain ⟨x', y, r, s, ha, hb, hne⟩ := h.hd
  refine ⟨h.ia, by rw [idxB_append, h.ib, idxB_one (List.getElem?_eq_some_iff.1 hi).1]; rfl, ?_, x', y, r, s ++ [(i : Int)], ha, by rw [hb]; rfl, hne⟩
  rw [h.snd, sndL_append, sndL_one, sgAt_of hi, he, List.append_assoc]
theorem Ahead.right {C : List ByteArray} {u t : List UInt8} {a b : List Int} {i : Nat} {x : ByteArray} (h : Ahead C u a b) (hi : C[i]? = some x) (he : bl x = u ++ t) : Ahead C t (b ++ [(i : Int)]) a := by
  obtain ⟨x', y, r, s, ha, hb, hne⟩ := h.hd
  refine ⟨by rw [idxB_append, h.ib, idxB_one (List.getElem?_eq_some_iff.1 hi).1]; rfl, h.ia, ?_, y, x', s ++ [(i : Int)], r, by rw [hb]; rfl, ha, fun e => hne e.symm⟩
  rw [sndL_append, sndL_one, sgAt_of hi, he, h.snd, List.append_assoc]
/-- Two messages that sound alike. -/
structure Meet (C : List ByteArray) (a b : List Int) : Prop where
  ia : idxB C a = true
  ib : idxB C b = true
  la : a.length ≤ 400
  lb : b.length ≤ 400
  ne : a ≠ b
  snd : sndL C a = sndL C b
theorem Ahead.meet {C : List ByteArray} {a b : List Int} (h : Ahead C [] a b) (hl : a.length + b.length ≤ 400) : Meet C a b := by
  obtain ⟨x, y, r, s, ha, hb, hne⟩ := h.hd
  refine ⟨h.ia, h.ib, by omega, by omega, fun e => hne ?_, by rw [h.snd, List.append_nil]⟩
  rw [ha, hb] at e
  injection e
end Go.Proofs.Ytjongjndoaojnaa
