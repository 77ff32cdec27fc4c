/-
  Games: the walks of before, all, reached, won of the reference; of every, numbered of package lure. Conditions: the game is one and can be read.
-/
import Derived.Test.YtldepjpalhmpnaaLu5
namespace Go.Proofs.Ytldepjpalhmpnaa
open Go.RowKit
set_option linter.unusedVariables false

theorem and_hit {n S : Nat} {L : List Int} (hs : setL n L = true) (hn : n ≤ 32) (hS : S < 4294967296) : (bits .and .i64 ((gatN L : Nat) : Int) (S : Int) != 0) = hit S L := by
  have hg : gatN L < 4294967296 := bit32 _
  rw [i64_and_nat _ _ (by omega) (by omega), ← mt_hit hs hn]
  unfold mtB
  by_cases h : gatN L &&& S = 0
  · rw [h]; rfl
  · rw [decide_eq_false h]
    show _ = true
    rw [bne_iff_ne]
    intro h2
    exact h (by exact_mod_cast h2)
theorem and_inn {n S : Nat} {L : List Int} (hs : setL n L = true) (hn : n ≤ 32) (hS : S < 4294967296) : (bits .and .i64 ((gatN L : Nat) : Int) (S : Int) == ((gatN L : Nat) : Int)) = inn S L := by
  have hg : gatN L < 4294967296 := bit32 _
  rw [i64_and_nat _ _ (by omega) (by omega), ← li_inn hs hn hS, Bool.eq_iff_iff, li_sub hg hS, beq_iff_eq]
  constructor
  · intro h j hj
    have h1 : gatN L &&& S = gatN L := by exact_mod_cast h
    rw [← h1, Nat.testBit_and, Bool.and_eq_true] at hj
    exact hj.2
  · intro h
    have : gatN L &&& S = gatN L := by
      apply Nat.eq_of_testBit_eq
      intro j
      rw [Nat.testBit_and]
      cases hj : (gatN L).testBit j
      · rfl
      · rw [h j hj]; rfl
    rw [this]
/-- What is laid of a game that a walk reads: the box, the rows, what they say of G. -/
structure Laid (w W : World) (G : Gm) (A0 : Option Addr) (c0 : Nat) (own : List Int) (A1 : Option Addr) (c1 : Nat) (rs : List Rw) : Prop where
  hW : w.alloc (.cells #[.slice A0 own.length c0, .slice A1 rs.length c1] 25) = W
  p0 : W.cell? ⟨w.heap.size, 0, none⟩ = some (.slice A0 own.length c0)
  p1 : W.cell? ⟨w.heap.size, 1, none⟩ = some (.slice A1 rs.length c1)
  hz : w.heap.size < W.heap.size
  b : Below w.heap.size w W
  r0 : Rd W W.heap.size A0 (ints own)
  r1 : RdR W W.heap.size A1 rs
  rg : RdG W W.heap.size ⟨A0, c0, own, A1, c1, rs⟩
  ho : G.own = own
  len : rs.length = own.length
  pos : 0 < own.length
  le : own.length ≤ 16
  who : ∀ (k : Nat) d, own[k]? = some d → d = 0 ∨ d = 1
  fit : ∀ r ∈ rs, r.l.length ≤ 9223372036854775807
  row : ∀ (k : Nat) A c l, rs[k]? = some ⟨A, c, l⟩ → G.row k = l
  set : ∀ (k : Nat) A c l, rs[k]? = some ⟨A, c, l⟩ → setL own.length l = true
  fc : ∀ (k : Nat) A c l d (b : Int) S, rs[k]? = some ⟨A, c, l⟩ → own[k]? = some d → fcB G b S k = (if d = b then hit S l else inn S l)
theorem laid_of (w : World) (g : Gv) (hr : RdG w w.heap.size g) (hf : Gfit g) (hE : gE g.G = 0) : ∃ W, Laid w W g.G g.A0 g.c0 g.own g.A1 g.c1 g.rs := by
  obtain ⟨W, hW, p0, p1, hz, hb, hr1⟩ := box_game w g 25 hr
  have H := gE_zero hE
  have hm : g.G.mv.length = g.rs.length := by simp [Gv.G]
  have ho : g.G.own = g.own := rfl
  have hlen : g.rs.length = g.own.length := hm.symm.trans H.len
  refine ⟨W, hW, p0, p1, hz, hb, hr1.o, hr1.r, hr1, rfl, hlen, H.pos, H.le, fun k d hd => ?_, fun r hr => ?_, fun k A c l h => row_of h, fun k A c l h => ?_, fun k A c l d b S h hd => fcB_at hd (row_of h)⟩
  · have hk := (List.getElem?_eq_some_iff.1 hd).1
    have := H.who (p := k) hk
    rw [who_at (show g.G.own[k]? = some d from hd)] at this
    exact this
  · have := hf.rs r hr
    unfold maxLen at this
    omega
  · have hk := (List.getElem?_eq_some_iff.1 h).1
    have := H.set (p := k) (by rw [ho]; omega)
    rw [row_of h] at this
    exact this
theorem pow_sub_u32 {n : Nat} (h : n ≤ 16) : (2 : Int) ^ n % 4294967296 - 1 = ((2 ^ n - 1 : Nat) : Int) := by
  have h1 := shl_u32 (k := n) (by omega)
  have h2 := Nat.two_pow_pos n
  rw [h1]
  omega
theorem every_any (g : Gv) (w : World) (hr : RdG w w.heap.size g) (hf : Gfit g) (hE : gE g.G = 0) :
    Calls Try.prog 20 #[g.v] w fun e w' => e = .returned (.int .u32 (2 ^ g.own.length - 1 : Nat)) ∧ Below w.heap.size w w' := by
  obtain ⟨W, hl⟩ := laid_of w g hr hf hE
  have LA := Lib.hid hl
  clear hr hf hE hl
  unfold Gv.v
  obtain ⟨A0, c0, own, A1, c1, rs⟩ := g
  simp only at LA ⊢
  have hW := LA.out.hW
  have p0 := LA.out.p0
  have p1 := LA.out.p1
  have hn16 := LA.out.le
  have b1 : (own.length : Int) < 32 := by omega
  have HSh := shl_u32 (k := own.length) (by omega)
  have hpp := Nat.two_pow_pos own.length
  have hpl : 2 ^ own.length ≤ 65536 := (show 2 ^ own.length ≤ 2 ^ 16 from Nat.pow_le_pow_right (by omega) hn16)
  have HE : ((2 ^ own.length - 1 : Nat) : Int) = ((2 ^ own.length : Nat) : Int) - 1 := by omega
  rw [HE]
  generalize 2 ^ own.length = N at *
  have hwr : IntKind.u32.wrap ((N : Int) - 1) = (N : Int) - 1 := by rw [IntKind.wrap_u32]; omega
  go_enter Try.func20, Try.ntmps20
  go_wp2_with fail
  go_ret
  exact ⟨by first | rfl | (rw [HSh]; rfl) | (rw [HSh, hwr]; rfl), LA.out.b⟩
end Go.Proofs.Ytldepjpalhmpnaa
