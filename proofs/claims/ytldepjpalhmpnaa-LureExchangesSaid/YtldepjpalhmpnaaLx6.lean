/-
  What the law of exchanged games reads of the games. No program in sight.
-/
import Derived.Test.YtldepjpalhmpnaaLx5
import Derived.Test.YtldepjpalhmpnaaLu12
import Derived.Test.YtldepjpalhmpnaaLu21
namespace Go.Proofs.Ytldepjpalhmpnaa
open Go.RowKit
set_option linter.unusedVariables false

/-- A box that holds a game. -/
structure Hd (w : World) (b : Nat) (A0 : Option Addr) (c0 : Nat) (own : List Int) (A1 : Option Addr) (c1 : Nat) (rs : List Rw) : Prop where
  lt : b < w.heap.size
  k0 : w.cell? ⟨b, 0, none⟩ = some (.slice A0 own.length c0)
  k1 : w.cell? ⟨b, 1, none⟩ = some (.slice A1 rs.length c1)
  r : RdG w w.heap.size ⟨A0, c0, own, A1, c1, rs⟩
theorem Hd.up {w w' : World} {b : Nat} {A0 : Option Addr} {c0 : Nat} {own : List Int} {A1 : Option Addr} {c1 : Nat} {rs : List Rw} (h : Hd w b A0 c0 own A1 c1 rs) (hb : Below w.heap.size w w') : Hd w' b A0 c0 own A1 c1 rs :=
  ⟨Nat.lt_of_lt_of_le h.lt hb.size, cell_keep h.k0 hb h.lt, cell_keep h.k1 hb h.lt, h.r.up hb⟩
/-- A box for a game that can be read. -/
theorem Hd.box {w W : World} {A0 : Option Addr} {c0 : Nat} {own : List Int} {A1 : Option Addr} {c1 : Nat} {rs : List Rw} {t : TypeId} (hr : RdG w w.heap.size ⟨A0, c0, own, A1, c1, rs⟩) (k : W.heap[w.heap.size]? = some (.cells #[.slice A0 own.length c0, .slice A1 rs.length c1] t (0, 0))) (hb : Below w.heap.size w W) : Hd W w.heap.size A0 c0 own A1 c1 rs :=
  ⟨lt_of_block k, blk_cell (j := 0) k, blk_cell (j := 1) k, hr.up hb⟩
/-- A box that stands though the world went on. -/
theorem Hd.at_ {w w' : World} {b B : Nat} {A0 : Option Addr} {c0 : Nat} {own : List Int} {A1 : Option Addr} {c1 : Nat} {rs : List Rw} (h : Hd w b A0 c0 own A1 c1 rs) (hb : Below w.heap.size w w') : Hd w' b A0 c0 own A1 c1 rs := h.up hb
theorem good_way {G : Gm} {L : List Int} (h : askE G L = 0) : gE G = 0 ∧ kepL (exL G) (othL L G.own.length) = freL G L ∧ askE (exL G) (othL L G.own.length) = 0 ∧ G.own.length ≤ 16 ∧ (∀ r ∈ (exL G).mv, 0 < r.length) ∧ (exL G).own.length = G.own.length ∧ (exL G).mv.length = G.own.length := by
  obtain ⟨h1, h2⟩ := askE_zero h
  have H := gE_zero h1
  rw [exL_ok h1]
  refine ⟨h1, ?_, oth_ask h, H.le, fun r hr => ?_, xG_len G, H.len⟩
  · unfold kepL freL
    rw [if_pos (oth_ask h), if_pos h, oth_kept h]
  · obtain ⟨p, hp, he⟩ := List.getElem_of_mem hr
    have hp2 : p < G.own.length := by have := H.len; have h3 : p < G.mv.length := hp; omega
    have h4 := H.rows p hp2
    unfold okRow at h4
    simp only [Bool.and_eq_true, Bool.not_eq_true', decide_eq_false_iff_not] at h4
    have h5 : G.row p = r := row_at (by rw [← he]; exact List.getElem?_eq_getElem hp)
    rw [h5] at h4
    omega
theorem exL_small {G : Gm} (n : G.own.length ≤ 100) (m : G.mv.length ≤ 100) (r : ∀ x ∈ G.mv, x.length ≤ 100) : (exL G).own.length ≤ 100 ∧ (exL G).mv.length ≤ 100 ∧ ∀ x ∈ (exL G).mv, x.length ≤ 100 := by
  unfold exL
  split
  · exact ⟨by rw [xG_len]; exact n, m, r⟩
  · exact ⟨by simp, by simp, fun x hx => by cases hx⟩
theorem fre_le (G : Gm) (L : List Int) : (freL G L).length ≤ 16 := by
  unfold freL
  split
  · exact lst_le _
  · simp
end Go.Proofs.Ytldepjpalhmpnaa
