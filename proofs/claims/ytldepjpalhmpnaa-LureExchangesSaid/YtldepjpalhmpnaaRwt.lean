/-
  Stores into a game that lies in memory of its own: what is known of it afterwards. No program in sight.
-/
import Derived.Test.YtldepjpalhmpnaaRws
namespace Go.Proofs.Ytldepjpalhmpnaa
open Go.RowKit
set_option linter.unusedVariables false

theorem size_set (w : World) (p : Addr) (u : Value) : (w.setCell p u).heap.size = w.heap.size := by
  unfold World.setCell
  split <;> simp
theorem ints_set (l : List Int) (k : Nat) (d : Int) : ints (l.set k d) = (ints l).set k (.int .i64 d) := by simp [ints, List.map_set]
/-- The slice itself after a store into one of its cells. -/
theorem rd_set {w : World} {B b o : Nat} {l : List Int} (h : Rd w B (some ⟨b, o, none⟩) (ints l)) {k : Nat} (hk : k < l.length) (d : Int) : Rd (w.setCell ⟨b, o + k, none⟩ (.int .i64 d)) B (some ⟨b, o, none⟩) (ints (l.set k d)) := by
  rcases h with h0 | ⟨b', o', ha, hb, hc⟩
  · have : l.length = 0 := by simpa [ints] using congrArg List.length h0
    omega
  · cases ha
    refine .inr ⟨b, o, rfl, hb, fun i u hu => ?_⟩
    rw [ints_set, List.getElem?_set] at hu
    by_cases hik : k = i
    · subst hik
      rw [if_pos rfl] at hu
      split at hu
      · cases hu
        obtain ⟨d', hd⟩ : ∃ d', l[k]? = some d' := ⟨_, List.getElem?_eq_getElem hk⟩
        exact World.cell?_setCell_same _ _ _ (hc k _ (ints_at hd))
      · cases hu
    · rw [if_neg hik] at hu
      rw [World.cell?_setCell_other _ _ _ _ (fun he => hik (by injection he with _ h2; omega))]
      exact hc i u hu
/-- A store into the owners of a game leaves the rest. -/
theorem set_own {w0 w : World} {B b o c0 c1 : Nat} {own : List Int} {A1 : Option Addr} {rs : List Rw} (R : RdG w B ⟨some ⟨b, o, none⟩, c0, own, A1, c1, rs⟩) (P : Apart w0 w ⟨some ⟨b, o, none⟩, c0, own, A1, c1, rs⟩) {k : Nat} (hk : k < own.length) (d : Int) :
    RdG (w.setCell ⟨b, o + k, none⟩ (.int .i64 d)) B ⟨some ⟨b, o, none⟩, c0, own.set k d, A1, c1, rs⟩ ∧ Apart w0 (w.setCell ⟨b, o + k, none⟩ (.int .i64 d)) ⟨some ⟨b, o, none⟩, c0, own.set k d, A1, c1, rs⟩ := by
  refine ⟨⟨rd_set R.o hk d, ⟨rd_set_off R.r.1 (fun ad ha => P.x0 _ _ rfl ha) _ _, fun r hr => rd_set_off (R.r.2 r hr) (fun ad ha => ?_) _ _⟩⟩, ⟨fun ad ha => ?_, fun r hr ad ha => ?_, P.x0, P.xr, P.y0, P.f1⟩⟩
  · exact fun he => P.y0 r hr ad _ ha rfl he.symm
  · exact ⟨(P.f0 ad ha).1, (P.f0 ad ha).2.set _ _ _⟩
  · exact ⟨(P.fr r hr ad ha).1, (P.fr r hr ad ha).2.set _ _ _⟩
theorem Apart.up {w0 w w' : World} {g : Gv} (h : Apart w0 w g) (hb : Below w.heap.size w w') : Apart w0 w' g :=
  ⟨fun ad ha => ⟨(h.f0 ad ha).1, (h.f0 ad ha).2.of (hb.block _ (h.f0 ad ha).2.lt)⟩, fun r hr ad ha => ⟨(h.fr r hr ad ha).1, (h.fr r hr ad ha).2.of (hb.block _ (h.fr r hr ad ha).2.lt)⟩, h.x0, h.xr, h.y0, h.f1⟩
/-- A store below the game. -/
theorem game_off {w0 w : World} {B q : Nat} {g : Gv} (R : RdG w B g) (P : Apart w0 w g) (hq : q < w0.heap.size) (i : Nat) (u : Value) : RdG (w.setCell ⟨q, i, none⟩ u) B g ∧ Apart w0 (w.setCell ⟨q, i, none⟩ u) g := by
  refine ⟨⟨rd_set_off R.o (fun ad ha => by have := (P.f0 ad ha).1; omega) _ _, ⟨rd_set_off R.r.1 (fun ad ha => by have := P.f1 ad ha; omega) _ _, fun r hr => rd_set_off (R.r.2 r hr) (fun ad ha => by have := (P.fr r hr ad ha).1; omega) _ _⟩⟩, ⟨fun ad ha => ⟨(P.f0 ad ha).1, (P.f0 ad ha).2.set _ _ _⟩, fun r hr ad ha => ⟨(P.fr r hr ad ha).1, (P.fr r hr ad ha).2.set _ _ _⟩, P.x0, P.xr, P.y0, P.f1⟩⟩
theorem Apart.less {w0 w0' w : World} {g : Gv} (h : Apart w0 w g) (hs : w0'.heap.size ≤ w0.heap.size) : Apart w0' w g :=
  ⟨fun ad ha => ⟨Nat.le_trans hs (h.f0 ad ha).1, (h.f0 ad ha).2⟩, fun r hr ad ha => ⟨Nat.le_trans hs (h.fr r hr ad ha).1, (h.fr r hr ad ha).2⟩, h.x0, h.xr, h.y0, fun ad ha => Nat.le_trans hs (h.f1 ad ha)⟩
/-- A game into which anything may be stored: its slices stand, its numbers are open. -/
structure Opn (w0 w : World) (N : Nat) (g : Gv) : Prop where
  o : ∀ k, k < g.own.length → ∃ b o v, g.A0 = some ⟨b, o, none⟩ ∧ w0.heap.size ≤ b ∧ b < N ∧ Soft w b ∧ w.cell? ⟨b, o + k, none⟩ = some v
  m : Rd w w.heap.size g.A1 (g.rs.map Rw.v)
  r : ∀ r ∈ g.rs, 0 < r.l.length → ∃ b o v, r.A = some ⟨b, o, none⟩ ∧ w0.heap.size ≤ b ∧ b < N ∧ Soft w b ∧ w.cell? ⟨b, o, none⟩ = some v
  x0 : ∀ ad ad', g.A0 = some ad → g.A1 = some ad' → ad'.block ≠ ad.block
  xr : ∀ r ∈ g.rs, ∀ ad ad', r.A = some ad → g.A1 = some ad' → ad'.block ≠ ad.block
theorem Opn.of {w0 w : World} {N : Nat} {g : Gv} (R : RdG w w.heap.size g) (P : Apart w0 w g) (h0 : ∀ ad, g.A0 = some ad → ad.block < N) (h1 : ∀ r ∈ g.rs, ∀ ad, r.A = some ad → ad.block < N) : Opn w0 w N g := by
  refine ⟨fun k hk => ?_, R.r.1, fun r hr hl => ?_, P.x0, P.xr⟩
  · obtain ⟨b, o, d, ha, _, hc⟩ := R.o.int k hk
    exact ⟨b, o, _, ha, (P.f0 _ ha).1, h0 _ ha, (P.f0 _ ha).2, hc⟩
  · obtain ⟨b, o, d, ha, _, hc⟩ := (R.r.2 r hr).int 0 hl
    exact ⟨b, o, _, ha, (P.fr r hr _ ha).1, h1 r hr _ ha, (P.fr r hr _ ha).2, hc⟩
theorem Opn.up {w0 w w' : World} {N : Nat} {g : Gv} (h : Opn w0 w N g) (hb : Below w.heap.size w w') : Opn w0 w' N g := by
  refine ⟨fun k hk => ?_, h.m.up hb, fun r hr hl => ?_, h.x0, h.xr⟩
  · obtain ⟨b, o, v, ha, h1, hn, h2, h3⟩ := h.o k hk
    exact ⟨b, o, v, ha, h1, hn, h2.of (hb.block _ h2.lt), (hb.cell (p := ⟨b, _, none⟩) h2.lt).trans h3⟩
  · obtain ⟨b, o, v, ha, h1, hn, h2, h3⟩ := h.r r hr hl
    exact ⟨b, o, v, ha, h1, hn, h2.of (hb.block _ h2.lt), (hb.cell (p := ⟨b, _, none⟩) h2.lt).trans h3⟩
theorem Opn.set {w0 w : World} {N : Nat} {g : Gv} (h : Opn w0 w N g) {b : Nat} (hx : ∀ ad, g.A1 = some ad → ad.block ≠ b) (i : Nat) (u : Value) : Opn w0 (w.setCell ⟨b, i, none⟩ u) N g := by
  refine ⟨fun k hk => ?_, by rw [size_set]; exact rd_set_off h.m hx i u, fun r hr hl => ?_, h.x0, h.xr⟩
  · obtain ⟨b', o, v, ha, h1, hn, h2, h3⟩ := h.o k hk
    obtain ⟨v', h4⟩ := cell?_setCell_some (p := ⟨b, i, none⟩) (x := u) h3
    exact ⟨b', o, v', ha, h1, hn, h2.set _ _ _, h4⟩
  · obtain ⟨b', o, v, ha, h1, hn, h2, h3⟩ := h.r r hr hl
    obtain ⟨v', h4⟩ := cell?_setCell_some (p := ⟨b, i, none⟩) (x := u) h3
    exact ⟨b', o, v', ha, h1, hn, h2.set _ _ _, h4⟩
/-- The owners as far as they have been exchanged. -/
def xoL (own : List Int) (k : Nat) : List Int := (own.take k).map (fun d => 1 - d) ++ own.drop k
theorem xo_zero (own : List Int) : xoL own 0 = own := by simp [xoL]
theorem xo_len (own : List Int) (k : Nat) : (xoL own k).length = own.length := by simp [xoL]; omega
theorem xo_all {own : List Int} {k : Nat} (h : own.length ≤ k) : xoL own k = own.map (fun d => 1 - d) := by simp [xoL, List.take_of_length_le h, List.drop_of_length_le h]
theorem xo_at {own : List Int} {k : Nat} {d : Int} (h : own[k]? = some d) : (xoL own k)[k]? = some d := by
  have hk : k < own.length := (List.getElem?_eq_some_iff.1 h).1
  unfold xoL
  rw [List.getElem?_append_right (by simp; omega)]
  simp [List.length_take, Nat.min_eq_left (Nat.le_of_lt hk), List.getElem?_drop, h]
theorem xo_next {own : List Int} {k : Nat} {d : Int} (h : own[k]? = some d) : xoL own (k + 1) = (xoL own k).set k (1 - d) := by
  have hk : k < own.length := (List.getElem?_eq_some_iff.1 h).1
  have hd : own[k] = d := by rw [List.getElem?_eq_getElem hk] at h; exact Option.some.inj h
  unfold xoL
  rw [List.take_add_one, h, List.drop_eq_getElem_cons hk, hd]
  simp [List.length_take, Nat.min_eq_left (Nat.le_of_lt hk)]
end Go.Proofs.Ytldepjpalhmpnaa
