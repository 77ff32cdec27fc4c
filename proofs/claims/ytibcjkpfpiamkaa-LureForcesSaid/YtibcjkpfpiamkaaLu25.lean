/-
  Playing: the walks of Index, Contains, move, isPlan, isPlace, Play of package lure. Conditions: the game and the plans can be read.
-/
import Derived.Test.YtibcjkpfpiamkaaLu15
namespace Go.Proofs.Ytibcjkpfpiamkaa
open Go.RowKit
set_option linter.unusedVariables false

def ixF (x : Int) (L : List Int) : Int := match L.findIdx? fun d => decide (d = x) with
  | some i => (i : Int)
  | none => -1
theorem ix_hit {x : Int} {L : List Int} {k : Nat} (hd : L[k]? = some x) (ha : ∀ (j : Nat) e, j < k → L[j]? = some e → ¬ e = x) : ixF x L = (k : Int) := by
  obtain ⟨hk, he⟩ := List.getElem?_eq_some_iff.1 hd
  have : L.findIdx? (fun d => decide (d = x)) = some k := by
    rw [List.findIdx?_eq_some_iff_getElem]
    refine ⟨hk, by rw [he]; simp, fun j hj => ?_⟩
    have := ha j _ hj (List.getElem?_eq_getElem (by omega))
    simpa using this
  unfold ixF
  rw [this]
theorem ix_none {x : Int} {L : List Int} (ha : ∀ (j : Nat) e, j < L.length → L[j]? = some e → ¬ e = x) : ixF x L = -1 := by
  have : L.findIdx? (fun d => decide (d = x)) = none := by
    rw [List.findIdx?_eq_none_iff]
    intro y hy
    obtain ⟨j, hj, he⟩ := List.getElem_of_mem hy
    have := ha j y hj (by rw [← he]; exact List.getElem?_eq_getElem hj)
    simpa using this
  unfold ixF
  rw [this]
theorem ix_mem (x : Int) (L : List Int) : decide (0 ≤ ixF x L) = decide (x ∈ L) := by
  unfold ixF
  cases h : L.findIdx? fun d => decide (d = x) with
  | none =>
    rw [List.findIdx?_eq_none_iff] at h
    rw [decide_eq_false (show ¬ (0 : Int) ≤ -1 by omega), eq_comm, decide_eq_false_iff_not]
    intro hm
    have := h x hm
    simp at this
  | some i =>
    rw [List.findIdx?_eq_some_iff_getElem] at h
    obtain ⟨hi, h1, _⟩ := h
    rw [decide_eq_true (show (0 : Int) ≤ (i : Int) by omega), eq_comm, decide_eq_true_eq]
    have : L[i] = x := by simpa using h1
    rw [← this]
    exact List.getElem_mem hi
theorem ne_next {x : Int} {R : List Int} {k : Nat} {d : Int} (hk : R[k]? = some d) (h : ¬ d = x) (ha : ∀ (j : Nat) e, j < k → R[j]? = some e → ¬ e = x) : ∀ (j : Nat) e, j < k + 1 → R[j]? = some e → ¬ e = x := fun j e hj he => by
  by_cases hjk : j = k
  · subst hjk
    obtain rfl := Option.some.inj (hk.symm.trans he)
    exact h
  · exact ha j e (by omega) he
set_option maxRecDepth 4000 in
theorem Index_any (A : Option Addr) (c : Nat) (L : List Int) (x : Int) (w : World) (hr : Rd w w.heap.size A (ints L)) (hl : L.length ≤ 9223372036854775807) :
    Calls Try.prog 87 #[.slice A L.length c, .int .i64 x] w fun e w' => e = .returned (.int .i64 (ixF x L)) ∧ w = w' := by
  have HR := Lib.hid hr
  have HH := Lib.hid (fun k hd ha => ix_hit (x := x) (L := L) (k := k) hd ha)
  have HN := Lib.hid (fun ha => ix_none (x := x) (L := L) ha)
  clear hr
  go_enter Try.func87, Try.ntmps87
  go_wp2
  go_loop [8] (fun i => ∃ k : Nat, k ≤ L.length ∧ i = .int .i64 k ∧ ∀ (j : Nat) e, j < k → L[j]? = some e → ¬ e = x) (fun i => L.length - (intOf i).toNat)
  case atStart => exact ⟨0, by omega, rfl, fun j e hj => by omega⟩
  case round =>
    obtain ⟨k, hk, rfl, hall⟩ := hrel
    have HA := Lib.hid hall
    clear hall
    by_cases hlt : k < L.length
    · obtain ⟨b, o, d, rfl, hd, hc⟩ := HR.out.int k hlt
      by_cases hp : d = x
      · subst hp
        have HX := Lib.hid (HH.out k hd.out HA.out)
        have e1 : (d == d) = true := beq_self_eq_true d
        go_wp2_with fail
        go_ret
        exact ⟨by rw [HX.out]; rfl, rfl⟩
      · have HX := Lib.hid (ne_next hd.out hp HA.out)
        have e1 : (x == d) = false := by rw [beq_eq_false_iff_ne]; exact fun h => hp h.symm
        clear hp
        go_wp2_with fail
        go_round
        case rel => exact ⟨k + 1, by omega, by go_num, HX.out⟩
        case measure => simp [intOf]; omega
    · have hks : k = L.length := by omega
      subst hks
      have HX := Lib.hid (HN.out HA.out)
      go_wp2_with fail
      go_ret
      exact ⟨by rw [HX.out]; rfl, rfl⟩
theorem Contains_any (A : Option Addr) (c : Nat) (L : List Int) (x : Int) (w : World) (hr : Rd w w.heap.size A (ints L)) (hl : L.length ≤ 9223372036854775807) :
    Calls Try.prog 86 #[.slice A L.length c, .int .i64 x] w fun e w' => e = .returned (.bool (decide (x ∈ L))) ∧ w = w' := by
  have H := Lib.hid (Index_any A c L x w hr hl)
  have hm := ix_mem x L
  generalize ixF x L = I at *
  generalize decide (x ∈ L) = B at *
  go_enter Try.func86, Try.ntmps86
  go_wp2_with fail
  refine (H.out).mono ?_
  rintro e w' ⟨rfl, rfl⟩
  go_wp2_with fail
  go_ret
  exact ⟨by first | rfl | rw [hm], rfl⟩
def moveF (L : List Int) (x : Int) : Int := if x ∈ L then x else L.getD 0 0
theorem move_any (A : Option Addr) (c : Nat) (L : List Int) (x : Int) (w : World) (hr : Rd w w.heap.size A (ints L)) (hl : L.length ≤ 9223372036854775807) (h0 : 0 < L.length) :
    Calls Try.prog 76 #[.slice A L.length c, .int .i64 x] w fun e w' => e = .returned (.int .i64 (moveF L x)) ∧ w = w' := by
  have H := Lib.hid (Contains_any A c L x w hr hl)
  obtain ⟨b, o, d, rfl, hd, hc⟩ := hr.int 0 h0
  by_cases hx : x ∈ L
  · have HE := Lib.hid (show moveF L x = x from if_pos hx)
    rw [decide_eq_true hx] at H
    clear hr hx
    go_enter Try.func76, Try.ntmps76
    go_wp2_with fail
    refine (H.out).mono ?_
    rintro e w' ⟨rfl, rfl⟩
    go_wp2_with fail
    go_ret
    exact ⟨by rw [HE.out]; rfl, rfl⟩
  · have HE := Lib.hid (show moveF L x = d by unfold moveF; rw [if_neg hx, getD_at hd.out])
    rw [decide_eq_false hx] at H
    rw [Nat.add_zero] at hc
    have h1 : (0 : Int) < (L.length : Int) := by omega
    clear hr hx
    go_enter Try.func76, Try.ntmps76
    go_wp2_with fail
    refine (H.out).mono ?_
    rintro e w' ⟨rfl, rfl⟩
    go_wp2_with fail
    go_ret
    exact ⟨by rw [HE.out]; rfl, rfl⟩
theorem isPlan_any (g : Gv) (A : Option Addr) (c : Nat) (L : List Int) (w : World) (hr : RdG w w.heap.size g) :
    Calls Try.prog 74 #[g.v, .slice A L.length c] w fun e w' => e = .returned (.bool (decide (L.length = g.own.length))) ∧ Below w.heap.size w w' := by
  obtain ⟨W, hW, p0, p1, hz, hb, hr1⟩ := box_game w g 25 hr
  have B0 := Lib.hid hb
  obtain ⟨A0, c0, own, A1, c1, rs⟩ := g
  unfold Gv.v
  simp only at hW p0 p1 ⊢
  clear hr hb hr1
  by_cases h : L.length = own.length
  · have e1 : ((L.length : Int) == (own.length : Int)) = true := by rw [beq_iff_eq]; omega
    have e2 : (L.length == own.length) = true := by rw [beq_iff_eq]; exact h
    rw [decide_eq_true h]
    clear h
    go_enter Try.func74, Try.ntmps74
    go_wp2_with fail
    go_ret
    exact ⟨rfl, B0.out⟩
  · have e1 : ((L.length : Int) == (own.length : Int)) = false := by rw [beq_eq_false_iff_ne]; omega
    have e2 : (L.length == own.length) = false := by rw [beq_eq_false_iff_ne]; exact h
    rw [decide_eq_false h]
    clear h
    go_enter Try.func74, Try.ntmps74
    go_wp2_with fail
    go_ret
    exact ⟨rfl, B0.out⟩
theorem isPlace_any (g : Gv) (p : Int) (w : World) (hr : RdG w w.heap.size g) :
    Calls Try.prog 75 #[g.v, .int .i64 p] w fun e w' => e = .returned (.bool (inW 0 ((g.own.length : Int) - 1) p)) ∧ Below w.heap.size w w' := by
  obtain ⟨W, hW, p0, p1, hz, hb, hr1⟩ := box_game w g 25 hr
  have B0 := Lib.hid hb
  obtain ⟨A0, c0, own, A1, c1, rs⟩ := g
  unfold Gv.v
  simp only at hW p0 p1 ⊢
  clear hr hb hr1
  by_cases h0 : 0 ≤ p
  · have e0 : decide (0 ≤ p) = true := by simpa using h0
    by_cases h1 : p < (own.length : Int)
    · have e1 : decide (p < (own.length : Int)) = true := by simpa using h1
      rw [show inW 0 ((own.length : Int) - 1) p = true from inW_iff.2 ⟨h0, by omega⟩]
      clear h0 h1
      go_enter Try.func75, Try.ntmps75
      go_wp2_with fail
      go_ret
      exact ⟨rfl, B0.out⟩
    · have e1 : decide (p < (own.length : Int)) = false := by simpa using h1
      rw [show inW 0 ((own.length : Int) - 1) p = false from inW_no (by omega)]
      clear h0 h1
      go_enter Try.func75, Try.ntmps75
      go_wp2_with fail
      go_ret
      exact ⟨rfl, B0.out⟩
  · have e0 : decide (0 ≤ p) = false := by simpa using h0
    rw [show inW 0 ((own.length : Int) - 1) p = false from inW_no (by omega)]
    clear h0
    go_enter Try.func75, Try.ntmps75
    go_wp2_with fail
    go_ret
    exact ⟨rfl, B0.out⟩

/-! ### Where a game goes -/
def nxF (G : Gm) (man ducks : List Int) (p : Nat) : Int := moveF (G.row p) (if G.who p = 1 then ducks.getD p 0 else man.getD p 0)
def posN (G : Gm) (man ducks : List Int) (f : Nat) : Nat → Nat
  | 0 => f
  | k + 1 => (nxF G man ducks (posN G man ducks f k)).toNat
def wayK (G : Gm) (man ducks : List Int) (f k : Nat) : List Int := (List.range (k + 1)).map fun j => (posN G man ducks f j : Int)
theorem wayK_len (G : Gm) (man ducks : List Int) (f k : Nat) : (wayK G man ducks f k).length = k + 1 := by simp [wayK]
theorem wayK_next (G : Gm) (man ducks : List Int) (f k : Nat) : wayK G man ducks f (k + 1) = wayK G man ducks f k ++ [(posN G man ducks f (k + 1) : Int)] := by
  unfold wayK
  rw [List.range_succ (n := k + 1), List.map_append]
  rfl
theorem wayK_zero (G : Gm) (man ducks : List Int) (f : Nat) : wayK G man ducks f 0 = [(f : Int)] := rfl
theorem move_in {L : List Int} {x : Int} (h : 0 < L.length) : moveF L x ∈ L := by
  unfold moveF
  split
  · assumption
  · rw [List.getD_eq_getElem?_getD, List.getElem?_eq_getElem h]
    exact List.getElem_mem h
theorem nx_in {G : Gm} (H : Ok G) {man ducks : List Int} {p : Nat} (hp : p < G.own.length) : nxF G man ducks p ∈ G.row p := move_in (H.ne hp)
theorem nx_nat {G : Gm} (H : Ok G) {man ducks : List Int} {p : Nat} (hp : p < G.own.length) : nxF G man ducks p = ((nxF G man ducks p).toNat : Int) ∧ (nxF G man ducks p).toNat < G.own.length := by
  have := H.mem hp (nx_in H (man := man) (ducks := ducks) hp)
  omega
theorem pos_lt {G : Gm} (H : Ok G) {man ducks : List Int} {f : Nat} (hf : f < G.own.length) : ∀ k, posN G man ducks f k < G.own.length
  | 0 => hf
  | k + 1 => (nx_nat H (pos_lt H hf k)).2
def plyB (G : Gm) (man ducks : List Int) (f m : Int) : Bool := decide (man.length = G.own.length) && (decide (ducks.length = G.own.length) && (inW 0 ((G.own.length : Int) - 1) f && inW 0 100 m))
def plyE (G : Gm) (man ducks : List Int) (f m : Int) : Int := if gE G = 0 then (if plyB G man ducks f m = true then 0 else 1) else gE G
def plyL (G : Gm) (man ducks : List Int) (f m : Int) : List Int := if plyE G man ducks f m = 0 then wayK G man ducks f.toNat m.toNat else []
theorem ply_ok {G : Gm} {man ducks : List Int} {f m : Int} (h : plyE G man ducks f m = 0) : gE G = 0 ∧ man.length = G.own.length ∧ ducks.length = G.own.length ∧ (0 ≤ f ∧ f.toNat < G.own.length) ∧ (0 ≤ m ∧ m ≤ 100) := by
  unfold plyE at h
  split at h
  · rename_i h1
    split at h
    · rename_i h2
      unfold plyB at h2
      rw [Bool.and_eq_true, Bool.and_eq_true, Bool.and_eq_true, decide_eq_true_eq, decide_eq_true_eq, inW_iff, inW_iff] at h2
      exact ⟨h1, h2.1, h2.2.1, by omega, h2.2.2.2⟩
    · cases h
  · contradiction
theorem ply_bad {G : Gm} {man ducks : List Int} {f m : Int} (h : ¬ gE G = 0) : plyE G man ducks f m = gE G := if_neg h
theorem ply_val {G : Gm} {man ducks : List Int} {f m : Int} (h : gE G = 0) : plyE G man ducks f m = (if plyB G man ducks f m = true then 0 else 1) := if_pos h
end Go.Proofs.Ytibcjkpfpiamkaa
