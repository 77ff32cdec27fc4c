/-
  Texts merged into one (Lu27, Lay5, LwPlays, LwForces): contracts of the functions of package lure, what is reckoned of games. Conditions: as each says.
-/
import Derived.Test.YtibcjkpfpiamkabQ6
import Derived.Test.YtibcjkpfpiamkabQ4
import Derived.Test.YtibcjkpfpiamkabQ2
import Derived.Test.YtibcjkpfpiamkabProg
import Derived.Test.YtibcjkpfpiamkabRows
import Derived.Test.YtibcjkpfpiamkabQ1
namespace Go.Proofs.Ytibcjkpfpiamkab
open Go.RowKit
set_option linter.unusedVariables false

theorem gat_bit {n : Nat} {L : List Int} (h : setL n L = true) (hn : n ≤ 32) (t : Nat) : (gatN L).testBit t = decide ((t : Int) ∈ L) := by
  rw [gat_at h hn, Bool.eq_iff_iff, memB_iff, decide_eq_true_eq]
end Go.Proofs.Ytibcjkpfpiamkab
namespace Go.Proofs.Ytibcjkpfpiamkab
open Go.RowKit
set_option linter.unusedVariables false

theorem own : ownKnob Try.prog.godebug = none := by kernel_rfl
theorem laidOut : laidOutB Try.prog = true := by kernel_rfl
theorem cInt : Try.prog.cellsOf 3 = 1 := by kernel_rfl
theorem cSl : Try.prog.cellsOf 22 = 1 := by kernel_rfl
theorem cSs : Try.prog.cellsOf 23 = 1 := by kernel_rfl
theorem cGm : Try.prog.cellsOf 25 = 2 := by kernel_rfl
theorem cMt : Try.prog.cellsOf 27 = 4 := by kernel_rfl
theorem gm_row {H : Type} {enc : TypeId × Value → H} {w : World} (n : Nat) (cs : List Value) (y : DataW H × List MemPlace) (h : DataW.trod enc Try.prog w 0 (fun _ => true) true n 25 cs = some y) : ∃ g : Gv, cs = Gv.cells g ∧ (Gfit g ∧ RdG w w.heap.size g) :=
  gm_of Try.underlying25 rfl rfl rfl rfl cSl cSs cGm Try.underlying22 Try.underlying23 Try.underlying3 cInt h
/-- Two plans, a place and a number of moves, as they lie in memory. -/
structure Mt where
  A0 : Option Addr
  c0 : Nat
  man : List Int
  A1 : Option Addr
  c1 : Nat
  ducks : List Int
  from_ : Int
  moves : Int
def Mt.cells (m : Mt) : List Value := [.slice m.A0 m.man.length m.c0, .slice m.A1 m.ducks.length m.c1, .int .i64 m.from_, .int .i64 m.moves]
def Mt.v (m : Mt) : Value := .agg #[.slice m.A0 m.man.length m.c0, .slice m.A1 m.ducks.length m.c1, .int .i64 m.from_, .int .i64 m.moves]
structure Mfit (w : World) (m : Mt) : Prop where
  r0 : Rd w w.heap.size m.A0 (ints m.man)
  l0 : m.man.length ≤ m.c0
  k0 : m.c0 ≤ maxLen
  r1 : Rd w w.heap.size m.A1 (ints m.ducks)
  l1 : m.ducks.length ≤ m.c1
  k1 : m.c1 ≤ maxLen
section
open Go.ChangeShapes Go.WideShapes Go.Deep Go.ChangeAt
variable {H : Type} {enc : TypeId × Value → H} {P : Program} {w : World}
theorem mt_of {e ei ti : TypeId} {f0 f1 f2 f3 : Field} {n : Nat} {cs : List Value} {y : DataW H × List MemPlace} (he : P.underlying e = some (.struct #[f0, f1, f2, f3])) (t0 : f0.type = ti) (t1 : f1.type = ti) (t2 : f2.type = ei) (t3 : f3.type = ei) (o0 : f0.offset = 0) (o1 : f1.offset = 1) (o2 : f2.offset = 2) (o3 : f3.offset = 3)
    (hC : P.cellsOf e = 4) (ct : P.cellsOf ti = 1) (hi : P.underlying ti = some (.slice ei)) (hei : P.underlying ei = some (.int .i64)) (cei : P.cellsOf ei = 1) (h : DataW.trod enc P w 0 (fun _ => true) true n e cs = some y) : ∃ m : Mt, cs = Mt.cells m ∧ Mfit w m := by
  obtain ⟨ys, n', _, _, hlen, hyl, hf⟩ := DataW.trod_struct he h
  rw [hC] at hlen
  match cs, hlen with
  | [v0, v1, v2, v3], _ =>
    match ys, hyl with
    | [y0, y1, y2, y3], _ =>
      have h0 := hf 0 f0 rfl
      have h1 := hf 1 f1 rfl
      have h2 := hf 2 f2 rfl
      have h3 := hf 3 f3 rfl
      rw [o0, t0, ct] at h0
      rw [o1, t1, ct] at h1
      rw [o2, t2, cei] at h2
      rw [o3, t3, cei] at h3
      obtain ⟨A0, c0, l0, e0, a0, b0, r0⟩ := int_of hi hei cei h0
      obtain ⟨A1, c1, l1, e1, a1, b1, r1⟩ := int_of hi hei cei h1
      obtain ⟨x2, e2, _, _⟩ := DataW.trod_int hei h2
      obtain ⟨x3, e3, _, _⟩ := DataW.trod_int hei h3
      simp at e0 e1 e2 e3
      exact ⟨⟨A0, c0, l0, A1, c1, l1, x2, x3⟩, by simp [Mt.cells, e0, e1, e2, e3], ⟨r0, a0, b0, r1, a1, b1⟩⟩
end
theorem mt_row {H : Type} {enc : TypeId × Value → H} {w : World} (n : Nat) (cs : List Value) (y : DataW H × List MemPlace) (h : DataW.trod enc Try.prog w 0 (fun _ => true) true n 27 cs = some y) : ∃ m : Mt, cs = Mt.cells m ∧ Mfit w m :=
  mt_of Try.underlying27 rfl rfl rfl rfl rfl rfl rfl rfl cMt cSl Try.underlying22 Try.underlying3 cInt h
end Go.Proofs.Ytibcjkpfpiamkab
namespace Go.Proofs.Ytibcjkpfpiamkab
open Go.RowKit
set_option linter.unusedVariables false

theorem ply_le (G : Gm) (man ducks : List Int) (f m : Int) : (plyL G man ducks f m).length ≤ 101 := by
  unfold plyL
  split
  · rename_i h
    have := (ply_ok h).2.2.2.2
    rw [wayK_len]
    omega
  · simp
end Go.Proofs.Ytibcjkpfpiamkab
namespace Go.Proofs.Ytibcjkpfpiamkab
open Go.RowKit
set_option linter.unusedVariables false

theorem pos_shift (G : Gm) (man ducks : List Int) (p : Nat) : ∀ k, posN G man ducks p (k + 1) = posN G man ducks (posN G man ducks p 1) k
  | 0 => rfl
  | k + 1 => by
    show (nxF G man ducks (posN G man ducks p (k + 1))).toNat = _
    rw [pos_shift G man ducks p k]
    rfl
section
variable {G : Gm} {goal p : Nat}
theorem lv_first (H : Ok G) (h : rkI G goal p = 0) : goal.testBit p = true := by
  have := (rk_some (k := 0) h).1
  rw [lv_one H] at this
  exact this
theorem nx_mem (H : Ok G) {man ducks : List Int} (hp : p < G.own.length) {x : Int} (hx : (if G.who p = 1 then ducks.getD p 0 else man.getD p 0) = x) (hm : x ∈ G.row p) : nxF G man ducks p = x := by
  unfold nxF
  rw [hx]
  exact if_pos hm
/-- With the plan of the man the goal is met in as many moves as the rank says. -/
theorem plan_meets (H : Ok G) (hg : goal < 2 ^ G.own.length) (ducks : List Int) : ∀ (m p : Nat), p < G.own.length → rkI G goal p = (m : Int) → ∃ k, k ≤ m ∧ goal.testBit (posN G (plL G 0 (suP (rkL G goal))) ducks p k) = true := by
  intro m
  induction m using Nat.strongRecOn with
  | _ m ih =>
    intro p hp hr
    cases m with
    | zero => exact ⟨0, Nat.le_refl _, lv_first H hr⟩
    | succ m =>
      have hnx := nx_nat H (man := plL G 0 (suP (rkL G goal))) (ducks := ducks) hp
      have hin := nx_in H (man := plL G 0 (suP (rkL G goal))) (ducks := ducks) hp
      have key : 0 ≤ rkI G goal (nxF G (plL G 0 (suP (rkL G goal))) ducks p).toNat ∧ rkI G goal (nxF G (plL G 0 (suP (rkL G goal))) ducks p).toNat ≤ (m : Int) := by
        rcases H.who hp with hw | hw
        · obtain ⟨t, h1, h2, h3, h4, h5⟩ := man_yes H hg hp hw (by omega)
          have e := nx_mem H (man := plL G 0 (suP (rkL G goal))) (ducks := ducks) (p := p) (x := (t : Int)) hp (by
            rw [hw, if_neg (by decide), List.getD_eq_getElem?_getD, plL_at hp, h1]; rfl) h3
          rw [e, Int.toNat_natCast]
          omega
        · have h2 := rk_some (k := m + 1) hr
          have e : lv G goal (m + 1 + 1) = goal ||| fcN G 0 (lv G goal (m + 1)) := rfl
          rw [e, Nat.testBit_or, fcN_at hp] at h2
          have hgoal : goal.testBit p = false := by
            cases hb : goal.testBit p
            · rfl
            · rw [goal_sub H m p hb] at h2; cases h2.2
          rw [hgoal, Bool.false_or] at h2
          have h3 := h2.1
          unfold fcB at h3
          rw [hw, if_neg (by decide)] at h3
          have := List.all_eq_true.1 h3 _ hin
          rw [rk_iff hg] at this
          exact this
      obtain ⟨q, hq⟩ := Int.eq_ofNat_of_zero_le key.1
      obtain ⟨k, hk, hb⟩ := ih q (by omega) _ hnx.2 hq
      refine ⟨k + 1, by omega, ?_⟩
      rw [pos_shift]
      exact hb
/-- With the plan of the ducks they keep free. -/
theorem flee_keeps (H : Ok G) (hg : goal < 2 ^ G.own.length) (man : List Int) (hp : p < G.own.length) (hr : rkI G goal p < 0) : ∀ k, rkI G goal (posN G man (plL G 1 (suF (rkL G goal))) p k) < 0
  | 0 => hr
  | k + 1 => by
    have ih := flee_keeps H hg man hp hr k
    have hq := pos_lt H (man := man) (ducks := plL G 1 (suF (rkL G goal))) hp k
    show rkI G goal (nxF G man (plL G 1 (suF (rkL G goal))) (posN G man (plL G 1 (suF (rkL G goal))) p k)).toNat < 0
    generalize posN G man (plL G 1 (suF (rkL G goal))) p k = q at *
    have hin := nx_in H (man := man) (ducks := plL G 1 (suF (rkL G goal))) hq
    rcases H.who hq with hw | hw
    · have hnw : ¬ (wonN G goal).testBit q = true := by
        show ¬ (lv G goal G.own.length).testBit q = true
        rw [rk_won hg]; omega
      rw [← lv_fix (G := G) hg, Nat.testBit_or, fcN_at hq, Bool.not_eq_true, Bool.or_eq_false_iff] at hnw
      have h3 := hnw.2
      unfold fcB at h3
      rw [if_pos hw] at h3
      unfold hit at h3
      rw [List.any_eq_false] at h3
      have := h3 _ hin
      have h4 := rk_none (G := G) (goal := goal) hg this
      omega
    · obtain ⟨t, h1, h2, h3, h4⟩ := duck_yes H hg hq hw ih
      have e := nx_mem H (man := man) (ducks := plL G 1 (suF (rkL G goal))) (p := q) (x := (t : Int)) hq (by
        rw [hw, if_pos rfl, List.getD_eq_getElem?_getD, plL_at hq, h1]; rfl) h3
      rw [e, Int.toNat_natCast]
      exact h4
theorem free_goal (H : Ok G) (hg : goal < 2 ^ G.own.length) (hr : rkI G goal p < 0) : goal.testBit p = false := by
  cases hb : goal.testBit p
  · rfl
  · have h1 : (lv G goal 1).testBit p = true := by rw [lv_one H]; exact hb
    rw [rk_iff hg] at h1
    omega
end
theorem ply_01 {G : Gm} {man ducks : List Int} {f m : Int} (h : gE G = 0) : plyE G man ducks f m = 0 ∨ plyE G man ducks f m = 1 := by
  rw [ply_val h]
  split
  · exact .inl rfl
  · exact .inr rfl
def hitK (L X : List Int) (k : Nat) : Bool := (X.take k).any fun d => decide (d ∈ L)
theorem hitK_next {L X : List Int} {k : Nat} {d : Int} (h : X[k]? = some d) : hitK L X (k + 1) = (hitK L X k || decide (d ∈ L)) := by
  unfold hitK
  rw [List.take_add_one, h, List.any_append]
  simp
theorem way_hit {G : Gm} {L man ducks : List Int} {p m : Nat} (hs : setL G.own.length L = true) (h16 : G.own.length ≤ 16) (h : ∃ k, k ≤ m ∧ (gatN L).testBit (posN G man ducks p k) = true) : hitK L (wayK G man ducks p m) (wayK G man ducks p m).length = true := by
  obtain ⟨k, hk, hb⟩ := h
  rw [gat_bit hs (by omega), decide_eq_true_eq] at hb
  unfold hitK
  rw [List.take_length, List.any_eq_true]
  exact ⟨_, List.mem_map.2 ⟨k, List.mem_range.2 (by omega), rfl⟩, decide_eq_true hb⟩
theorem way_miss {G : Gm} {L man ducks : List Int} {p m : Nat} (hs : setL G.own.length L = true) (h16 : G.own.length ≤ 16) (h : ∀ k, (gatN L).testBit (posN G man ducks p k) = false) {k : Nat} {d : Int} (hd : (wayK G man ducks p m)[k]? = some d) : decide (d ∈ L) = false := by
  obtain ⟨j, hj, rfl⟩ := List.mem_map.1 (List.mem_of_getElem? hd)
  rw [← gat_bit hs (by omega)]
  exact h j
/-- With the plan of the man: a way that is played hits. -/
theorem forces_hit {G : Gm} {L ducks : List Int} {p m : Nat} (h : askE G L = 0) (hp : p < G.own.length) (hr : rkI G (gatN L) p = (m : Int)) (hE : plyE G (plaL G L) ducks p m = 0) : hitK L (plyL G (plaL G L) ducks p m) (plyL G (plaL G L) ducks p m).length = true := by
  obtain ⟨hG, hs⟩ := askE_zero h
  have H := gE_zero hG
  have h16 := H.le
  have e1 : plyL G (plaL G L) ducks p m = wayK G (plaL G L) ducks p m := by unfold plyL; rw [if_pos hE]; simp
  rw [e1]
  have e2 : plaL G L = plL G 0 (suP (rkL G (gatN L))) := if_pos h
  rw [e2]
  exact way_hit hs h16 (plan_meets H (gat_lt hs (by omega)) ducks m p hp hr)
theorem forces_miss {G : Gm} {L man : List Int} {p : Nat} {m : Int} (h : askE G L = 0) (hp : p < G.own.length) (hr : rkI G (gatN L) p < 0) {k : Nat} {d : Int} (hd : (plyL G man (fleL G L) p m)[k]? = some d) : decide (d ∈ L) = false := by
  obtain ⟨hG, hs⟩ := askE_zero h
  have H := gE_zero hG
  have h16 := H.le
  have hg : gatN L < 2 ^ G.own.length := gat_lt hs (by omega)
  unfold plyL at hd
  split at hd
  · rw [Int.toNat_natCast, show fleL G L = plL G 1 (suF (rkL G (gatN L))) from if_pos h] at hd
    exact way_miss hs h16 (fun k => free_goal H hg (flee_keeps H hg man hp hr k)) hd
  · simp at hd
theorem forces_ways (G : Gm) (L : List Int) (f : Int) : (¬ askE G L = 0) ∨ (askE G L = 0 ∧ (f < 0 ∨ (G.own.length : Int) ≤ f)) ∨ (askE G L = 0 ∧ ∃ p m : Nat, f = (p : Int) ∧ p < G.own.length ∧ rkI G (gatN L) p = (m : Int)) ∨ (askE G L = 0 ∧ ∃ p : Nat, f = (p : Int) ∧ p < G.own.length ∧ rkI G (gatN L) p < 0) := by
  by_cases h : askE G L = 0
  · by_cases h2 : f < 0 ∨ (G.own.length : Int) ≤ f
    · exact .inr (.inl ⟨h, h2⟩)
    · obtain ⟨p, rfl⟩ := Int.eq_ofNat_of_zero_le (show 0 ≤ f by omega)
      rcases Int.lt_or_le (rkI G (gatN L) p) 0 with h3 | h3
      · exact .inr (.inr (.inr ⟨h, p, rfl, by omega, h3⟩))
      · obtain ⟨m, hm⟩ := Int.eq_ofNat_of_zero_le h3
        exact .inr (.inr (.inl ⟨h, p, m, rfl, by omega, hm⟩))
  · exact .inl h
end Go.Proofs.Ytibcjkpfpiamkab
