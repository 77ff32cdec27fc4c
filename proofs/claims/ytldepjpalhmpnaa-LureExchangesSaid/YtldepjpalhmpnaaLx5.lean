/-
  The walk of the reference's Same where both games are one. Conditions: the games can be read, their lists are not long.
-/
import Derived.Test.YtldepjpalhmpnaaLx4
import Derived.Test.YtldepjpalhmpnaaLu15
import Derived.Deep.QuietTactic
import Derived.WalkSmall
namespace Go.Proofs.Ytldepjpalhmpnaa
open Go.RowKit
set_option linter.unusedVariables false

theorem qm {P : Program} {f : FuncId} {args : Array Value} {w : World} {n : Nat} {v : Value} (h : Calls P f args (w.drewN n) fun e w' => e = .returned v ∧ ∃ m, w' = (w.drewN n).drewN m) :
    Calls P f args (w.drewN n) fun e w'' => e = .returned v ∧ ∃ m, w'' = w.drewN m := h.mono fun _ _ ⟨he, m, hm⟩ => ⟨he, n + m, by rw [hm, World.drewN_drewN]⟩
theorem drawn {P : Program} {f : FuncId} {args : Array Value} {w : World} {v : Value} (h : Calls P f args w fun e w' => e = .returned v ∧ ∃ m, w' = w.drewN m) :
    Calls P f args w fun e w' => e = .returned v ∧ Below w.heap.size w w' := h.mono fun _ _ ⟨he, m, hm⟩ => ⟨he, by rw [hm]; exact ⟨rfl, rfl, rfl, Nat.le_refl _, fun _ _ => rfl⟩⟩
set_option maxRecDepth 4000 in
set_option maxHeartbeats 1600000 in
theorem rSame_same (g g' : Gv) (w : World) (hr : RdG w w.heap.size g) (hr' : RdG w w.heap.size g') (hG : g'.G = g.G) (n100 : g.own.length ≤ 100) (r100 : g.rs.length ≤ 100) (rr100 : ∀ r ∈ g.rs, r.l.length ≤ 100) :
    Calls Try.prog 9 #[g.v, g'.v] w fun e w' => e = .returned (.bool true) ∧ Below w.heap.size w w' := by
  obtain ⟨W, hW, p0, p1, hz, hb, hr1⟩ := box_game w g 25 hr
  obtain ⟨W2, hW2, p0', p1', hz', hb', hr1'⟩ := box_game W g' 25 (hr'.up hb)
  have q0 := cell_keep p0 hb' hz
  have q1 := cell_keep p1 hb' hz
  have R1 := Lib.hid (hr1.up hb')
  have R2 := Lib.hid hr1'
  have B2 := Lib.hid (hb.trans (hb'.mono (Nat.le_of_lt hz)))
  have Z := Lib.hid hz'
  have Z1 := Lib.hid hz
  clear hr hr' hr1 hr1' p0 p1 hb hb'
  unfold Gv.v
  obtain ⟨A0, c0, own, A1, c1, rs⟩ := g
  obtain ⟨A0', c0', own', A1', c1', rs'⟩ := g'
  have hown : own' = own := congrArg Gm.own hG
  have hm : rs'.map (·.l) = rs.map (·.l) := congrArg Gm.mv hG
  have hlen : rs'.length = rs.length := by have := congrArg List.length hm; simpa using this
  have HM := Lib.hid hm
  have HLN := Lib.hid hlen
  subst hown
  simp only at *
  rw [hlen] at hW2 p1' ⊢
  clear hG hm hlen
  have HS := Lib.hid (drawn (SameInts_same A0 A0' c0 c0' own' _ _ W2 rfl rfl R1.out.o R2.out.o (by omega)))
  go_enter Try.func9, Try.ntmps9
  go_wp2_with fail
  refine HS.out.mono ?_
  rintro e w3 ⟨rfl, hb3⟩
  have HZ := Z.out
  have HZ1 := Z1.out
  have q0 := cell_keep q0 hb3 (by omega)
  have q1 := cell_keep q1 hb3 (by omega)
  have p0' := cell_keep p0' hb3 (by omega)
  have p1' := cell_keep p1' hb3 (by omega)
  have HB3 := Lib.hid hb3
  clear hb3
  go_wp2_with fail
  go_loopw [5] (fun i wr => ∃ (k : Nat), k ≤ rs.length ∧ i = .int .i64 k ∧ Below w3.heap.size w3 wr) (fun i _ => rs.length - (intOf i).toNat)
  case atStart => exact ⟨0, by omega, rfl, Below.refl _ _⟩
  case round =>
    obtain ⟨k, hk, rfl, hbl⟩ := hrel
    have BL := Lib.hid hbl
    have HZ3 := Lib.hid (show W2.heap.size ≤ w3.heap.size from HB3.out.size)
    have BW := Lib.hid (HB3.out.trans (hbl.mono HB3.out.size))
    have q0 := cell_keep q0 hbl (by have := HZ3.out; omega)
    have q1 := cell_keep q1 hbl (by have := HZ3.out; omega)
    have p0' := cell_keep p0' hbl (by have := HZ3.out; omega)
    have p1' := cell_keep p1' hbl (by have := HZ3.out; omega)
    have Ra := Lib.hid (R1.out.up BW.out)
    have Rb := Lib.hid (R2.out.up BW.out)
    clear hbl
    by_cases hlt : k < rs.length
    · obtain ⟨b, o, A, c, l, rfl, hx, hcr, hrd⟩ := Ra.out.r.row k hlt
      obtain ⟨b', o', A', c', l', rfl, hx', hcr', hrd'⟩ := Rb.out.r.row k (by show k < rs'.length; have := HLN.out; omega)
      have hll : l' = l := by
        have h1 : (rs'.map (·.l))[k]? = (rs.map (·.l))[k]? := by rw [HM.out]
        have h2 : rs'[k]? = some ⟨A', c', l'⟩ := hx'.out
        have h3 : rs[k]? = some ⟨A, c, l⟩ := hx.out
        rw [List.getElem?_map, List.getElem?_map, h2, h3] at h1
        exact Option.some.inj h1
      subst hll
      have hl100 : l'.length ≤ 100 := rr100 _ (List.mem_of_getElem? hx.out)
      have C := Lib.hid (fun n => SameInts_same A A' c c' l' _ _ (wr.drewN n) rfl rfl hrd.out hrd'.out (by omega))
      go_wp2_with fail
      go_quiet ((go_at_call 13; exact qm (C.out _)))
      go_wp2_with fail
      go_roundw
      case rel => exact ⟨k + 1, by omega, by go_num, BL.out.trans ⟨rfl, rfl, rfl, Nat.le_refl _, fun _ _ => rfl⟩⟩
      case measure => simp [intOf]; omega
    · have b3 : decide ((k : Int) < (rs.length : Int)) = false := by rw [decide_eq_false_iff_not]; omega
      have b4 : decide (k < rs.length) = false := by rw [decide_eq_false_iff_not]; exact hlt
      go_wp2_with fail
      go_ret
      exact ⟨rfl, B2.out.trans (BW.out.mono (by omega))⟩
end Go.Proofs.Ytldepjpalhmpnaa
