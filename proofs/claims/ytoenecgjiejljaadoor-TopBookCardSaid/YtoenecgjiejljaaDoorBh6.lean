/-
  The first line of a book in the program: the walks of head.text, sheet.text, headOf. Conditions: sizes; the tables that a row lists.
-/
import Derived.Test.YtoenecgjiejljaaDoorBh5
import Derived.Lib.QuietBelow
import Derived.BigQuiet
namespace Go.Proofs.YtoenecgjiejljaaDoor
open Go.RowKit
set_option linter.unusedVariables false

theorem results_row_tmp {P : Program} {fn : Func} {p u : Tmp} {ty : TypeId} (h : fn.results = #[.cell p ty, .tmp u]) (tmps : Array Value) (w : World) (g : Nat) (t : TypeId) (cs : Array Value) (fr : Nat × Nat) (d : TypeDesc)
    (hp : tmps.getD p undef = .pointer (some ⟨g, 0, none⟩)) (hg : w.heap[g]? = some (.cells cs t fr))
    (hu : P.underlying ty = some d) (hd : (match d with | .struct _ | .array _ _ => true | _ => false) = true) (hi : (P.info? ty).map (·.size) = some cs.size) :
    (results fn tmps).run P w = .ok (.tuple #[.agg cs, tmps.getD u undef]) w := by
  have hp' : tmps[p]?.getD undef = .pointer (some ⟨g, 0, none⟩) := by simpa using hp
  simp [results, h, hp', asAddr, run_loadVar_row w g t ty cs fr d hg hu hd hi]
theorem sizeHead : (Tryd.prog.info? 107).map (·.size) = some 2 := by kernel_rfl
theorem canon_str (n x : Nat) : (((⟨#[112, 97, 103, 101, 115, 32]⟩ : ByteArray) ++ sL (D n)) ++ (⟨#[32]⟩ : ByteArray)) ++ sL (D x) = sL (canon n x) := by
  have e1 : (⟨#[112, 97, 103, 101, 115, 32]⟩ : ByteArray) = sL pgW := rfl
  have e2 : (⟨#[32]⟩ : ByteArray) = sL [32] := rfl
  rw [e1, e2, sL_app, sL_app, sL_app]
  unfold canon
  simp
set_option maxRecDepth 4000 in
set_option maxHeartbeats 2000000 in
theorem text_any (n x : Nat) (w : World) (hn : n < 10000000000) (hx : x < 10000000000) (hT : Tb w) :
    Calls Tryd.prog 91 #[.agg #[.int .i64 n, .int .i64 x]] w fun e w' => e = .returned (.string (sL (canon n x))) ∧ Below w.heap.size w w' := by
  obtain ⟨W, hW, k0, s0, b0⟩ := one_blk w #[.int .i64 n, .int .i64 x] 107
  have c0 : W.cell? ⟨w.heap.size, 0, none⟩ = some (.int .i64 n) := by rw [blk_cell k0]; rfl
  have c1 : W.cell? ⟨w.heap.size, 1, none⟩ = some (.int .i64 x) := by rw [blk_cell k0]; rfl
  have g0 := fun dd os => cell_regrown c0 dd os
  have g1 := fun dd os => cell_regrown c1 dd os
  have B0 := Lib.hid b0
  have HT := Lib.hid (hT.up b0)
  have H1 := Lib.hid (fun w h => Itoa_any n hn w h)
  have H2 := Lib.hid (fun w h => Itoa_any x hx w h)
  have HP := Lib.hid (canon_str n x)
  have l1 := D_len 9 n (by omega)
  have l2 := D_len 9 x (by omega)
  have z1 : (sL (D n)).size ≤ 100 := by rw [sL_size]; omega
  have z2 : (sL (D x)).size ≤ 100 := by rw [sL_size]; omega
  generalize sL (D n) = a at *
  generalize sL (D x) = b at *
  have z3 : (⟨#[112, 97, 103, 101, 115, 32]⟩ : ByteArray).size = 6 := rfl
  have z4 : (⟨#[32]⟩ : ByteArray).size = 1 := rfl
  clear l1 l2 k0 s0 b0 hT hn hx
  go_enter Tryd.func91, Tryd.ntmps91
  go_wp2_with fail
  refine wp_region_quiet_below (by kernel_rfl) (by kernel_rfl) ?_
  repeat (go_big_quiet_step (first | (with_reducible exact Calls.regrown_of (H1.out _ (HT.out.up (below_regrown _ _ _)))) | (with_reducible exact Calls.regrown_of (H2.out _ (HT.out.up (below_regrown _ _ _))))))
  refine wpQuiet_nil ?_
  intro _ hw'
  obtain ⟨⟨dq, osq⟩, hw''⟩ := hw'
  subst hw''
  have B1 := Lib.hid (B0.out.trans ((below_regrown W dq osq).mono B0.out.size))
  go_wp2_with fail
  go_ret
  exact ⟨by rw [← HP.out]; rfl, B1.out⟩
theorem stext_any (s : ByteArray) (w : World) : Calls Tryd.prog 187 #[.string s] w fun e w' => e = .returned (.string s) ∧ w = w' := by
  go_enter Tryd.func187, Tryd.ntmps187
  go_wp2_with fail
  go_ret
  exact ⟨rfl, rfl⟩
/-- What headOf returns. -/
def HoPost (l : List UInt8) (w : World) (e : Ending) (w' : World) : Prop :=
  (∃ a c, hdO l = none ∧ e = .returned (.tuple #[.agg #[.int .i64 a, .int .i64 c], .bool false]) ∧ Below w.heap.size w w') ∨ (∃ n x : Nat, hdO l = some (n, x) ∧ e = .returned (.tuple #[.agg #[.int .i64 n, .int .i64 x], .bool true]) ∧ Below w.heap.size w w')
theorem trim_pg (l : List UInt8) : (Lib.hasPrefix l pgW = true ∧ ∃ v, l = pgW ++ v ∧ Lib.trimPrefix l pgW = v) ∨ (Lib.hasPrefix l pgW = false ∧ hdO l = none ∧ Lib.trimPrefix l pgW = l) := by
  cases h : Lib.hasPrefix l pgW with
  | true =>
    obtain ⟨v, hv⟩ := List.isPrefixOf_iff_prefix.1 h
    refine .inl ⟨rfl, v, hv.symm, ?_⟩
    unfold Lib.trimPrefix
    rw [h, if_pos rfl, ← hv, List.drop_left]
  | false =>
    refine .inr ⟨rfl, hdO_none.2 fun n x hh => ?_, by unfold Lib.trimPrefix; rw [h]; rfl⟩
    have : Lib.hasPrefix l pgW = true := List.isPrefixOf_iff_prefix.2 ⟨D n ++ ([32] ++ D x), by rw [hh.2.2]; rfl⟩
    rw [h] at this
    cases this
theorem hd_nosp {v : List UInt8} (h : (32 : UInt8) ∉ v) : hdO (pgW ++ v) = none := hdO_none.2 fun n x hh => by
  have := List.append_cancel_left (show pgW ++ v = pgW ++ (D n ++ ([32] ++ D x)) from hh.2.2)
  exact h (by rw [this]; simp)
theorem hd_split {f r : List UInt8} {n x : Nat} (hf : (32 : UInt8) ∉ f) (h : IsHd (pgW ++ (f ++ 32 :: r)) n x) : f = D n ∧ r = D x := by
  have h1 := List.append_cancel_left (show pgW ++ (f ++ 32 :: r) = pgW ++ (D n ++ ([32] ++ D x)) from h.2.2)
  exact split_eq hf (fun hm => no_space hm rfl) h1
theorem sp_cases (v : List UInt8) : (32 : UInt8) ∉ v ∨ ∃ f r, v = f ++ 32 :: r ∧ (32 : UInt8) ∉ f := by
  induction v with
  | nil => exact .inl (by simp)
  | cons c t ih =>
    by_cases hc : c = 32
    · exact .inr ⟨[], t, by rw [hc]; rfl, by simp⟩
    · rcases ih with ih | ⟨f, r, h1, h2⟩
      · exact .inl (by intro hm; rcases List.mem_cons.1 hm with e | hm; exact hc e.symm; exact ih hm)
      · exact .inr ⟨c :: f, r, by rw [h1]; rfl, by intro hm; rcases List.mem_cons.1 hm with e | hm; exact hc e.symm; exact h2 hm⟩
end Go.Proofs.YtoenecgjiejljaaDoor
