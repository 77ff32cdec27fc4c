/-
  A line of a book in the program: the walk of cutLine. Conditions: sizes; the tables that a row lists.
-/
import Derived.Test.YtoenecgjiejljaaDoorBh7
namespace Go.Proofs.YtoenecgjiejljaaDoor
open Go.RowKit
set_option linter.unusedVariables false

/-- What cutLine returns. -/
def CtPost (t : List UInt8) (w : World) (e : Ending) (w' : World) : Prop :=
  Below w.heap.size w w' ∧
  (((lnO t = none ∨ ∃ f r, lnO t = some (f, r) ∧ pgl f = false) ∧ ∃ s, e = .returned (.tuple #[.nilIface, .string s])) ∨
   (∃ f r, ∃ n x : Nat, lnO t = some (f, r) ∧ pgl f = true ∧ hdO f = some (n, x) ∧ e = .returned (.tuple #[.iface 107 (.agg #[.int .i64 n, .int .i64 x]), .string (sL r)])) ∨
   (∃ f r, lnO t = some (f, r) ∧ pgl f = true ∧ hdO f = none ∧ e = .returned (.tuple #[.iface 179 (.string (sL f)), .string (sL r)])))
set_option maxRecDepth 4000 in
set_option maxHeartbeats 4000000 in
theorem cutLine_any (t : List UInt8) (w : World) (hl : t.length ≤ 9000) (hT : Tb w) : Calls Tryd.prog 137 #[.string (sL t)] w (CtPost t w) := by
  unfold CtPost
  have HT := Lib.hid hT
  clear hT
  cases hln : lnO t with
  | none =>
    have HC := Lib.hid (fun w => show Calls Tryd.prog 184 #[.string (sL t), .string ⟨#[10]⟩] w _ from Cut_miss t 10 (lnO_none.1 hln) w)
    generalize sL t = s at *
    clear hln
    go_enter Tryd.func137, Tryd.ntmps137
    go_wp2_with fail
    refine (HC.out w).mono ?_
    rintro e w' ⟨rfl, rfl⟩
    go_wp2_with fail
    go_ret2
    exact ⟨Below.refl _ _, .inl ⟨.inl (by first | rfl | trivial), _, rfl⟩⟩
  | some p =>
    obtain ⟨f, r⟩ := p
    obtain ⟨h1, h2⟩ := lnO_some.1 hln
    have hlen := lnO_len hln
    have HC := Lib.hid (fun w => show Calls Tryd.prog 184 #[.string (sL t), .string ⟨#[10]⟩] w fun e w' => e = .returned (.tuple #[.string (sL f), .string (sL r), .bool true]) ∧ ∃ m, w' = w.drewN m from by rw [h1]; exact Cut_hit f r 10 h2 (by rw [← h1]; exact hl) w)
    have HP := Lib.hid (fun w => IsPage_any (sL f) w (by rw [sL_size]; omega))
    rw [pgB_pgl, bl_sL] at HP
    have B0 := Lib.hid (fun m => bdDN (Below.refl w.heap.size w) m)
    have T0 := Lib.hid (fun m => HT.out.up (bdDN (Below.refl w.heap.size w) m))
    cases hp : pgl f
    · rw [hp] at HP
      generalize sL t = s at *
      obtain ⟨sf, hsf⟩ : ∃ sf, sL f = sf := ⟨_, rfl⟩
      rw [hsf] at HC HP
      generalize sL r = sr at *
      have HPF := Lib.hid hp
      clear hln h1 h2 hlen hp hsf
      go_enter Tryd.func137, Tryd.ntmps137
      go_wp2_with fail
      refine (HC.out w).mono ?_
      rintro e w' ⟨rfl, m, rfl⟩
      go_wp2_with fail
      refine (HP.out _).mono ?_
      rintro e w' ⟨rfl, rfl⟩
      go_wp2_with fail
      go_ret2
      exact ⟨B0.out m, .inl ⟨.inr ⟨f, r, rfl, HPF.out⟩, _, rfl⟩⟩
    · rw [hp] at HP
      have hf60 : f.length ≤ 60 := by
        unfold pgl at hp
        simp only [Bool.and_eq_true, decide_eq_true_eq] at hp
        exact hp.1.2
      have HH := Lib.hid (fun w h => headOf_any f w hf60 h)
      unfold HoPost at HH
      have HPF := Lib.hid hp
      generalize sL t = s at *
      obtain ⟨sf, hsf⟩ : ∃ sf, sL f = sf := ⟨_, rfl⟩
      obtain ⟨sr, hsr⟩ : ∃ sr, sL r = sr := ⟨_, rfl⟩
      have HSF := Lib.hid hsf
      have HSR := Lib.hid hsr
      rw [hsf] at HC HP HH
      rw [hsr] at HC
      clear hln h1 h2 hlen hp hsf hsr hf60
      go_enter Tryd.func137, Tryd.ntmps137
      go_wp2_with fail
      refine (HC.out w).mono ?_
      rintro e w' ⟨rfl, m, rfl⟩
      go_wp2_with fail
      refine (HP.out _).mono ?_
      rintro e w' ⟨rfl, rfl⟩
      have B1 := Lib.hid (B0.out m)
      have T1 := Lib.hid (T0.out m)
      generalize w.drewN m = w1 at *
      go_wp2_with fail
      refine (HH.out w1 T1.out).mono ?_
      rintro e w2 (⟨a, c, hn, rfl, hb⟩ | ⟨n, x, hn, rfl, hb⟩)
      · have B2 := Lib.hid (B1.out.trans (hb.mono B1.out.size))
        have HN := Lib.hid hn
        obtain ⟨W3, hW3, k3, s3, b3⟩ := one_blk w2 #[.int .i64 a, .int .i64 c] 107
        have c0 : W3.cell? ⟨w2.heap.size, 0, none⟩ = some (.int .i64 a) := by rw [blk_cell k3]; rfl
        have c1 : W3.cell? ⟨w2.heap.size, 1, none⟩ = some (.int .i64 c) := by rw [blk_cell k3]; rfl
        have B3 := Lib.hid (B2.out.trans (b3.mono B2.out.size))
        clear hb hn k3 b3
        go_wp2_with fail
        go_ret2
        exact ⟨B3.out, .inr (.inr ⟨f, r, rfl, HPF.out, HN.out, by rw [HSF.out, HSR.out]; rfl⟩)⟩
      · have B2 := Lib.hid (B1.out.trans (hb.mono B1.out.size))
        have HN := Lib.hid hn
        obtain ⟨W3, hW3, k3, s3, b3⟩ := one_blk w2 #[.int .i64 n, .int .i64 x] 107
        have c0 : W3.cell? ⟨w2.heap.size, 0, none⟩ = some (.int .i64 n) := by rw [blk_cell k3]; rfl
        have c1 : W3.cell? ⟨w2.heap.size, 1, none⟩ = some (.int .i64 x) := by rw [blk_cell k3]; rfl
        have B3 := Lib.hid (B2.out.trans (b3.mono B2.out.size))
        clear hb hn k3 b3
        go_wp2_with fail
        go_ret2
        exact ⟨B3.out, .inr (.inl ⟨f, r, n, x, rfl, HPF.out, HN.out, by rw [HSR.out]; rfl⟩)⟩
end Go.Proofs.YtoenecgjiejljaaDoor
