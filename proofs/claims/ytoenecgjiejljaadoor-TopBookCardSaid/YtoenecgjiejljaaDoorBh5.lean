/-
  The library's contracts in the words of books: Cut at one byte, CutPrefix, Atoi, Itoa; what a first line's words are. Conditions: sizes; the tables that a row lists.
-/
import Derived.Test.YtoenecgjiejljaaDoorShb
import Derived.Test.YtoenecgjiejljaaDoorBh4
import Derived.WalkSmall
import Derived.Lib.AppendIntMem
import Derived.Lib.LaidTab
namespace Go.Proofs.YtoenecgjiejljaaDoor
open Go.RowKit
set_option linter.unusedVariables false

theorem ib_some : ∀ {f r : List UInt8} {c : UInt8}, c ∉ f → Lib.indexByte (f ++ c :: r) c = (f.length : Int)
  | [], r, c, _ => by simp [Lib.indexByte]
  | b :: f, r, c, h => by
    have hb : (b == c) = false := beq_eq_false_iff_ne.2 fun e => h (by rw [e]; simp)
    have ih := ib_some (f := f) (r := r) (c := c) (fun hm => h (List.mem_cons_of_mem _ hm))
    show (if b == c then (0 : Int) else if Lib.indexByte (f ++ c :: r) c == -1 then -1 else Lib.indexByte (f ++ c :: r) c + 1) = _
    rw [hb, ih]
    have : ((f.length : Int) == -1) = false := beq_eq_false_iff_ne.2 (by omega)
    simp [this]
theorem ib_none : ∀ {l : List UInt8} {c : UInt8}, c ∉ l → Lib.indexByte l c = -1
  | [], c, _ => rfl
  | b :: l, c, h => by
    have hb : (b == c) = false := beq_eq_false_iff_ne.2 fun e => h (by rw [e]; simp)
    have ih := ib_none (l := l) (c := c) (fun hm => h (List.mem_cons_of_mem _ hm))
    show (if b == c then (0 : Int) else if Lib.indexByte l c == -1 then -1 else Lib.indexByte l c + 1) = _
    rw [hb, ih]
    rfl
theorem Index1_any (l : List UInt8) (c : UInt8) (w : World) : Calls Tryd.prog 199 #[.string (sL l), .string ⟨#[c]⟩] w fun e w' => e = .returned (.int .i64 (Lib.indexByte l c)) ∧ w = w' :=
  (Any.stringslite_Index_one Tryd.lays219 (sL l) c w).mono fun e w' ⟨h1, h2⟩ => ⟨h1, h2.symm⟩
theorem ext_cut (f r : List UInt8) (c : UInt8) : (sL (f ++ c :: r)).extract 0 f.length = sL f ∧ (sL (f ++ c :: r)).extract (f.length + 1) (sL (f ++ c :: r)).size = sL r := by
  refine ⟨bl_inj ?_, bl_inj ?_⟩
  · rw [bl_extract, bl_sL, bl_sL, List.drop_zero, Nat.sub_zero, List.take_left]
  · rw [bl_extract, bl_sL, bl_sL, sL_size]
    have e1 : (f ++ [c]).length = f.length + 1 := by simp
    have e2 : (f ++ c :: r).length = f.length + 1 + r.length := by simp; omega
    have e3 : f ++ c :: r = (f ++ [c]) ++ r := by simp
    rw [e2, e3, ← e1, List.drop_left, e1, List.take_of_length_le (by omega)]
set_option maxHeartbeats 1000000 in
theorem Cut_hit (f r : List UInt8) (c : UInt8) (h : c ∉ f) (hs : (f ++ c :: r).length ≤ 9000) (w : World) :
    Calls Tryd.prog 184 #[.string (sL (f ++ c :: r)), .string ⟨#[c]⟩] w fun e w' => e = .returned (.tuple #[.string (sL f), .string (sL r), .bool true]) ∧ ∃ m, w' = w.drewN m := by
  have HI := Lib.hid (fun w => Index1_any (f ++ c :: r) c w)
  rw [ib_some h] at HI
  obtain ⟨e1, e2⟩ := ext_cut f r c
  have hz : (sL (f ++ c :: r)).size = f.length + 1 + r.length := by rw [sL_size]; simp; omega
  rw [show (f ++ c :: r).length = f.length + 1 + r.length by simp; omega] at hs
  have HIn : ∀ w, Calls Tryd.prog 204 #[.string (sL (f ++ c :: r)), .string ⟨#[c]⟩] w fun e w' => e = .returned (.tuple #[.string (sL f), .string (sL r), .bool true]) ∧ ∃ m, w' = w.drewN m := by
    intro w
    generalize sL (f ++ c :: r) = s at *
    generalize f.length = m at *
    have b0 : (0 : Int) ≤ (m : Int) := by omega
    have b1 : (m : Int) ≤ (s.size : Int) := by omega
    have b2 : (m : Int) + 1 ≤ (s.size : Int) := by omega
    have b3 : (0 : Int) ≤ (m : Int) + 1 := by omega
    have b4 : ((m : Int) + 1).toNat = m + 1 := by omega
    have HQ := Lib.hid (wr64 (x := (m : Int) + 1) (by omega) (by omega))
    have HQ2 := Lib.hid (show IntKind.i64.wrap ((m : Int) + 1) = (m : Int) + 1 by rw [IntKind.wrap_i64]; omega)
    have hz1 : (⟨#[c]⟩ : ByteArray).size = 1 := rfl
    clear hz hs h
    have q1 := HQ.out
    have q1' := HQ2.out
    go_enter Tryd.func204, Tryd.ntmps204
    go_wp2_with fail
    refine (HI.out w).mono ?_
    rintro e w' ⟨rfl, rfl⟩
    go_wp2_with fail
    go_quiet (fail)
    go_wp2_with fail
    go_ret3
    exact ⟨rfl, _, rfl⟩
  have HC := Lib.hid HIn
  generalize sL (f ++ c :: r) = s at *
  generalize sL f = x at *
  generalize sL r = y at *
  clear HIn e1 e2 hz hs h HI
  go_enter Tryd.func184, Tryd.ntmps184
  go_wp2_with fail
  refine (HC.out w).mono ?_
  rintro e w' ⟨rfl, m, rfl⟩
  go_wp2_with fail
  go_ret3
  exact ⟨rfl, m, rfl⟩
set_option maxHeartbeats 1000000 in
theorem Cut_miss (l : List UInt8) (c : UInt8) (h : c ∉ l) (w : World) :
    Calls Tryd.prog 184 #[.string (sL l), .string ⟨#[c]⟩] w fun e w' => e = .returned (.tuple #[.string (sL l), .string ⟨#[]⟩, .bool false]) ∧ w = w' := by
  have HI := Lib.hid (fun w => Index1_any l c w)
  rw [ib_none h] at HI
  have HIn : ∀ w, Calls Tryd.prog 204 #[.string (sL l), .string ⟨#[c]⟩] w fun e w' => e = .returned (.tuple #[.string (sL l), .string ⟨#[]⟩, .bool false]) ∧ w = w' := by
    intro w
    generalize sL l = s at *
    clear h
    go_enter Tryd.func204, Tryd.ntmps204
    go_wp2_with fail
    refine (HI.out w).mono ?_
    rintro e w' ⟨rfl, rfl⟩
    go_wp2_with fail
    go_ret3
    exact ⟨rfl, rfl⟩
  have HC := Lib.hid HIn
  generalize sL l = s at *
  clear HIn h HI
  go_enter Tryd.func184, Tryd.ntmps184
  go_wp2_with fail
  refine (HC.out w).mono ?_
  rintro e w' ⟨rfl, rfl⟩
  go_wp2_with fail
  go_ret3
  exact ⟨rfl, rfl⟩
theorem CutPrefix_any (l p : List UInt8) (w : World) : Calls Tryd.prog 205 #[.string (sL l), .string (sL p)] w fun e w' => e = .returned (.tuple #[.string (sL (Lib.trimPrefix l p)), .bool (Lib.hasPrefix l p)]) ∧ w = w' :=
  (Any.strings_CutPrefix Tryd.lays103 (sL l) (sL p) w).mono fun e w' ⟨h1, h2⟩ => ⟨h1, h2.symm⟩
/-- What the walks read of the program's variables. -/
structure Tb (w : World) : Prop where
  tab : Lib.TabIs Tryd.prog w "internal/strconv.uint64pow10" .u64 Lib.pow10Tab
  es : ∃ ev, w.cell? ⟨8, 0, none⟩ = some ev ∧ (ev = .nilIface ∨ ∃ te pe, ev = .iface te pe)
  er : ∃ ev, w.cell? ⟨9, 0, none⟩ = some ev ∧ (ev = .nilIface ∨ ∃ te pe, ev = .iface te pe)
  lt : 3 < w.heap.size ∧ 8 < w.heap.size ∧ 9 < w.heap.size
theorem Tb.up {w w' : World} (h : Tb w) (hb : Below w.heap.size w w') : Tb w' := by
  obtain ⟨l1, l2, l3⟩ := h.lt
  refine ⟨var?_below hb (g := 3) (by kernel_rfl) l1 h.tab, ?_, ?_, Nat.lt_of_lt_of_le l1 hb.size, Nat.lt_of_lt_of_le l2 hb.size, Nat.lt_of_lt_of_le l3 hb.size⟩
  · obtain ⟨ev, h1, h2⟩ := h.es
    exact ⟨ev, (hb.cell (p := ⟨8, 0, none⟩) l2).trans h1, h2⟩
  · obtain ⟨ev, h1, h2⟩ := h.er
    exact ⟨ev, (hb.cell (p := ⟨9, 0, none⟩) l3).trans h1, h2⟩
theorem Itoa_any (n : Nat) (hn : n < 10000000000) (w : World) (h : Tb w) : Calls Tryd.prog 60 #[.int .i64 n] w fun e w' => e = .returned (.string (sL (D n))) ∧ Below w.heap.size w w' := by
  refine (Any.strconv_Itoa Tryd.lays171 (n : Int) (by omega) (by omega) w h.tab).mono ?_
  rintro e w' ⟨h1, k, os, rfl⟩
  refine ⟨h1.trans ?_, ?_⟩
  · have : Lib.itoa (n : Int) = D n := by unfold Lib.itoa; rw [if_neg (by omega)]; rfl
    rw [this]; rfl
  · exact Lib.below_grow _ w (Nat.le_refl _) k os
/-- How Atoi ends. -/
theorem Atoi_any (l : List UInt8) (hl : l.length ≤ 9000) (w : World) (h : Tb w) : Calls Tryd.prog 206 #[.string (sL l)] w fun e w' => (∃ v, Lib.atoiAll l = .ok v ∧ e = .returned (.tuple #[.int .i64 v, .nilIface]) ∧ Below w.heap.size w w') ∨ ((∀ v, Lib.atoiAll l ≠ .ok v) ∧ ∃ v ty p, e = .returned (.tuple #[.int .i64 v, .iface ty (.pointer p)]) ∧ Below w.heap.size w w') := by
  cases ha : Lib.atoiAll l with
  | ok v =>
    refine (Any.strconv_Atoi_ok Tryd.lays172 (sL l) (by rw [sL_size]; omega) v ha w).mono ?_
    rintro e w' ⟨h1, h2⟩
    refine .inl ⟨v, rfl, h1, ?_⟩
    rcases h2 with rfl | ⟨t, rfl⟩
    · exact Below.refl _ _
    · exact Lib.bytesWorld_below _ _ _
  | «syntax» =>
    obtain ⟨ev, h1, h2⟩ := h.es
    refine (Any.strconv_Atoi_syntax Tryd.lays172 (sL l) (by rw [sL_size]; omega) ha ev w h1 h2).mono ?_
    rintro e w' ⟨N, h3, _, _, h4⟩
    exact .inr ⟨(fun v hv => nomatch hv), _, _, _, h3, h4⟩
  | range =>
    obtain ⟨ev, h1, h2⟩ := h.er
    refine (Any.strconv_Atoi_range Tryd.lays172 (sL l) (by rw [sL_size]; omega) ha ev w h1 h2).mono ?_
    rintro e w' ⟨N, h3, _, _, h4⟩
    exact .inr ⟨(fun v hv => nomatch hv), _, _, _, h3, h4⟩
end Go.Proofs.YtoenecgjiejljaaDoor
