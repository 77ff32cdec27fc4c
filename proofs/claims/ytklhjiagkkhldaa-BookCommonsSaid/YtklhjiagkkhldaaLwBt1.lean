/-
  BookSums, BookRoots, BookSplits: the walks. Condition: the lists can be read.
-/
import Derived.Test.YtklhjiagkkhldaaBt4
namespace Go.Proofs.Ytklhjiagkkhldaa
open Go.RowKit
set_option linter.unusedVariables false

set_option maxRecDepth 8000 in
set_option maxHeartbeats 4000000 in
theorem Sums_walk (s : ByteArray) (x y : Int) (w : World) (hs : s.size ≤ 9223372036854775807) :
    Calls Try.prog 3 #[.string s, .int .i64 x, .int .i64 y] w fun e w' => e = .returned (.bool true) ∧ Below w.heap.size w w' := by
  have HK := Lib.hid known_any
  by_cases h1 : 1000 < s.size
  · have e1 : decide ((1000 : Int) < (s.size : Int)) = true := decide_eq_true (by omega)
    have e2 : decide (1000 < s.size) = true := decide_eq_true h1
    clear h1
    go_enter Try.func3, Try.ntmps3
    go_wp2_with fail
    refine (HK.out w).mono ?_
    rintro e w1 ⟨rfl, hb⟩
    go_wp2_with fail
    go_ret
    exact ⟨rfl, hb⟩
  · have e1 : decide ((1000 : Int) < (s.size : Int)) = false := decide_eq_false (by omega)
    have e2 : decide (1000 < s.size) = false := decide_eq_false h1
    have H1 := Lib.hid (Leaf_any s w hs)
    have H2 := Lib.hid (rLeaf_any s w hs)
    have H3 := Lib.hid (Join_any x y w)
    have H4 := Lib.hid (rJoin_any x y w)
    have H5 := Lib.hid (IsPage_any s w hs)
    have H6 := Lib.hid (rIsPage_any s w hs)
    generalize leafV s = a at *
    generalize leafE s = b at *
    generalize joinV x y = c at *
    generalize joinE x y = d at *
    generalize pgB s = f at *
    have k1 : (a == a) = true := by simp
    have k2 : (b == b) = true := by simp
    have k3 : (c == c) = true := by simp
    have k4 : (d == d) = true := by simp
    have k5 : (f == f) = true := by simp
    clear h1
    go_enter Try.func3, Try.ntmps3
    go_wp2_with fail
    refine (H1.out).mono ?_
    rintro e w' ⟨rfl, rfl⟩
    go_wp2_with fail
    refine (H2.out).mono ?_
    rintro e w' ⟨rfl, rfl⟩
    go_wp2_with fail
    refine (H3.out).mono ?_
    rintro e w' ⟨rfl, rfl⟩
    go_wp2_with fail
    refine (H4.out).mono ?_
    rintro e w' ⟨rfl, rfl⟩
    go_wp2_with fail
    refine (H5.out).mono ?_
    rintro e w' ⟨rfl, rfl⟩
    go_wp2_with fail
    refine (H6.out).mono ?_
    rintro e w' ⟨rfl, rfl⟩
    go_wp2_with fail
    refine (HK.out w).mono ?_
    rintro e w1 ⟨rfl, hb⟩
    go_wp2_with fail
    go_ret
    exact ⟨rfl, hb⟩
set_option maxRecDepth 8000 in
set_option maxHeartbeats 4000000 in
theorem Roots_walk (A : Option Addr) (c : Nat) (l : List ByteArray) (n : Int) (w : World) (hr : Rd w w.heap.size A (txts l)) (hs : Sz l) (hl : l.length ≤ 9223372036854775807) :
    Calls Try.prog 4 #[.slice A l.length c, .int .i64 n] w fun e w' => e = .returned (.bool true) ∧ Below w.heap.size w w' := by
  have HK := Lib.hid known_any
  have HL := Lib.hid (Long_any A c l w hr hl)
  cases hlo : longB l
  · rw [hlo] at HL
    have HR := Lib.hid hr
    have HS := Lib.hid hs
    have H1 := Lib.hid (Split_any n w)
    have H2 := Lib.hid (rSplit_any n w)
    have H3 := Lib.hid (fun w hr => Root_any A c l w hr HS.out hl)
    have H4 := Lib.hid (fun w hr => rRoot_any A c l w hr HS.out hl)
    have H5 := Lib.hid (fun w hr => Validate_any A c l w hr HS.out hl)
    have H6 := Lib.hid (fun w hr => rValidate_any A c l w hr HS.out hl)
    generalize splitV n = a at *
    generalize splitE n = b at *
    generalize rootV l = d at *
    generalize vpE l = f at *
    have k1 : (a == a) = true := by simp
    have k2 : (b == b) = true := by simp
    have k3 : (d == d) = true := by simp
    have k4 : (f == f) = true := by simp
    clear hlo hr hs
    go_enter Try.func4, Try.ntmps4
    go_wp2_with fail
    refine (HL.out).mono ?_
    rintro e w' ⟨rfl, rfl⟩
    go_wp2_with fail
    refine (H1.out).mono ?_
    rintro e w' ⟨rfl, rfl⟩
    go_wp2_with fail
    refine (H2.out).mono ?_
    rintro e w' ⟨rfl, rfl⟩
    go_wp2_with fail
    refine (H3.out w HR.out).mono ?_
    rintro e w1 ⟨rfl, hb⟩
    have B1 := Lib.hid hb
    have R1 := Lib.hid (HR.out.upb hb)
    clear hb
    go_wp2_with fail
    refine (H4.out w1 R1.out).mono ?_
    rintro e w2 ⟨rfl, hb⟩
    have B2 := Lib.hid (B1.out.trans (hb.mono B1.out.size))
    have R2 := Lib.hid (R1.out.upb hb)
    clear hb
    go_wp2_with fail
    refine (H5.out w2 R2.out).mono ?_
    rintro e w' ⟨rfl, rfl⟩
    go_wp2_with fail
    refine (H6.out _ R2.out).mono ?_
    rintro e w' ⟨rfl, rfl⟩
    go_wp2_with fail
    refine (HK.out _).mono ?_
    rintro e w3 ⟨rfl, hb⟩
    have B3 := Lib.hid (B2.out.trans (hb.mono B2.out.size))
    clear hb
    go_wp2_with fail
    go_ret
    exact ⟨rfl, B3.out⟩
  · rw [hlo] at HL
    clear hlo
    go_enter Try.func4, Try.ntmps4
    go_wp2_with fail
    refine (HL.out).mono ?_
    rintro e w' ⟨rfl, rfl⟩
    go_wp2_with fail
    refine (HK.out w).mono ?_
    rintro e w1 ⟨rfl, hb⟩
    go_wp2_with fail
    go_ret
    exact ⟨rfl, hb⟩
theorem txts_drop (C : List ByteArray) (k : Nat) : (txts C).drop k = txts (C.drop k) := by simp [txts, List.map_drop]
theorem Sz.take {C : List ByteArray} (h : Sz C) (k : Nat) : Sz (C.take k) := fun s hs => h s (List.mem_of_mem_take hs)
theorem Sz.drop {C : List ByteArray} (h : Sz C) (k : Nat) : Sz (C.drop k) := fun s hs => h s (List.mem_of_mem_drop hs)
theorem Root_at {n : Nat} (A : Option Addr) (c : Nat) (l : List ByteArray) (w : World) (hn : l.length = n) (hr : Rd w w.heap.size A (txts l)) (hs : Sz l) (hl : n ≤ 9223372036854775807) :
    Calls Try.prog 22 #[.slice A n c] w fun e w' => e = .returned (.tuple #[.int .i64 (rootV l), .int .i64 (vpE l)]) ∧ Below w.heap.size w w' := by
  subst hn
  exact Root_any A c l w hr hs hl
theorem Rd.somet {w : World} {B : Nat} {A : Option Addr} {l : List ByteArray} (h : Rd w B A (txts l)) (hl : 1 ≤ l.length) : ∃ b o, A = some ⟨b, o, none⟩ := by
  obtain ⟨b, o, d, ha, _, _⟩ := h.txt 0 (by omega)
  exact ⟨b, o, ha⟩
set_option maxRecDepth 8000 in
set_option maxHeartbeats 4000000 in
theorem Splits_walk (A : Option Addr) (c : Nat) (l : List ByteArray) (w : World) (hr : Rd w w.heap.size A (txts l)) (hs : Sz l) (hlc : l.length ≤ c) (hc : c ≤ maxLen) :
    Calls Try.prog 5 #[.slice A l.length c] w fun e w' => e = .returned (.bool true) ∧ Below w.heap.size w w' := by
  have hc' : c ≤ 9223372036854775807 := by unfold maxLen at hc; omega
  have hl : l.length ≤ 9223372036854775807 := by omega
  have HK := Lib.hid known_any
  have HL := Lib.hid (Long_any A c l w hr hl)
  cases hlo : longB l
  case true =>
    rw [hlo] at HL
    clear hlo
    go_enter Try.func5, Try.ntmps5
    go_wp2_with fail
    refine (HL.out).mono ?_
    rintro e w' ⟨rfl, rfl⟩
    go_wp2_with fail
    refine (HK.out w).mono ?_
    rintro e w1 ⟨rfl, hb⟩
    go_wp2_with fail
    go_ret
    exact ⟨rfl, hb⟩
  case false =>
    rw [hlo] at HL
    have HR := Lib.hid hr
    have HS := Lib.hid hs
    have H3 := Lib.hid (Root_any A c l w hr HS.out hl)
    clear hlo
    by_cases hv : vpE l = 0
    case neg =>
      have k1 : (vpE l != 0) = true := by simpa using hv
      generalize vpE l = f at *
      generalize rootV l = d at *
      clear hv hr hs
      go_enter Try.func5, Try.ntmps5
      go_wp2_with fail
      refine (HL.out).mono ?_
      rintro e w' ⟨rfl, rfl⟩
      go_wp2_with fail
      refine H3.out.mono ?_
      rintro e w1 ⟨rfl, hb⟩
      have B1 := Lib.hid hb
      clear hb
      go_wp2_with fail
      refine (HK.out _).mono ?_
      rintro e w3 ⟨rfl, hb⟩
      have B3 := Lib.hid (B1.out.trans (hb.mono B1.out.size))
      clear hb
      go_wp2_with fail
      go_ret
      exact ⟨rfl, B3.out⟩
    case pos =>
      have hV := hv
      rw [hv] at H3
      by_cases h2 : l.length < 2
      case pos =>
        have k1 : decide ((l.length : Int) < 2) = true := decide_eq_true (by omega)
        generalize rootV l = d at *
        clear hv hr hs hV
        go_enter Try.func5, Try.ntmps5
        go_wp2_with fail
        refine (HL.out).mono ?_
        rintro e w' ⟨rfl, rfl⟩
        go_wp2_with fail
        refine H3.out.mono ?_
        rintro e w1 ⟨rfl, hb⟩
        have B1 := Lib.hid hb
        clear hb
        go_wp2_with fail
        refine (HK.out _).mono ?_
        rintro e w3 ⟨rfl, hb⟩
        have B3 := Lib.hid (B1.out.trans (hb.mono B1.out.size))
        clear hb
        go_wp2_with fail
        go_ret
        exact ⟨rfl, B3.out⟩
      case neg =>
        have k1 : decide ((l.length : Int) < 2) = false := decide_eq_false (by omega)
        have h64 := (vpE_ok hv).1
        have hsp := sp_lt (n := l.length) (by omega)
        have HV := Lib.hid (show splitV (l.length : Int) = (spN l.length : Int) ∧ splitE (l.length : Int) = 0 by unfold splitV splitE; rw [if_pos (by omega), if_pos (by omega), if_pos (by omega), if_pos (by omega)]; exact ⟨rfl, rfl⟩)
        have H1 := Lib.hid (fun w => Split_any (l.length : Int) w)
        rw [HV.out.1, HV.out.2] at H1
        obtain ⟨b, o, rfl⟩ := hr.somet (by omega)
        have r1 : rootV l = jn (rt (smsL (l.take (spN l.length)))) (rt (smsL (l.drop (spN l.length)))) := by
          unfold rootV
          rw [if_pos hv, rt_two (by rw [smsL_len]; omega), smsL_len, smsL_take, smsL_drop]
        have v2 := vpE_take hv (spN l.length)
        have v3 := vpE_drop hv (spN l.length)
        have r2 : rootV (l.take (spN l.length)) = rt (smsL (l.take (spN l.length))) := if_pos v2
        have r3 : rootV (l.drop (spN l.length)) = rt (smsL (l.drop (spN l.length))) := if_pos v3
        have H4 := Lib.hid (fun w hr => Root_at (n := spN l.length) (some ⟨b, o, none⟩) (spN l.length) (l.take (spN l.length)) w (by rw [List.length_take]; omega) hr (HS.out.take _) (by omega))
        have H5 := Lib.hid (fun w hr => Root_at (n := l.length - spN l.length) (some ⟨b, o + spN l.length, none⟩) (c - spN l.length) (l.drop (spN l.length)) w (by rw [List.length_drop]) hr (HS.out.drop _) (by omega))
        have s1 := rt_sm (smsL_sm (l.take (spN l.length)))
        have s2 := rt_sm (smsL_sm (l.drop (spN l.length)))
        have H6 := Lib.hid (fun w => Join_any (rt (smsL (l.take (spN l.length)))) (rt (smsL (l.drop (spN l.length)))) w)
        have j1 : joinV (rt (smsL (l.take (spN l.length)))) (rt (smsL (l.drop (spN l.length)))) = jn (rt (smsL (l.take (spN l.length)))) (rt (smsL (l.drop (spN l.length)))) := by unfold joinV; rw [if_pos (smB_iff.2 s1), if_pos (smB_iff.2 s2)]
        have j2 : joinE (rt (smsL (l.take (spN l.length)))) (rt (smsL (l.drop (spN l.length)))) = 0 := by unfold joinE; rw [if_pos (smB_iff.2 s1), if_pos (smB_iff.2 s2)]
        rw [j1, j2] at H6
        rw [r1] at H3
        rw [r2, v2] at H4
        rw [r3, v3] at H5
        have HRt := Lib.hid (fun w (h : Rd w w.heap.size (some ⟨b, o, none⟩) (txts l)) => (show Rd w w.heap.size (some ⟨b, o, none⟩) (txts (l.take (spN l.length))) by have := h.take (spN l.length); rw [txts_take] at this; exact this))
        have HRd := Lib.hid (fun w (h : Rd w w.heap.size (some ⟨b, o, none⟩) (txts l)) => (show Rd w w.heap.size (some ⟨b, o + spN l.length, none⟩) (txts (l.drop (spN l.length))) by have := h.drop_ (spN l.length); rw [txts_drop] at this; exact this))
        generalize rt (smsL (l.take (spN l.length))) = x at *
        generalize rt (smsL (l.drop (spN l.length))) = y at *
        generalize jn x y = z at *
        generalize spN l.length = k at *
        have k2 : (z == z) = true := by simp
        have k3 : decide ((k : Int) < 1) = false := decide_eq_false (by omega)
        have k4 : decide ((l.length : Int) ≤ (k : Int)) = false := decide_eq_false (by omega)
        have k4' : decide (l.length ≤ k) = false := decide_eq_false (by omega)
        have k3' : decide (k < 1) = false := decide_eq_false (by omega)
        have b0 : (0 : Int) ≤ (k : Int) := by omega
        have b1 : (k : Int) ≤ (c : Int) := by omega
        have b2 : (k : Int) ≤ (l.length : Int) := by omega
        have b3 : k ≤ c := by omega
        have b4 : k ≤ l.length := by omega
        have b5 : (l.length : Int) ≤ (c : Int) := by omega
        clear hv hr hs hV r1 r2 r3 v2 v3 s1 s2 j1 j2
        go_enter Try.func5, Try.ntmps5
        go_wp2_with fail
        refine (HL.out).mono ?_
        rintro e w' ⟨rfl, rfl⟩
        go_wp2_with fail
        refine H3.out.mono ?_
        rintro e w1 ⟨rfl, hb⟩
        have B1 := Lib.hid hb
        have R1 := Lib.hid (HR.out.upb hb)
        clear hb
        go_wp2_with fail
        refine (H1.out w1).mono ?_
        rintro e w' ⟨rfl, rfl⟩
        go_wp2_with fail
        refine (H4.out w1 (HRt.out w1 R1.out)).mono ?_
        rintro e w2 ⟨rfl, hb⟩
        have B2 := Lib.hid (B1.out.trans (hb.mono B1.out.size))
        have R2 := Lib.hid (R1.out.upb hb)
        clear hb
        go_wp2_with fail
        refine (H5.out w2 (HRd.out w2 R2.out)).mono ?_
        rintro e w3 ⟨rfl, hb⟩
        have B3 := Lib.hid (B2.out.trans (hb.mono B2.out.size))
        clear hb
        go_wp2_with fail
        refine (H6.out w3).mono ?_
        rintro e w' ⟨rfl, rfl⟩
        go_wp2_with fail
        refine (HK.out _).mono ?_
        rintro e w4 ⟨rfl, hb⟩
        have B4 := Lib.hid (B3.out.trans (hb.mono B3.out.size))
        clear hb
        go_wp2_with fail
        go_ret
        exact ⟨rfl, B4.out⟩
end Go.Proofs.Ytklhjiagkkhldaa
