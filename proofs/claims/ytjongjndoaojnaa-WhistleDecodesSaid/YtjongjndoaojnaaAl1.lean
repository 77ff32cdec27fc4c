/-
  Messages: the walks of SameInts, messageOK, sound of the reference. Conditions: what they read can be read.
-/
import Derived.Test.YtjongjndoaojnaaLwBacks
namespace Go.Proofs.Ytjongjndoaojnaa
open Go.RowKit
set_option linter.unusedVariables false

theorem eqI_next {a b : List Int} {k : Nat} {x y : Int} (hx : a[k]? = some x) (hy : b[k]? = some y) (h : a.take k = b.take k) (he : x = y) : a.take (k + 1) = b.take (k + 1) := by
  rw [List.take_add_one, List.take_add_one, hx, hy, h, he]
theorem eqI_bad {a b : List Int} {k : Nat} {x y : Int} (hx : a[k]? = some x) (hy : b[k]? = some y) (he : ¬ x = y) : decide (a = b) = false := decide_eq_false fun h => he (by
  rw [h, hy] at hx
  injection hx with hx
  exact hx.symm)
set_option maxRecDepth 4000 in
set_option maxHeartbeats 1000000 in
theorem SameInts_any (A A' : Option Addr) (c c' : Nat) (a b : List Int) (w : World) (hr : Rd w w.heap.size A (ints a)) (hr' : Rd w w.heap.size A' (ints b)) (hl : a.length ≤ 9223372036854775807) (hl' : b.length ≤ 9223372036854775807) :
    Calls Try.prog 26 #[.slice A a.length c, .slice A' b.length c'] w fun e w' => e = .returned (.bool (decide (a = b))) ∧ ∃ m, w' = w.drewN m := by
  have HR := Lib.hid hr
  have HR' := Lib.hid hr'
  clear hr hr'
  by_cases hab : a.length = b.length
  · have e1 : (((a.length : Nat) : Int) != ((b.length : Nat) : Int)) = false := by rw [hab]; simp
    have e2 : ((a.length : Nat) != b.length) = false := by rw [hab]; simp
    have HAB := Lib.hid hab
    clear hab
    go_enter Try.func26, Try.ntmps26
    go_wp2_with fail
    go_loopw [5] (fun i wr => ∃ k : Nat, k ≤ a.length ∧ i = .int .i64 k ∧ a.take k = b.take k ∧ ∃ m, wr = w.drewN m) (fun i _ => a.length - (intOf i).toNat)
    case atStart => exact ⟨0, by omega, rfl, rfl, 0, rfl⟩
    case round =>
      obtain ⟨k, hk, rfl, hall, m, rfl⟩ := hrel
      have HA := Lib.hid hall
      clear hall
      by_cases hlt : k < a.length
      · have hlt' : k < b.length := by have := HAB.out; omega
        obtain ⟨b1, o1, x, hA1, hx, hc⟩ := HR.out.int k hlt
        obtain ⟨b2, o2, y, hA2, hy, hc'⟩ := HR'.out.int k hlt'
        have HX1 := Lib.hid hA1
        have HX2 := Lib.hid hA2
        subst hA1 hA2
        have b0 : (0 : Int) ≤ (k : Int) := by omega
        have b1' : (k : Int) < (a.length : Int) := by omega
        have b2' : (k : Int) < (b.length : Int) := by omega
        by_cases he : x = y
        · have HX := Lib.hid (eqI_next hx.out hy.out HA.out he)
          have e4 : (x != y) = false := by simpa using he
          clear he
          go_wp2_with fail
          go_quiet (fail)
          go_wp2_with fail
          go_roundw
          case rel => exact ⟨k + 1, by omega, by go_num, HX.out, _, rfl⟩
          case measure => simp [intOf]; omega
        · have HX := Lib.hid (eqI_bad hx.out hy.out he)
          have e4 : (x != y) = true := by simpa using he
          clear he
          go_wp2_with fail
          go_quiet (fail)
          go_wp2_with fail
          go_ret
          exact ⟨by rw [HX.out]; rfl, _, World.drewN_drewN _ _ _⟩
      · have hks : k = a.length := by omega
        have HX := Lib.hid (show decide (a = b) = true by
          have h := HA.out
          rw [hks, List.take_length, HAB.out, List.take_length] at h
          exact decide_eq_true h)
        subst hks
        go_wp2_with fail
        go_ret
        exact ⟨by rw [HX.out]; rfl, _, rfl⟩
  · have e1 : (((a.length : Nat) : Int) != ((b.length : Nat) : Int)) = true := by simp; omega
    have e2 : ((a.length : Nat) != b.length) = true := by simpa using hab
    have HX := Lib.hid (show decide (a = b) = false from decide_eq_false fun h => hab (by rw [h]))
    clear hab
    go_enter Try.func26, Try.ntmps26
    go_wp2_with fail
    go_ret
    exact ⟨by rw [HX.out]; rfl, 0, rfl⟩
/-- A message as it lies in memory. -/
structure Mr where
  A : Option Addr
  c : Nat
  l : List Int
def mrs (ms : List Mr) : List Value := ms.map fun m => .slice m.A m.l.length m.c
/-- Messages in memory. -/
structure RdM (w : World) (A : Option Addr) (ms : List Mr) : Prop where
  o : Rd w w.heap.size A (mrs ms)
  r : ∀ m ∈ ms, Rd w w.heap.size m.A (ints m.l)
  z : ∀ m ∈ ms, m.l.length ≤ 9223372036854775807
theorem RdM.at_ {w : World} {A : Option Addr} {ms : List Mr} (h : RdM w A ms) (k : Nat) (hk : k < ms.length) : ∃ b o m, A = some ⟨b, o, none⟩ ∧ Hid (ms[k]? = some m) ∧ w.cell? ⟨b, o + k, none⟩ = some (.slice m.A m.l.length m.c) ∧ Rd w w.heap.size m.A (ints m.l) ∧ m.l.length ≤ 9223372036854775807 := by
  obtain ⟨b, o, ha, _, hc⟩ := h.o.at_ (k := k) (u := .slice ms[k].A ms[k].l.length ms[k].c) (by simp [mrs, List.getElem?_eq_getElem hk])
  exact ⟨b, o, ms[k], ha, (List.getElem?_eq_getElem hk : _), hc, h.r _ (List.getElem_mem hk), h.z _ (List.getElem_mem hk)⟩
def bigB (ms : List Mr) : Bool := ms.any fun m => decide (400 < m.l.length)
/-- The first error of messages. -/
def mE (C : List ByteArray) (ms : List Mr) : Int := if bigB ms = true then 3 else if (ms.all fun m => idxB C m.l) = true then 0 else 4
theorem big_hit {ms : List Mr} {k : Nat} {m : Mr} (h : ms[k]? = some m) (hm : 400 < m.l.length) : bigB ms = true := List.any_eq_true.2 ⟨m, List.mem_of_getElem? h, by simpa using hm⟩
theorem big_next {ms : List Mr} {k : Nat} {m : Mr} (h : ms[k]? = some m) (hm : ¬ 400 < m.l.length) (ha : bigB (ms.take k) = false) : bigB (ms.take (k + 1)) = false := by
  unfold bigB at ha ⊢
  rw [List.take_add_one, h, List.any_append, ha]
  simp
  omega
def okI (n : Nat) (x : Int) : Bool := decide (0 ≤ x) && decide (x < n)
theorem idx_okI (C : List ByteArray) (l : List Int) : idxB C l = l.all (okI C.length) := rfl
theorem idx_hit {C : List ByteArray} {l : List Int} {k : Nat} {x : Int} (h : l[k]? = some x) (hx : okI C.length x = false) : idxB C l = false := by
  rw [idx_okI, List.all_eq_false]
  exact ⟨x, List.mem_of_getElem? h, by rw [hx]; simp⟩
theorem idx_next {C : List ByteArray} {l : List Int} {k : Nat} {x : Int} (h : l[k]? = some x) (hx : okI C.length x = true) (ha : idxB C (l.take k) = true) : idxB C (l.take (k + 1)) = true := by
  rw [List.take_add_one, h, idxB_append, ha]
  simpa [idxB, okI] using hx
theorem all_next {C : List ByteArray} {ms : List Mr} {k : Nat} {m : Mr} (h : ms[k]? = some m) (hm : idxB C m.l = true) (ha : ((ms.take k).all fun m => idxB C m.l) = true) : ((ms.take (k + 1)).all fun m => idxB C m.l) = true := by
  rw [List.take_add_one, h, List.all_append, ha]
  simp [hm]
theorem mE_bad {C : List ByteArray} {ms : List Mr} {k : Nat} {m : Mr} (hb : bigB ms = false) (h : ms[k]? = some m) (hm : idxB C m.l = false) : mE C ms = 4 := by
  unfold mE
  rw [if_neg (by rw [hb]; simp), if_neg]
  intro ha
  have := List.all_eq_true.1 ha m (List.mem_of_getElem? h)
  rw [hm] at this
  cases this
set_option maxRecDepth 4000 in
set_option maxHeartbeats 2000000 in
theorem messageOK_any (A Am : Option Addr) (c cm : Nat) (C : List ByteArray) (ms : List Mr) (w : World) (hl : C.length ≤ 9223372036854775807) (hm : RdM w Am ms) (h2 : ms.length ≤ 2) :
    Calls Try.prog 53 #[.slice A C.length c, .slice Am ms.length cm] w fun e w' => e = .returned (.int .i64 (mE C ms)) ∧ w = w' := by
  have HM := Lib.hid hm
  clear hm
  go_enter Try.func53, Try.ntmps53
  go_wp2_with fail
  go_loop [5] (fun i => ∃ k : Nat, k ≤ ms.length ∧ i = .int .i64 k ∧ bigB (ms.take k) = false) (fun i => ms.length - (intOf i).toNat)
  case atStart => exact ⟨0, by omega, rfl, by simp [bigB]⟩
  case round =>
    obtain ⟨k, hk, rfl, hall⟩ := hrel
    have HA := Lib.hid hall
    clear hall
    by_cases hlt : k < ms.length
    · obtain ⟨b, o, m, hAm, hd, hc, _, hz⟩ := HM.out.at_ k hlt
      subst hAm
      have b0 : (0 : Int) ≤ (k : Int) := by omega
      have b1 : (k : Int) < (ms.length : Int) := by omega
      by_cases hbig : 400 < m.l.length
      · have HX := Lib.hid (show mE C ms = 3 from if_pos (big_hit hd.out hbig))
        have e1 : decide ((400 : Int) < (m.l.length : Int)) = true := by simp; omega
        have e2 : decide (400 < m.l.length) = true := by simpa using hbig
        clear hbig
        go_wp2_with fail
        go_ret
        exact ⟨by rw [HX.out]; rfl, rfl⟩
      · have HX := Lib.hid (big_next hd.out hbig HA.out)
        have e1 : decide ((400 : Int) < (m.l.length : Int)) = false := by simp; omega
        have e2 : decide (400 < m.l.length) = false := by simpa using hbig
        clear hbig
        go_wp2_with fail
        go_round
        case rel => exact ⟨k + 1, by omega, by go_num, HX.out⟩
        case measure => simp [intOf]; omega
    · have hks : k = ms.length := by omega
      have HB := Lib.hid (show bigB ms = false by have := HA.out; rw [hks, List.take_length] at this; exact this)
      subst hks
      go_wp2_with fail
      go_loop [6] (fun i => ∃ k : Nat, k ≤ ms.length ∧ i = .int .i64 k ∧ ((ms.take k).all fun m => idxB C m.l) = true) (fun i => ms.length - (intOf i).toNat)
      case atStart => exact ⟨0, by omega, rfl, by simp⟩
      case round =>
        obtain ⟨k, hk, rfl, hall⟩ := hrel
        have HC := Lib.hid hall
        clear hall
        by_cases hlt : k < ms.length
        · obtain ⟨b, o, m, hAm, hd, hc, hrm, hz⟩ := HM.out.at_ k hlt
          have HRM := Lib.hid hrm
          have HAM := Lib.hid hAm
          have hm400 : m.l.length ≤ 400 := by
            rcases Nat.lt_or_ge 400 m.l.length with h | h
            · have h1 := big_hit hd.out h
              rw [HB.out] at h1
              cases h1
            · exact h
          subst hAm
          clear hrm
          have b0 : (0 : Int) ≤ (k : Int) := by omega
          have b1 : (k : Int) < (ms.length : Int) := by omega
          go_wp2_with fail
          go_loop [7] (fun i => ∃ j : Nat, j ≤ m.l.length ∧ i = .int .i64 j ∧ idxB C (m.l.take j) = true) (fun i => m.l.length - (intOf i).toNat)
          case atStart => exact ⟨0, by omega, rfl, by simp [idxB]⟩
          case round =>
            obtain ⟨j, hj, rfl, hall⟩ := hrel
            have HJ := Lib.hid hall
            clear hall
            by_cases hlt2 : j < m.l.length
            · obtain ⟨b2, o2, x, hA2, hx, hc2⟩ := HRM.out.int j hlt2
              rw [hA2] at hc
              have b2' : (0 : Int) ≤ (j : Int) := by omega
              have b3 : (j : Int) < (m.l.length : Int) := by omega
              by_cases h0 : x < 0
              · have e1 : decide (x < 0) = true := by simpa using h0
                have HX := Lib.hid (mE_bad HB.out hd.out (idx_hit (C := C) hx.out (by unfold okI; rw [decide_eq_false (show ¬ 0 ≤ x by omega)]; rfl)))
                clear h0
                go_wp2_with fail
                go_ret
                exact ⟨by rw [HX.out]; rfl, rfl⟩
              · have e1 : decide (x < 0) = false := by simpa using h0
                by_cases hn : (C.length : Int) ≤ x
                · have e2 : decide ((C.length : Int) ≤ x) = true := by simpa using hn
                  have HX := Lib.hid (mE_bad HB.out hd.out (idx_hit (C := C) hx.out (by unfold okI; rw [decide_eq_false (show ¬ x < (C.length : Int) by omega), Bool.and_false])))
                  clear h0 hn
                  go_wp2_with fail
                  go_ret
                  exact ⟨by rw [HX.out]; rfl, rfl⟩
                · have e2 : decide ((C.length : Int) ≤ x) = false := by simpa using hn
                  have HX := Lib.hid (idx_next (C := C) hx.out (by unfold okI; rw [decide_eq_true (show 0 ≤ x by omega), decide_eq_true (show x < (C.length : Int) by omega)]; rfl) HJ.out)
                  clear h0 hn
                  go_wp2_with fail
                  go_round
                  case rel => exact ⟨j + 1, by omega, by go_num, HX.out⟩
                  case measure => simp [intOf]; omega
            · have hjs : j = m.l.length := by omega
              have HX := Lib.hid (all_next hd.out (by have := HJ.out; rw [hjs, List.take_length] at this; exact this) HC.out)
              subst hjs
              go_wp2_with fail
              go_round
              case rel => exact ⟨k + 1, by omega, by go_num, HX.out⟩
              case measure => simp [intOf]; omega
        · have hks : k = ms.length := by omega
          have HX := Lib.hid (show mE C ms = 0 by
            have := HC.out
            rw [hks, List.take_length] at this
            unfold mE
            rw [if_neg (by rw [HB.out]; simp), if_pos this])
          subst hks
          go_wp2_with fail
          go_ret
          exact ⟨by rw [HX.out]; rfl, rfl⟩
theorem snd_next {C : List ByteArray} {l : List Int} {k : Nat} {x : Int} {s : ByteArray} (hx : l[k]? = some x) (hs : C[x.toNat]? = some s) : ofL (sndL C (l.take k)) ++ s = ofL (sndL C (l.take (k + 1))) := by
  apply bl_inj
  rw [List.take_add_one, hx]
  simp only [Option.toList_some]
  rw [bl_ofL, sndL_append, sndL_one]
  unfold sgAt
  rw [List.getD_eq_getElem?_getD, hs]
  show bl (ofL (sndL C (l.take k)) ++ s) = sndL C (l.take k) ++ bl s
  unfold bl
  rw [ByteArray.data_append]
  simp [ofL]
theorem snd_len {C : List ByteArray} (hV : Vd C) : ∀ (l : List Int), (sndL C l).length ≤ 12 * l.length
  | [] => by simp [sndL]
  | x :: r => by
    have ih := snd_len hV r
    rw [show x :: r = [x] ++ r from rfl, sndL_append, sndL_one, List.length_append, List.length_append]
    have : (sgAt C x).length ≤ 12 := by
      unfold sgAt
      rw [List.getD_eq_getElem?_getD]
      cases h : C[x.toNat]? with
      | none => simp [bl]
      | some s =>
        simp only [Option.getD_some]
        rw [bl_len]
        exact (sgB_iff.1 (hV.sg s (List.mem_of_getElem? h))).2.1
    simp only [List.length_cons, List.length_nil]
    omega
theorem snd_size {C : List ByteArray} (hV : Vd C) (l : List Int) (hl : l.length ≤ 400) : (ofL (sndL C l)).size ≤ 4800 := by
  rw [← bl_len, bl_ofL]
  have := snd_len hV l
  omega
set_option maxRecDepth 4000 in
set_option maxHeartbeats 1000000 in
theorem sound_any (A Am : Option Addr) (c cm : Nat) (C : List ByteArray) (l : List Int) (w : World) (hV : Vd C) (hr : Rd w w.heap.size A (txts C)) (hm : Rd w w.heap.size Am (ints l)) (hi : idxB C l = true) (h400 : l.length ≤ 400) :
    Calls Try.prog 54 #[.slice A C.length c, .slice Am l.length cm] w fun e w' => e = .returned (.string (ofL (sndL C l))) ∧ w = w' := by
  have HR := Lib.hid hr
  have HM := Lib.hid hm
  have HV := Lib.hid hV
  have HI := Lib.hid hi
  clear hr hm hV hi
  go_enter Try.func54, Try.ntmps54
  go_wp2_with fail
  go_loop [5, 6] (fun v i => ∃ k : Nat, k ≤ l.length ∧ v = .string (ofL (sndL C (l.take k))) ∧ i = .int .i64 k) (fun _ i => l.length - (intOf i).toNat)
  case atStart => exact ⟨0, by omega, rfl, rfl⟩
  case round =>
    obtain ⟨k, hk, rfl, rfl⟩ := hrel
    by_cases hlt : k < l.length
    · obtain ⟨b, o, x, hAm, hx, hc⟩ := HM.out.int k hlt
      have hix := List.all_eq_true.1 (show l.all (okI C.length) = true from HI.out) x (List.mem_of_getElem? hx.out)
      unfold okI at hix
      rw [Bool.and_eq_true, decide_eq_true_eq, decide_eq_true_eq] at hix
      obtain ⟨x, rfl⟩ : ∃ n : Nat, x = (n : Int) := ⟨x.toNat, by omega⟩
      obtain ⟨b2, o2, s, hA2, hs, hc2⟩ := HR.out.txt x (by omega)
      have HX := Lib.hid (snd_next hx.out (show C[((x : Nat) : Int).toNat]? = some s by rw [Int.toNat_natCast]; exact hs.out))
      have hts := snd_size HV.out (l.take k) (by rw [List.length_take]; omega)
      have hss := (sgB_iff.1 (HV.out.sg s (List.mem_of_getElem? hs.out))).2.1
      have H1 := Lib.hid hAm
      have H2 := Lib.hid hA2
      subst hAm hA2
      have b0 : (0 : Int) ≤ (k : Int) := by omega
      have b1 : (k : Int) < (l.length : Int) := by omega
      have b2' : (0 : Int) ≤ (x : Int) := by omega
      have b3 : (x : Int) < (C.length : Int) := by omega
      clear hix
      generalize ofL (sndL C (l.take k)) = t at *
      go_wp2_with fail
      go_round
      case rel => exact ⟨k + 1, by omega, by rw [← HX.out], by go_num⟩
      case measure => simp [intOf]; omega
    · have hks : k = l.length := by omega
      subst hks
      have HX := Lib.hid (show ofL (sndL C (l.take l.length)) = ofL (sndL C l) by rw [List.take_length])
      generalize ofL (sndL C (l.take l.length)) = t at *
      go_wp2_with fail
      go_ret
      exact ⟨by rw [← HX.out]; rfl, rfl⟩
end Go.Proofs.Ytjongjndoaojnaa
