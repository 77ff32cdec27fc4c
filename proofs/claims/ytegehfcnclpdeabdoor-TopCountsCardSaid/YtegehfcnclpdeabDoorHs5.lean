/-
  Birds on a day: the walks of the methods of bird, of birdsOn and sum. Condition: the list can be read; the function answers for each of its texts.
-/
import Derived.Test.YtegehfcnclpdeabDoorHs4
import Derived.Laws.EntriesVeiled
namespace Go.Proofs.YtegehfcnclpdeabDoor
open Go.RowKit
set_option linter.unusedVariables false

def mkB (s : ByteArray) (d : Nat) : Bool := decide (fD s < (d : Int))
def agB (s : ByteArray) (d : Nat) : Bool := hitB s d && mkB s d
def nwB (s : ByteArray) (d : Nat) : Bool := fD s == (d : Int)
def avB (s : ByteArray) (d : Nat) : Bool := decide (fD s ≤ (d : Int)) && decide ((d : Int) ≤ lD s)
theorem first_any (s : ByteArray) (w : World) : Calls Tryd.prog 41 #[.string s] w fun e w' => e = .returned (.int .i64 (fD s)) ∧ w = w' := by
  have H := Lib.hid (fun w => Index1_any s w)
  generalize fD s = x at *
  go_enter Tryd.func41, Tryd.ntmps41
  go_wp2_with fail
  refine (H.out _).mono ?_
  rintro e w' ⟨rfl, rfl⟩
  go_wp2_with fail
  go_ret
  exact ⟨rfl, rfl⟩
theorem last_any (s : ByteArray) (hs : s.size ≤ 4000000000000000000) (w : World) : Calls Tryd.prog 42 #[.string s] w fun e w' => e = .returned (.int .i64 (lD s)) ∧ w = w' := by
  have H := Lib.hid (fun w => LastIndex1_any s hs w)
  generalize lD s = x at *
  go_enter Tryd.func42, Tryd.ntmps42
  go_wp2_with fail
  refine (H.out _).mono ?_
  rintro e w' ⟨rfl, rfl⟩
  go_wp2_with fail
  go_ret
  exact ⟨rfl, rfl⟩
theorem isMarked_any (s : ByteArray) (d : Nat) (w : World) : Calls Tryd.prog 25 #[.string s, .int .i64 d] w fun e w' => e = .returned (.bool (mkB s d)) ∧ w = w' := by
  have H := Lib.hid (fun w => first_any s w)
  unfold mkB
  generalize fD s = x at *
  go_enter Tryd.func25, Tryd.ntmps25
  go_wp2_with fail
  refine (H.out _).mono ?_
  rintro e w' ⟨rfl, rfl⟩
  go_wp2_with fail
  go_ret
  exact ⟨rfl, rfl⟩
theorem isNew_any (s : ByteArray) (d : Nat) (w : World) : Calls Tryd.prog 30 #[.string s, .int .i64 d] w fun e w' => e = .returned (.bool (nwB s d)) ∧ w = w' := by
  have H := Lib.hid (fun w => first_any s w)
  unfold nwB
  generalize fD s = x at *
  go_enter Tryd.func30, Tryd.ntmps30
  go_wp2_with fail
  refine (H.out _).mono ?_
  rintro e w' ⟨rfl, rfl⟩
  go_wp2_with fail
  go_ret
  exact ⟨rfl, rfl⟩
theorem isCaught_any (s : ByteArray) (d : Nat) (hd : d < s.size) (hs : s.size ≤ 4000000000000000000) (w : World) : Calls Tryd.prog 26 #[.string s, .int .i64 d] w fun e w' => e = .returned (.bool (hitB s d)) ∧ w = w' := by
  have hh := hit_get hd
  have b0 : (0 : Int) ≤ (d : Int) := by omega
  have b1 : (d : Int) < (s.size : Int) := by omega
  cases hc : hitB s d
  · rw [hc] at hh
    have hne := of_decide_eq_false hh.symm
    have e2 : ((((s[d]'hd).toNat : Nat) : Int) == 49) = false := by simp; omega
    have e2' : ((s[d]'hd).toNat == 49) = false := by simpa using hne
    clear hc hh hne
    go_enter Tryd.func26, Tryd.ntmps26
    go_wp2_with fail
    go_ret
    exact ⟨by rw [← e2']; rfl, rfl⟩
  · rw [hc] at hh
    have hne := of_decide_eq_true hh.symm
    have e2 : ((((s[d]'hd).toNat : Nat) : Int) == 49) = true := by simp; omega
    have e2' : ((s[d]'hd).toNat == 49) = true := by simpa using hne
    clear hc hh hne
    go_enter Tryd.func26, Tryd.ntmps26
    go_wp2_with fail
    go_ret
    exact ⟨by rw [← e2']; rfl, rfl⟩
theorem isCaughtAgain_any (s : ByteArray) (d : Nat) (hd : d < s.size) (hs : s.size ≤ 4000000000000000000) (w : World) : Calls Tryd.prog 27 #[.string s, .int .i64 d] w fun e w' => e = .returned (.bool (agB s d)) ∧ w = w' := by
  have H1 := Lib.hid (fun w => isCaught_any s d hd hs w)
  have H2 := Lib.hid (fun w => isMarked_any s d w)
  unfold agB
  generalize hitB s d = q at *
  cases q
  · go_enter Tryd.func27, Tryd.ntmps27
    go_wp2_with fail
    refine (H1.out _).mono ?_
    rintro e w' ⟨rfl, rfl⟩
    go_wp2_with fail
    go_ret
    exact ⟨rfl, rfl⟩
  · generalize mkB s d = x at *
    go_enter Tryd.func27, Tryd.ntmps27
    go_wp2_with fail
    refine (H1.out _).mono ?_
    rintro e w' ⟨rfl, rfl⟩
    go_wp2_with fail
    refine (H2.out _).mono ?_
    rintro e w' ⟨rfl, rfl⟩
    go_wp2_with fail
    go_ret
    exact ⟨rfl, rfl⟩
theorem isAlive_any (s : ByteArray) (d : Nat) (hs : s.size ≤ 4000000000000000000) (w : World) : Calls Tryd.prog 29 #[.string s, .int .i64 d] w fun e w' => e = .returned (.bool (avB s d)) ∧ w = w' := by
  have H1 := Lib.hid (fun w => first_any s w)
  have H2 := Lib.hid (fun w => last_any s hs w)
  unfold avB
  generalize fD s = x at *
  generalize lD s = y at *
  cases e1 : decide (x ≤ (d : Int))
  · go_enter Tryd.func29, Tryd.ntmps29
    go_wp2_with fail
    refine (H1.out _).mono ?_
    rintro e w' ⟨rfl, rfl⟩
    go_wp2_with fail
    go_ret
    exact ⟨rfl, rfl⟩
  · go_enter Tryd.func29, Tryd.ntmps29
    go_wp2_with fail
    refine (H1.out _).mono ?_
    rintro e w' ⟨rfl, rfl⟩
    go_wp2_with fail
    refine (H2.out _).mono ?_
    rintro e w' ⟨rfl, rfl⟩
    go_wp2_with fail
    go_ret
    exact ⟨rfl, rfl⟩
/-- A function of the program that says of each text whether it has P on the day d. -/
def IsF (f : FuncId) (P : ByteArray → Nat → Bool) (C : List ByteArray) (d : Nat) : Prop := ∀ s ∈ C, ∀ w, Calls Tryd.prog f #[.string s, .int .i64 d] w fun e w' => e = .returned (.bool (P s d)) ∧ w = w'
def one01 (b : Bool) : Nat := if b = true then 1 else 0
set_option maxHeartbeats 1000000 in
theorem on1_any (f : FuncId) (eg : ∀ args w, (callFunc f args).run Tryd.prog w = .ok (.enter f args) w) (s : ByteArray) (d : Nat) (q : Bool) (bi bd : Nat) (w : World) (hf : Calls Tryd.prog f #[.string s, .int .i64 d] w fun e w' => e = .returned (.bool q) ∧ w = w') (hi : w.cell? ⟨bi, 0, none⟩ = some (.func (.func f) #[] #[])) (hd : w.cell? ⟨bd, 0, none⟩ = some (.int .i64 d)) :
    Calls Tryd.prog 40 #[.string s, .pointer (some ⟨bi, 0, none⟩), .pointer (some ⟨bd, 0, none⟩)] w fun e w' => e = .returned (.int .i64 (one01 q : Nat)) ∧ w = w' := by
  have HF := Lib.hid hf
  clear hf
  cases q
  · go_enter Tryd.func40, Tryd.ntmps40
    go_wp2_with fail
    refine HF.out.mono ?_
    rintro e w' ⟨rfl, rfl⟩
    go_wp2_with fail
    go_ret
    exact ⟨rfl, rfl⟩
  · go_enter Tryd.func40, Tryd.ntmps40
    go_wp2_with fail
    refine HF.out.mono ?_
    rintro e w' ⟨rfl, rfl⟩
    go_wp2_with fail
    go_ret
    exact ⟨rfl, rfl⟩
def Ent (f : FuncId) : Prop := ∀ args w, (callFunc f args).run Tryd.prog w = .ok (.enter f args) w
/-- How many of the first k texts have P. -/
def cnt (P : ByteArray → Bool) (C : List ByteArray) (k : Nat) : Nat := (C.take k).countP P
theorem cnt_next {P : ByteArray → Bool} {C : List ByteArray} {k : Nat} {s : ByteArray} (h : C[k]? = some s) : cnt P C (k + 1) = cnt P C k + one01 (P s) := by
  unfold cnt
  rw [List.take_add_one, h, List.countP_append]
  simp [one01, List.countP_singleton]
theorem cnt_le (P : ByteArray → Bool) (C : List ByteArray) (k : Nat) : cnt P C k ≤ k := by
  unfold cnt
  have h1 := List.countP_le_length (p := P) (l := C.take k)
  have h2 := List.length_take_le k C
  omega
set_option maxRecDepth 4000 in
set_option maxHeartbeats 1000000 in
theorem sumStr_any (f : FuncId) (eg : Ent f) (P : ByteArray → Nat → Bool) (A : Option Addr) (cp : Nat) (C : List ByteArray) (h60 : C.length ≤ 60) (d : Nat) (hf : IsF f P C d) (bi bd : Nat) (w : World) (hr : Rd w w.heap.size A (txts C)) (hi : w.cell? ⟨bi, 0, none⟩ = some (.func (.func f) #[] #[])) (hd : w.cell? ⟨bd, 0, none⟩ = some (.int .i64 d)) :
    Calls Tryd.prog 39 #[.slice A C.length cp, .func (.func 40) #[] #[.pointer (some ⟨bi, 0, none⟩), .pointer (some ⟨bd, 0, none⟩)]] w fun e w' => e = .returned (.int .i64 (cnt (P · d) C C.length : Nat)) ∧ w = w' := by
  have HR := Lib.hid hr
  have HF := Lib.hid hf
  have H1 := Lib.hid (fun s (hs : s ∈ C) => on1_any f eg s d (P s d) bi bd w (hf s hs w) hi hd)
  clear hr hf hi hd eg
  go_enter Tryd.func39, Tryd.ntmps39
  go_wp2_with fail
  go_loop [5, 7, 10] (fun v _ i => ∃ (j : Nat), j ≤ C.length ∧ v = .int .i64 (cnt (P · d) C j : Nat) ∧ i = .int .i64 j) (fun _ _ i => C.length - (intOf i).toNat)
  case atStart => exact ⟨0, by omega, rfl, rfl⟩
  case round =>
    obtain ⟨j, hj, rfl, rfl⟩ := hrel
    by_cases hlt : j < C.length
    · obtain ⟨b, o, s, rfl, _, hs, c0⟩ := HR.out.txt j hlt
      have HC := Lib.hid (H1.out s (List.mem_of_getElem? hs.out))
      have HN := Lib.hid (cnt_next (P := (P · d)) hs.out)
      have g1 := cnt_le (P · d) C j
      have g2 := cnt_le (P · d) C (j + 1)
      rw [HN.out] at g2
      generalize cnt (P · d) C j = x at *
      generalize one01 (P s d) = y at *
      have b0 : (0 : Int) ≤ (j : Int) := by omega
      have b1 : (j : Int) < (C.length : Int) := by omega
      clear hs
      go_wp2_with fail
      refine HC.out.mono ?_
      rintro e w' ⟨rfl, rfl⟩
      go_wp2_with fail
      go_round
      case rel => exact ⟨j + 1, by omega, by rw [HN.out]; go_num, by go_num⟩
      case measure => simp [intOf]; omega
    · have hjk : j = C.length := by omega
      subst hjk
      go_wp2_with fail
      go_ret
      exact ⟨rfl, rfl⟩
set_option maxHeartbeats 1000000 in
theorem birdsOn_any (f : FuncId) (eg : Ent f) (P : ByteArray → Nat → Bool) (A : Option Addr) (cp : Nat) (C : List ByteArray) (h60 : C.length ≤ 60) (d : Nat) (hf : IsF f P C d) (w : World) (hr : Rd w w.heap.size A (txts C)) :
    Calls Tryd.prog 24 #[.int .i64 d, .slice A C.length cp, .func (.func f) #[] #[]] w fun e w' => e = .returned (.int .i64 (cnt (P · d) C C.length : Nat)) ∧ Below w.heap.size w w' := by
  have hsz : (w.alloc (.cells #[.int .i64 (d : Int)] 3)).heap.size = w.heap.size + 1 := by simp
  have hg1 := heap_alloc_new w (.cells #[.int .i64 (d : Int)] 3)
  have hb1 := (Below.refl w.heap.size w).alloc (Nat.le_refl _) (.cells #[.int .i64 (d : Int)] 3)
  obtain ⟨W, hW⟩ : ∃ W, w.alloc (.cells #[.int .i64 (d : Int)] 3) = W := ⟨_, rfl⟩
  rw [hW] at hg1 hb1 hsz
  obtain ⟨V, hV, hgV, hsV, hbV⟩ := one_blk W #[.func (.func f) #[] #[]] 61
  rw [hsz] at hgV
  have hB := hb1.trans (hbV.mono hb1.size)
  have hg2 := (hbV.block w.heap.size (by omega)).trans hg1
  have HSm := Lib.hid (sumStr_any f eg P A cp C h60 d hf (w.heap.size + 1) w.heap.size V ((hr.below hB (Nat.le_refl _)).more hB.size) (blk_cell hgV) (blk_cell hg2))
  have HB := Lib.hid hB
  have HW := Lib.hid (show (w.alloc (.cells #[.int .i64 (d : Int)] 3)).alloc (.cells #[.func (.func f) #[] #[]] 61) = V by rw [hW, hV])
  clear hsz hg1 hb1 hW hV hgV hsV hbV hB hg2 hr hf eg
  go_enter Tryd.func24, Tryd.ntmps24
  go_wp2_with fail
  rw [HW.out]
  refine HSm.out.mono ?_
  rintro e w' ⟨rfl, rfl⟩
  go_wp2_with fail
  go_ret
  exact ⟨rfl, HB.out⟩
end Go.Proofs.YtegehfcnclpdeabDoor
