/-
  Numbers of each day: the walks of daily, Alive, First, Lives. Condition: the list can be read.
-/
import Derived.Test.YtegehfcnclpdeabDoorHs5
namespace Go.Proofs.YtegehfcnclpdeabDoor
open Go.RowKit
set_option linter.unusedVariables false

theorem eInt : Elem Tryd.prog 37 3 (.int .i64 0) 1 8 := ⟨Tryd.underlying37, by kernel_rfl, rfl, by decide, by decide⟩
def rowZ (f : Nat → Nat) (n : Nat) : List Int := (List.range n).map fun p => (f p : Int)
theorem rowZ_len (f : Nat → Nat) (n : Nat) : (rowZ f n).length = n := by simp [rowZ]
theorem rowZ_at {f : Nat → Nat} {n j : Nat} (h : j < n) : (ints (rowZ f n)).toArray[j]? = some (.int .i64 (f j : Int)) := by simp [rowZ, ints, h]
theorem rowZ_congr {f g : Nat → Nat} {n : Nat} (h : ∀ j, j < n → f j = g j) : rowZ f n = rowZ g n := by
  unfold rowZ
  refine List.map_congr_left fun p hp => ?_
  rw [h p (List.mem_range.1 hp)]
theorem rowZ_set {f g : Nat → Nat} {n k : Nat} {x : Int} (hk : x = (g k : Int)) (hg : ∀ j, j ≠ k → g j = f j) : (ints (rowZ f n)).toArray.setIfInBounds k (.int .i64 x) = (ints (rowZ g n)).toArray := by
  rw [List.setIfInBounds_toArray]
  congr 1
  refine List.ext_getElem? fun j => ?_
  rw [List.getElem?_set]
  by_cases hj : j < n
  · have a1 := rowZ_at (f := f) hj
    have a2 := rowZ_at (f := g) hj
    rw [List.getElem?_toArray] at a1 a2
    rw [a1, a2]
    by_cases h : k = j
    · subst h
      rw [if_pos rfl, if_pos (by simp [rowZ, ints]; exact hj), hk]
    · rw [if_neg h, hg j fun e => h e.symm]
  · have e : ∀ f : Nat → Nat, (ints (rowZ f n))[j]? = none := fun f => by simp [rowZ, ints]; omega
    rw [e f, e g]
    split
    · rw [if_neg (by simp [rowZ, ints]; omega)]
    · rfl
theorem made_ints0 {w w1 : World} {n : Nat} (h : w1.ownsRow w.heap.size 3 1 (.slice (some ⟨w.heap.size, 0, none⟩) n n) n (madeCells (Value.int .i64 0).cells (n * 1)).toList) (hg : w.grownBy w1 none) :
    Below w.heap.size w w1 ∧ w1.heap[w.heap.size]? = some (.cells (ints (rowZ (fun _ => 0) n)).toArray 3 (0, 0)) := by
  refine ⟨(Below.refl _ _).grown hg (Nat.le_refl _) (by simp), ?_⟩
  have hcells : (madeCells (Value.int .i64 0).cells (n * 1)).toList = ints (rowZ (fun _ => 0) n) := by
    rw [Nat.mul_one]
    refine (toList_madeCells_one (.int .i64 0) n).trans ?_
    refine List.ext_getElem? fun j => ?_
    by_cases h : j < n
    · simp [rowZ, ints, h]
    · simp [rowZ, ints, h]
  rw [← hcells]
  exact own_full h
theorem grown_set1 (w : World) (b i : Nat) (u : Value) : w.grownBy (w.setCell ⟨b, i, none⟩ u) (some b) :=
  ⟨rfl, rfl, rfl, by simp [World.setCell], fun k hk hne => by
    have : k ≠ b := fun e => hne (by rw [e])
    simp [World.setCell, Array.getElem?_modify, Ne.symm this]⟩
/-- The numbers of the first j days, 0 for the rest. -/
def upTo (F : Nat → Nat) (j p : Nat) : Nat := if p < j then F p else 0
theorem upTo_step {F : Nat → Nat} {j p : Nat} (hp : p ≠ j) : upTo F (j + 1) p = upTo F j p := by
  unfold upTo
  by_cases h : p < j
  · rw [if_pos h, if_pos (by omega)]
  · rw [if_neg h, if_neg (by omega)]
def dayL (P : ByteArray → Nat → Bool) (C : List ByteArray) : List Int := if vhE C = 0 then rowZ (fun d => cnt (P · d) C C.length) (D0 C) else []
theorem vh_bird {C : List ByteArray} (h : vhE C = 0) : C.length ≤ 60 ∧ ∀ s ∈ C, s.size ≤ 8 ∧ s.size = D0 C ∧ bitsB s = true ∧ oneB s = true := by
  unfold vhE at h
  split at h
  · cases h
  · refine ⟨by omega, fun s hs => ?_⟩
    have hb := okH_of h s hs
    unfold birdE at hb
    split at hb
    · cases hb
    · split at hb
      · cases hb
      · rename_i h1 h2
        split at hb
        · cases hb
        · rename_i h3
          refine ⟨by omega, ?_, ?_, ?_⟩
          · rcases Nat.decEq s.size (D0 C) with h4 | h4
            · exact absurd (.inl h4) h2
            · exact h4
          · cases hb2 : bitsB s
            · exact absurd (.inr hb2) h2
            · rfl
          · cases ho : oneB s
            · exact absurd ho h3
            · rfl
theorem D0_le {C : List ByteArray} (h : vhE C = 0) : D0 C ≤ 8 := by
  cases C with
  | nil => exact Nat.zero_le _
  | cons s r => exact ((vh_bird h).2 s (by simp)).1
set_option maxRecDepth 8000 in
set_option maxHeartbeats 2000000 in
theorem daily_any (f : FuncId) (eg : Ent f) (P : ByteArray → Nat → Bool) (A : Option Addr) (cp : Nat) (C : List ByteArray) (hs : Sz C) (hl : C.length ≤ 9223372036854775807) (hf : vhE C = 0 → ∀ d, d < D0 C → IsF f P C d) (w : World) (hr : Rd w w.heap.size A (txts C)) :
    Calls Tryd.prog 28 #[.slice A C.length cp, .func (.func f) #[] #[]] w fun e w' => ∃ A' c', e = .returned (.tuple #[.slice A' (dayL P C).length c', .int .i64 (vhE C)]) ∧ Rd w' w'.heap.size A' (ints (dayL P C)) ∧ Below w.heap.size w w' := by
  have HV := Lib.hid (ValidateHistories_any A cp C hs hl w hr)
  have HDO := Lib.hid (fun w h => daysOf_any A cp C hs hl w h)
  have HR := Lib.hid hr
  clear hr hs
  by_cases hv : vhE C = 0
  · rw [hv] at HV
    have HE := Lib.hid hv
    obtain ⟨h60, hall⟩ := vh_bird hv
    have hD := D0_le hv
    have HBO := Lib.hid (fun d (hd : d < D0 C) w h => birdsOn_any f eg P A cp C h60 d (hf hv d hd) w h)
    have HL := Lib.hid (show dayL P C = rowZ (fun d => cnt (P · d) C C.length) (D0 C) from if_pos hv)
    have HCL := Lib.hid (fun d => show cnt (P · d) C C.length ≤ 60 from Nat.le_trans (cnt_le _ _ _) h60)
    generalize hF : (fun d => cnt (P · d) C C.length) = F at *
    have HF := Lib.hid (fun d => show cnt (P · d) C C.length = F d by rw [← hF])
    clear hF
    obtain ⟨i0, hi, hz0, hz1, hz2⟩ := info_parts eInt.hi
    obtain ⟨n, hn⟩ : ∃ n, n = D0 C := ⟨_, rfl⟩
    rw [← hn] at hD HDO HBO HL
    clear hv hall hn hf eg
    go_enter Tryd.func28, Tryd.ntmps28
    go_wp2_with fail
    refine HV.out.mono ?_
    rintro e w1 ⟨rfl, hb⟩
    have R1 := Lib.hid ((HR.out.below hb (Nat.le_refl _)).more hb.size)
    have B1 := Lib.hid hb
    clear hb
    go_wp2_with fail
    refine (HDO.out w1 R1.out).mono ?_
    rintro e w' ⟨rfl, rfl⟩
    go_wp2_with ((at_make; refine wpList_make_full _ rfl (.tmp 15) (.tmp 15) 37 rfl w1.heap.size 3 i0 (.int .i64 0) 1 Tryd.underlying37 hi hz0 hz1 .i64 .i64 _ _ n rfl rfl rfl rfl (by rw [hz2]; omega) (by simp only [maxLen]; omega) (Nat.le_refl _) ?_; intro w3 hown hgr; have MD := Lib.hid (made_ints0 hown hgr); clear hown hgr))
    go_loopw [8, 19] (fun _ i wr => ∃ j : Nat, j ≤ n ∧ i = .int .i64 j ∧ wr.heap[w1.heap.size]? = some (.cells (ints (rowZ (upTo F j) n)).toArray 3 (0, 0)) ∧ Below w1.heap.size w1 wr) (fun _ i _ => n - (intOf i).toNat)
    case atStart => exact ⟨0, by omega, rfl, by rw [MD.out.2, rowZ_congr (f := fun _ => 0) (g := upTo F 0) (fun j _ => rfl)], MD.out.1⟩
    case round =>
      obtain ⟨j, hj, rfl, h1, h2⟩ := hrel
      have F1 := Lib.hid h1
      have B2 := Lib.hid h2
      clear h1 h2
      by_cases hlt : j < n
      · have R2 := Lib.hid ((R1.out.below B2.out (Nat.le_refl _)).more B2.out.size)
        have HC := Lib.hid (HBO.out j hlt wr R2.out)
        rw [HF.out j] at HC
        have hFj := HCL.out j
        rw [HF.out j] at hFj
        have b0 : (0 : Int) ≤ (j : Int) := by omega
        have b1 : (j : Int) < (n : Int) := by omega
        have e1 : decide ((j : Int) < (n : Int)) = true := by simp; omega
        have e1' : decide (j < n) = true := by simp; omega
        go_wp2_with fail
        refine HC.out.mono ?_
        rintro e w4 ⟨rfl, hb⟩
        have hg4 := (hb.block _ (lt_of_block F1.out)).trans F1.out
        have c0 : w4.cell? ⟨w1.heap.size, j, none⟩ = some (.int .i64 ((upTo F j j : Nat) : Int)) := (blk_cell hg4).trans (rowZ_at hlt)
        have f0 := blk_free hg4 j
        have F4 := Lib.hid (show (w4.setCell ⟨w1.heap.size, j, none⟩ (.int .i64 (F j : Int))).heap[w1.heap.size]? = some (.cells (ints (rowZ (upTo F (j + 1)) n)).toArray 3 (0, 0)) by
          rw [blk_set hg4 j (.int .i64 (F j : Int)), rowZ_set (g := upTo F (j + 1)) (by unfold upTo; rw [if_pos (Nat.lt_succ_self j)]) (fun p hp => upTo_step hp)])
        have B4 := Lib.hid ((B2.out.trans (hb.mono B2.out.size)).grown (grown_set1 w4 w1.heap.size j (.int .i64 (F j : Int))) (by have := B2.out.size; have := hb.size; omega) fun q hq => by injection hq with hq; omega)
        clear hb hg4
        generalize F j = x at *
        go_wp2_with fail
        go_roundw
        case rel => exact ⟨j + 1, by omega, by go_num, F4.out, B4.out⟩
        case measure => simp [intOf]; omega
      · have hjn : j = n := by omega
        have e1 : decide ((j : Int) < (n : Int)) = false := by simp; omega
        have e1' : decide (j < n) = false := by simp; omega
        have HZ := Lib.hid (show rowZ (upTo F j) n = rowZ F n from rowZ_congr fun p hp => by unfold upTo; rw [if_pos (by omega)])
        clear hlt hjn
        go_wp2_with fail
        go_ret2
        refine ⟨some ⟨w1.heap.size, 0, none⟩, n, by rw [HL.out, HE.out, rowZ_len]; rfl, ?_, B1.out.trans (B2.out.mono B1.out.size)⟩
        rw [HL.out, ← HZ.out]
        exact Rd.of_block F1.out
  · have e1 : (vhE C != 0) = true := by simpa using hv
    have HL := Lib.hid (show dayL P C = [] from if_neg hv)
    clear hv hf eg
    generalize vhE C = E at *
    go_enter Tryd.func28, Tryd.ntmps28
    go_wp2_with fail
    refine HV.out.mono ?_
    rintro e w1 ⟨rfl, hb⟩
    have B1 := Lib.hid hb
    clear hb
    go_wp2_with fail
    go_ret2
    exact ⟨none, 0, by rw [HL.out]; rfl, by rw [HL.out]; exact Rd.nil_, B1.out⟩
theorem nwF {C : List ByteArray} (h : vhE C = 0) (d : Nat) (hd : d < D0 C) : IsF 30 nwB C d := fun s _ w => isNew_any s d w
theorem avF {C : List ByteArray} (h : vhE C = 0) (d : Nat) (hd : d < D0 C) : IsF 29 avB C d := fun s hs w => isAlive_any s d (by have := ((vh_bird h).2 s hs).1; omega) w
theorem mkF {C : List ByteArray} (h : vhE C = 0) (d : Nat) (hd : d < D0 C) : IsF 25 mkB C d := fun s _ w => isMarked_any s d w
theorem cgF {C : List ByteArray} (h : vhE C = 0) (d : Nat) (hd : d < D0 C) : IsF 26 hitB C d := fun s hs w => isCaught_any s d (by have := ((vh_bird h).2 s hs).2.1; omega) (by have := ((vh_bird h).2 s hs).1; omega) w
theorem agF {C : List ByteArray} (h : vhE C = 0) (d : Nat) (hd : d < D0 C) : IsF 27 agB C d := fun s hs w => isCaughtAgain_any s d (by have := ((vh_bird h).2 s hs).2.1; omega) (by have := ((vh_bird h).2 s hs).1; omega) w
def DayPost (P : ByteArray → Nat → Bool) (C : List ByteArray) (w : World) (e : Ending) (w' : World) : Prop := ∃ A' c', e = .returned (.tuple #[.slice A' (dayL P C).length c', .int .i64 (vhE C)]) ∧ Rd w' w'.heap.size A' (ints (dayL P C)) ∧ Below w.heap.size w w'
theorem First_any (A : Option Addr) (cp : Nat) (C : List ByteArray) (hs : Sz C) (hl : C.length ≤ 9223372036854775807) (w : World) (hr : Rd w w.heap.size A (txts C)) :
    Calls Tryd.prog 10 #[.slice A C.length cp] w fun e w' => DayPost nwB C w e w' := by
  have H := Lib.hid (daily_any 30 (enters_of Tryd.func30 (by kernel_rfl) rfl) nwB A cp C hs hl (fun h d hd => nwF h d hd) w hr)
  unfold DayPost
  go_enter Tryd.func10, Tryd.ntmps10
  go_wp2_with fail
  refine H.out.mono ?_
  rintro e w' ⟨A', c', rfl, hr', hb⟩
  go_wp2_with fail
  go_ret2
  exact ⟨A', c', rfl, hr', hb⟩
theorem Alive_any (A : Option Addr) (cp : Nat) (C : List ByteArray) (hs : Sz C) (hl : C.length ≤ 9223372036854775807) (w : World) (hr : Rd w w.heap.size A (txts C)) :
    Calls Tryd.prog 9 #[.slice A C.length cp] w fun e w' => DayPost avB C w e w' := by
  have H := Lib.hid (daily_any 29 (enters_of Tryd.func29 (by kernel_rfl) rfl) avB A cp C hs hl (fun h d hd => avF h d hd) w hr)
  unfold DayPost
  go_enter Tryd.func9, Tryd.ntmps9
  go_wp2_with fail
  refine H.out.mono ?_
  rintro e w' ⟨A', c', rfl, hr', hb⟩
  go_wp2_with fail
  go_ret2
  exact ⟨A', c', rfl, hr', hb⟩
end Go.Proofs.YtegehfcnclpdeabDoor
