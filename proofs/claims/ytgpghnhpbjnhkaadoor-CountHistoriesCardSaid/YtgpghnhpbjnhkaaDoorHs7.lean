/-
  How long each bird is known to be alive: the walk of Lives. Condition: the list can be read.
-/
import Derived.Test.YtgpghnhpbjnhkaaDoorHs6
namespace Go.Proofs.YtgpghnhpbjnhkaaDoor
open Go.RowKit
set_option linter.unusedVariables false

def lvN (s : ByteArray) : Nat := (lD s - fD s + 1).toNat
def lvAt (C : List ByteArray) (k : Nat) : Nat := lvN (C.getD k ⟨#[]⟩)
def livL (C : List ByteArray) : List Int := if vhE C = 0 then rowZ (lvAt C) C.length else []
theorem lv_one {s : ByteArray} (h : oneB s = true) : ∃ f l : Nat, fD s = f ∧ lD s = l ∧ f ≤ l ∧ l < s.size ∧ hitB s f = true ∧ hitB s l = true ∧ (∀ d, d < f → hitB s d = false) ∧ (∀ d, l < d → hitB s d = false) ∧ lvN s = l - f + 1 := by
  obtain ⟨d, _, hd, hh⟩ := inB_iff.1 h
  rcases fD_spec s with ⟨_, h0⟩ | ⟨f, ef, hf, hf2⟩
  · rw [h0 d] at hh; cases hh
  · rcases lD_spec s with ⟨_, h0⟩ | ⟨l, el, hl, hl2⟩
    · rw [h0 d] at hh; cases hh
    · have hfl : f ≤ l := by
        rcases Nat.lt_or_ge l f with h1 | h1
        · rw [hl2 f h1] at hf; cases hf
        · exact h1
      exact ⟨f, l, ef, el, hfl, hit_lt hl, hf, hl, hf2, hl2, by unfold lvN; rw [ef, el]; omega⟩
def LivPost (C : List ByteArray) (w : World) (e : Ending) (w' : World) : Prop := ∃ A' c', e = .returned (.tuple #[.slice A' (livL C).length c', .int .i64 (vhE C)]) ∧ Rd w' w'.heap.size A' (ints (livL C)) ∧ Below w.heap.size w w'
set_option maxRecDepth 8000 in
set_option maxHeartbeats 2000000 in
theorem Lives_any (A : Option Addr) (cp : Nat) (C : List ByteArray) (hs : Sz C) (hl : C.length ≤ 9223372036854775807) (w : World) (hr : Rd w w.heap.size A (txts C)) :
    Calls Tryd.prog 16 #[.slice A C.length cp] w fun e w' => LivPost C w e w' := by
  have HV := Lib.hid (ValidateHistories_any A cp C hs hl w hr)
  have HR := Lib.hid hr
  unfold LivPost
  clear hr hs
  by_cases hv : vhE C = 0
  · rw [hv] at HV
    have HE := Lib.hid hv
    obtain ⟨h60, hall⟩ := vh_bird hv
    have HA := Lib.hid hall
    have HL := Lib.hid (show livL C = rowZ (lvAt C) C.length from if_pos hv)
    obtain ⟨i0, hi, hz0, hz1, hz2⟩ := info_parts eInt.hi
    have HT := Lib.hid (fun w1 (h : Rd w1 w.heap.size A (txts C)) k hk => h.txt k hk)
    obtain ⟨n, hn⟩ : ∃ n, C.length = n := ⟨_, rfl⟩
    rw [hn] at h60 HL HT ⊢
    have HN := Lib.hid hn
    clear hv hall hn
    go_enter Tryd.func16, Tryd.ntmps16
    go_wp2_with fail
    rw [← HN.out]
    refine HV.out.mono ?_
    rw [HN.out]
    rintro e w1 ⟨rfl, hb⟩
    have R1 := Lib.hid (HR.out.below hb (Nat.le_refl _))
    have B1 := Lib.hid hb
    clear hb
    go_wp2_with ((at_make; refine wpList_make_full _ rfl (.tmp 15) (.tmp 15) 29 rfl w1.heap.size 3 i0 (.int .i64 0) 1 Tryd.underlying29 hi hz0 hz1 .i64 .i64 _ _ n rfl rfl rfl rfl (by rw [hz2]; omega) (by simp only [maxLen]; omega) (Nat.le_refl _) ?_; intro w3 hown hgr; have MD := Lib.hid (made_ints0 hown hgr); clear hown hgr))
    go_loopw [6, 19] (fun _ i wr => ∃ j : Nat, j ≤ n ∧ i = .int .i64 j ∧ wr.heap[w1.heap.size]? = some (.cells (ints (rowZ (upTo (lvAt C) j) n)).toArray 3 (0, 0)) ∧ Below w1.heap.size w1 wr) (fun _ i _ => n - (intOf i).toNat)
    case atStart => exact ⟨0, by omega, rfl, by rw [MD.out.2, rowZ_congr (f := fun _ => 0) (g := upTo (lvAt C) 0) (fun j _ => rfl)], MD.out.1⟩
    case round =>
      obtain ⟨j, hj, rfl, h1, h2⟩ := hrel
      have F1 := Lib.hid h1
      have B2 := Lib.hid h2
      clear h1 h2
      by_cases hlt : j < n
      · have hr2 : Rd wr w.heap.size A (txts C) := R1.out.below B2.out B1.out.size
        obtain ⟨b, o, z, hA, _, hz, c1⟩ := HT.out wr hr2 j hlt
        have HZ := hz
        have hA' := Lib.hid hA
        obtain ⟨h8, _, _, h1b⟩ := HA.out z (List.mem_of_getElem? hz.out)
        obtain ⟨f, l, ef, el, hfl, hls, _, _, _, _, en⟩ := lv_one h1b
        have HF := Lib.hid (fun w => first_any z w)
        have HLa := Lib.hid (fun w => last_any z (by omega) w)
        rw [ef] at HF
        rw [el] at HLa
        have hat : lvAt C j = l - f + 1 := by
          have hC : C[j]? = some z := hz.out
          unfold lvAt
          rw [List.getD_eq_getElem?_getD, hC]
          exact en
        have b0 : (0 : Int) ≤ (j : Int) := by omega
        have b1 : (j : Int) < (n : Int) := by omega
        have e1 : decide ((j : Int) < (n : Int)) = true := by simp; omega
        have e1' : decide (j < n) = true := by simp; omega
        have hg4 := F1.out
        have c0 : wr.cell? ⟨w1.heap.size, j, none⟩ = some (.int .i64 ((upTo (lvAt C) j j : Nat) : Int)) := (blk_cell hg4).trans (rowZ_at hlt)
        have f0 := blk_free hg4 j
        have F4 := Lib.hid (show (wr.setCell ⟨w1.heap.size, j, none⟩ (.int .i64 ((l : Int) - (f : Int) + 1))).heap[w1.heap.size]? = some (.cells (ints (rowZ (upTo (lvAt C) (j + 1)) n)).toArray 3 (0, 0)) by
          rw [blk_set hg4 j _, rowZ_set (g := upTo (lvAt C) (j + 1)) (by unfold upTo; rw [if_pos (Nat.lt_succ_self j), hat]; omega) (fun p hp => upTo_step hp)])
        have B4 := Lib.hid (B2.out.grown (grown_set1 wr w1.heap.size j (.int .i64 ((l : Int) - (f : Int) + 1))) (by have := B2.out.size; omega) fun q hq => by injection hq with hq; omega)
        subst hA
        clear hr2 hz hg4 ef el en hat h1b HZ hA'
        go_wp2_with fail
        refine (HLa.out wr).mono ?_
        rintro e w' ⟨rfl, rfl⟩
        go_wp2_with fail
        refine (HF.out _).mono ?_
        rintro e w' ⟨rfl, rfl⟩
        go_wp2_with fail
        go_roundw
        case rel => exact ⟨j + 1, by omega, by go_num, F4.out, B4.out⟩
        case measure => simp [intOf]; omega
      · have hjn : j = n := by omega
        have e1 : decide ((j : Int) < (n : Int)) = false := by simp; omega
        have e1' : decide (j < n) = false := by simp; omega
        have HZ := Lib.hid (show rowZ (upTo (lvAt C) j) n = rowZ (lvAt C) n from rowZ_congr fun p hp => by unfold upTo; rw [if_pos (by omega)])
        clear hlt hjn
        go_wp2_with fail
        go_ret2
        refine ⟨some ⟨w1.heap.size, 0, none⟩, n, by rw [HL.out, HE.out, rowZ_len]; rfl, ?_, B1.out.trans (B2.out.mono B1.out.size)⟩
        rw [HL.out, ← HZ.out]
        exact Rd.of_block F1.out
  · have e1 : (vhE C != 0) = true := by simpa using hv
    have HL := Lib.hid (show livL C = [] from if_neg hv)
    clear hv
    generalize vhE C = E at *
    go_enter Tryd.func16, Tryd.ntmps16
    go_wp2_with fail
    refine HV.out.mono ?_
    rintro e w1 ⟨rfl, hb⟩
    have B1 := Lib.hid hb
    clear hb
    go_wp2_with fail
    go_ret2
    exact ⟨none, 0, by rw [HL.out]; rfl, by rw [HL.out]; exact Rd.nil_, B1.out⟩
end Go.Proofs.YtgpghnhpbjnhkaaDoor
