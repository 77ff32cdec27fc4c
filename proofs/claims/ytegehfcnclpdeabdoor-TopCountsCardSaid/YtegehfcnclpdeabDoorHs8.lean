/-
  The catch of each day: the walk of Catches. Condition: the list can be read.
-/
import Derived.Test.YtegehfcnclpdeabDoorHs7
namespace Go.Proofs.YtegehfcnclpdeabDoor
open Go.RowKit
set_option linter.unusedVariables false

theorem eCat : Elem Tryd.prog 34 42 (.agg #[.int .i64 0, .int .i64 0, .int .i64 0]) 3 24 := ⟨Tryd.underlying34, by kernel_rfl, rfl, by decide, by decide⟩
theorem made_zero3 (n : Nat) : (madeCells #[.int .i64 0, .int .i64 0, .int .i64 0] n).toList = ints (rowZ (fun _ => 0) n) := by
  refine List.ext_getElem? fun j => ?_
  by_cases h : j < n
  · have h3 : j % 3 = 0 ∨ j % 3 = 1 ∨ j % 3 = 2 := by omega
    rcases h3 with h3 | h3 | h3 <;> simp [madeCells, rowZ, ints, h, h3]
  · simp [madeCells, rowZ, ints, h]
theorem own_full3 {w : World} {base g n : Nat} {e : TypeId} {xs : List Value} (h : w.ownsRow base e 3 (.slice (some ⟨g, 0, none⟩) n n) n xs) : w.heap[g]? = some (.cells xs.toArray e (0, 0)) := by
  rcases h.2 with ⟨hv, _⟩ | ⟨g', cap, cur, hv, _, hg, _, _, hcs, htake⟩
  · cases hv
  · injection hv with h1 h2 h3
    injection h1 with h1
    injection h1 with h1
    subst h1; subst h3
    have : cur.toList = xs := by rw [← htake, List.take_of_length_le (by simp [hcs])]
    rw [← this]
    simpa using hg
theorem made_cats {w w1 : World} {n : Nat} (h : w1.ownsRow w.heap.size 42 3 (.slice (some ⟨w.heap.size, 0, none⟩) n n) n (madeCells (Value.agg #[.int .i64 0, .int .i64 0, .int .i64 0]).cells (n * 3)).toList) (hg : w.grownBy w1 none) :
    Below w.heap.size w w1 ∧ w1.heap[w.heap.size]? = some (.cells (ints (rowZ (fun _ => 0) (n * 3))).toArray 42 (0, 0)) := by
  refine ⟨(Below.refl _ _).grown hg (Nat.le_refl _) (by simp), ?_⟩
  rw [← made_zero3]
  exact own_full3 h
/-- The three numbers of each day. -/
def catG (C : List ByteArray) (p : Nat) : Nat :=
  if p % 3 = 0 then cnt (mkB · (p / 3)) C C.length else if p % 3 = 1 then cnt (hitB · (p / 3)) C C.length else cnt (agB · (p / 3)) C C.length
theorem catG_0 (C : List ByteArray) (d : Nat) : catG C (d * 3) = cnt (mkB · d) C C.length := by
  unfold catG
  rw [if_pos (by omega), show d * 3 / 3 = d from by omega]
theorem catG_1 (C : List ByteArray) (d : Nat) : catG C (d * 3 + 1) = cnt (hitB · d) C C.length := by
  unfold catG
  rw [if_neg (by omega), if_pos (by omega), show (d * 3 + 1) / 3 = d from by omega]
theorem catG_2 (C : List ByteArray) (d : Nat) : catG C (d * 3 + 2) = cnt (agB · d) C C.length := by
  unfold catG
  rw [if_neg (by omega), if_neg (by omega), show (d * 3 + 2) / 3 = d from by omega]
def catC (C : List ByteArray) : List Value := if vhE C = 0 then ints (rowZ (catG C) (D0 C * 3)) else []
def catN (C : List ByteArray) : Nat := if vhE C = 0 then D0 C else 0
def CatPost (C : List ByteArray) (w : World) (e : Ending) (w' : World) : Prop := ∃ A' c', e = .returned (.tuple #[.slice A' (catN C) c', .int .i64 (vhE C)]) ∧ Rd w' w'.heap.size A' (catC C) ∧ Below w.heap.size w w'
/-- Three cells, stored anew. -/
def set3 (W : World) (g o : Nat) (a b c : Value) : World := ((W.setCell ⟨g, o, none⟩ a).setCell ⟨g, o + 1, none⟩ b).setCell ⟨g, o + 2, none⟩ c
theorem put3 {W : World} {g n j : Nat} {F : Nat → Nat} {t : TypeId} (hj : j < n) (h : W.heap[g]? = some (.cells (ints (rowZ (upTo F (j * 3)) (n * 3))).toArray t (0, 0))) {a b c : Nat} (ha : F (j * 3) = a) (hb : F (j * 3 + 1) = b) (hc : F (j * 3 + 2) = c) :
    (W.cell? ⟨g, j * 3, none⟩ = some (.int .i64 ((upTo F (j * 3) (j * 3) : Nat) : Int)) ∧ W.frozen? ⟨g, j * 3, none⟩ = false) ∧
    ((W.setCell ⟨g, j * 3, none⟩ (.int .i64 (a : Int))).cell? ⟨g, j * 3 + 1, none⟩ = some (.int .i64 ((upTo F (j * 3 + 1) (j * 3 + 1) : Nat) : Int)) ∧ (W.setCell ⟨g, j * 3, none⟩ (.int .i64 (a : Int))).frozen? ⟨g, j * 3 + 1, none⟩ = false) ∧
    (((W.setCell ⟨g, j * 3, none⟩ (.int .i64 (a : Int))).setCell ⟨g, j * 3 + 1, none⟩ (.int .i64 (b : Int))).cell? ⟨g, j * 3 + 2, none⟩ = some (.int .i64 ((upTo F (j * 3 + 2) (j * 3 + 2) : Nat) : Int)) ∧ ((W.setCell ⟨g, j * 3, none⟩ (.int .i64 (a : Int))).setCell ⟨g, j * 3 + 1, none⟩ (.int .i64 (b : Int))).frozen? ⟨g, j * 3 + 2, none⟩ = false) ∧
    Hid ((set3 W g (j * 3) (.int .i64 (a : Int)) (.int .i64 (b : Int)) (.int .i64 (c : Int))).heap[g]? = some (.cells (ints (rowZ (upTo F ((j + 1) * 3)) (n * 3))).toArray t (0, 0))) := by
  have st : ∀ k, (upTo F (k + 1)) k = F k := fun k => by unfold upTo; rw [if_pos (Nat.lt_succ_self k)]
  have h1 := blk_set h (j * 3) (.int .i64 (a : Int))
  rw [rowZ_set (g := upTo F (j * 3 + 1)) (by rw [st, ha]) (fun p hp => upTo_step hp)] at h1
  have h2 := blk_set h1 (j * 3 + 1) (.int .i64 (b : Int))
  rw [rowZ_set (g := upTo F (j * 3 + 1 + 1)) (by rw [st, hb]) (fun p hp => upTo_step hp)] at h2
  have h3 := blk_set h2 (j * 3 + 2) (.int .i64 (c : Int))
  rw [rowZ_set (g := upTo F (j * 3 + 1 + 1 + 1)) (by rw [st, hc]) (fun p hp => upTo_step hp)] at h3
  exact ⟨⟨(blk_cell h).trans (rowZ_at (by omega)), blk_free h _⟩, ⟨(blk_cell h1).trans (rowZ_at (by omega)), blk_free h1 _⟩, ⟨(blk_cell h2).trans (rowZ_at (by omega)), blk_free h2 _⟩, Lib.hid (by rw [show (j + 1) * 3 = j * 3 + 1 + 1 + 1 from by omega]; exact h3)⟩
theorem put3_below {B : Nat} {w W : World} {g o : Nat} (a b c : Value) (h : Below B w W) (hg : B ≤ g) (hs : B ≤ W.heap.size) : Below B w (set3 W g o a b c) :=
  h.grown (((grown_set1 W g o a).trans (grown_set1 _ g (o + 1) b)).trans (grown_set1 _ g (o + 2) c)) hs fun q hq => by injection hq with hq; omega
set_option maxRecDepth 8000 in
set_option maxHeartbeats 4000000 in
theorem Catches_any (A : Option Addr) (cp : Nat) (C : List ByteArray) (hs : Sz C) (hl : C.length ≤ 9223372036854775807) (w : World) (hr : Rd w w.heap.size A (txts C)) :
    Calls Tryd.prog 8 #[.slice A C.length cp] w fun e w' => CatPost C w e w' := by
  have HV := Lib.hid (ValidateHistories_any A cp C hs hl w hr)
  have HDO := Lib.hid (fun w h => daysOf_any A cp C hs hl w h)
  have HR := Lib.hid hr
  unfold CatPost
  clear hr hs
  by_cases hv : vhE C = 0
  · rw [hv] at HV
    have HE := Lib.hid hv
    obtain ⟨h60, hall⟩ := vh_bird hv
    have hD := D0_le hv
    have HM := Lib.hid (fun d (hd : d < D0 C) w h => birdsOn_any 25 (enters_of Tryd.func25 (by kernel_rfl) rfl) mkB A cp C h60 d (mkF hv d hd) w h)
    have HC := Lib.hid (fun d (hd : d < D0 C) w h => birdsOn_any 26 (enters_of Tryd.func26 (by kernel_rfl) rfl) hitB A cp C h60 d (cgF hv d hd) w h)
    have HG := Lib.hid (fun d (hd : d < D0 C) w h => birdsOn_any 27 (enters_of Tryd.func27 (by kernel_rfl) rfl) agB A cp C h60 d (agF hv d hd) w h)
    have HL := Lib.hid (show catC C = ints (rowZ (catG C) (D0 C * 3)) from if_pos hv)
    have HN := Lib.hid (show catN C = D0 C from if_pos hv)
    obtain ⟨i0, hi, hz0, hz1, hz2⟩ := info_parts eCat.hi
    obtain ⟨n, hn⟩ : ∃ n, n = D0 C := ⟨_, rfl⟩
    rw [← hn] at hD HDO HM HC HG HL HN
    clear hv hall hn
    go_enter Tryd.func8, Tryd.ntmps8
    go_wp2_with fail
    refine HV.out.mono ?_
    rintro e w1 ⟨rfl, hb⟩
    have R1 := Lib.hid ((HR.out.below hb (Nat.le_refl _)).more hb.size)
    have B1 := Lib.hid hb
    clear hb
    go_wp2_with fail
    refine (HDO.out w1 R1.out).mono ?_
    rintro e w' ⟨rfl, rfl⟩
    go_wp2_with ((at_make; refine wpList_make_full _ rfl (.tmp 13) (.tmp 13) 34 rfl w1.heap.size 42 i0 (.agg #[.int .i64 0, .int .i64 0, .int .i64 0]) 3 Tryd.underlying34 hi hz0 hz1 .i64 .i64 _ _ n rfl rfl rfl rfl (by rw [hz2]; omega) (by simp only [maxLen]; omega) (Nat.le_refl _) ?_; intro w3 hown hgr; have MD := Lib.hid (made_cats hown hgr); clear hown hgr))
    go_loopw [6, 17] (fun _ i wr => ∃ j : Nat, j ≤ n ∧ i = .int .i64 j ∧ wr.heap[w1.heap.size]? = some (.cells (ints (rowZ (upTo (catG C) (j * 3)) (n * 3))).toArray 42 (0, 0)) ∧ Below w1.heap.size w1 wr) (fun _ i _ => n - (intOf i).toNat)
    case atStart => exact ⟨0, by omega, rfl, by rw [MD.out.2, rowZ_congr (f := fun _ => 0) (g := upTo (catG C) (0 * 3)) (fun j _ => rfl)], MD.out.1⟩
    case round =>
      obtain ⟨j, hj, rfl, h1, h2⟩ := hrel
      have F1 := Lib.hid h1
      have B2 := Lib.hid h2
      clear h1 h2
      by_cases hlt : j < n
      · have R2 := Lib.hid ((R1.out.below B2.out (Nat.le_refl _)).more B2.out.size)
        obtain ⟨x, hx⟩ : ∃ x, catG C (j * 3) = x := ⟨_, rfl⟩
        obtain ⟨y, hy⟩ : ∃ y, catG C (j * 3 + 1) = y := ⟨_, rfl⟩
        obtain ⟨z, hz⟩ : ∃ z, catG C (j * 3 + 2) = z := ⟨_, rfl⟩
        have Hx := Lib.hid hx
        have Hy := Lib.hid hy
        have Hz := Lib.hid hz
        have KM := Lib.hid (fun w h => HM.out j hlt w h)
        have KC := Lib.hid (fun w h => HC.out j hlt w h)
        have KG := Lib.hid (fun w h => HG.out j hlt w h)
        rw [← catG_0, hx] at KM
        rw [← catG_1, hy] at KC
        rw [← catG_2, hz] at KG
        have b0 : (0 : Int) ≤ (j : Int) := by omega
        have b1 : (j : Int) < (n : Int) := by omega
        have e1 : decide ((j : Int) < (n : Int)) = true := by simp; omega
        have e1' : decide (j < n) = true := by simp; omega
        clear hx hy hz
        go_wp2_with fail
        refine (KM.out wr R2.out).mono ?_
        rintro e w4 ⟨rfl, hb⟩
        have B4 := Lib.hid hb
        have R4 := Lib.hid ((R2.out.below hb (Nat.le_refl _)).more hb.size)
        clear hb
        go_wp2_with fail
        refine (KC.out w4 R4.out).mono ?_
        rintro e w5 ⟨rfl, hb⟩
        have B5 := Lib.hid hb
        have R5 := Lib.hid ((R4.out.below hb (Nat.le_refl _)).more hb.size)
        clear hb
        go_wp2_with fail
        refine (KG.out w5 R5.out).mono ?_
        rintro e w6 ⟨rfl, hb⟩
        have B6 := Lib.hid ((B2.out.trans ((B4.out.trans (B5.out.mono B4.out.size)).mono B2.out.size)).trans (hb.mono (by have := B2.out.size; have := B4.out.size; have := B5.out.size; omega)))
        have hg6 := (hb.block w1.heap.size (by have := lt_of_block F1.out; have := B4.out.size; have := B5.out.size; omega)).trans ((B5.out.block w1.heap.size (by have := lt_of_block F1.out; have := B4.out.size; omega)).trans ((B4.out.block _ (lt_of_block F1.out)).trans F1.out))
        obtain ⟨⟨c0, f0⟩, ⟨c1, f1⟩, ⟨c2, f2⟩, F7⟩ := put3 hlt hg6 Hx.out Hy.out Hz.out
        have B7 := Lib.hid (put3_below (o := j * 3) (.int .i64 (x : Int)) (.int .i64 (y : Int)) (.int .i64 (z : Int)) B6.out (Nat.le_refl _) B6.out.size)
        clear hb hg6
        go_wp2_with fail
        go_roundw
        case rel => exact ⟨j + 1, by omega, by go_num, F7.out, B7.out⟩
        case measure => simp [intOf]; omega
      · have hjn : j = n := by omega
        have e1 : decide ((j : Int) < (n : Int)) = false := by simp; omega
        have e1' : decide (j < n) = false := by simp; omega
        have HZ := Lib.hid (show rowZ (upTo (catG C) (j * 3)) (n * 3) = rowZ (catG C) (n * 3) from rowZ_congr fun p hp => by unfold upTo; rw [if_pos (by omega)])
        clear hlt hjn
        go_wp2_with fail
        go_ret2
        refine ⟨some ⟨w1.heap.size, 0, none⟩, n, by rw [HN.out, HE.out]; rfl, ?_, B1.out.trans (B2.out.mono B1.out.size)⟩
        rw [HL.out, ← HZ.out]
        exact Rd.of_block F1.out
  · have e1 : (vhE C != 0) = true := by simpa using hv
    have HL := Lib.hid (show catC C = [] from if_neg hv)
    have HN := Lib.hid (show catN C = 0 from if_neg hv)
    clear hv
    generalize vhE C = E at *
    go_enter Tryd.func8, Tryd.ntmps8
    go_wp2_with fail
    refine HV.out.mono ?_
    rintro e w1 ⟨rfl, hb⟩
    have B1 := Lib.hid hb
    clear hb
    go_wp2_with fail
    go_ret2
    exact ⟨none, 0, by rw [HN.out]; rfl, by rw [HL.out]; exact Rd.nil_, B1.out⟩
end Go.Proofs.YtegehfcnclpdeabDoor
