/-
  The catch of each day: the walk of Catches of the reference. Condition: the list can be read.
-/
import Derived.Test.YtgpghnhpbjnhkaaDoorHsb
namespace Go.Proofs.YtgpghnhpbjnhkaaDoor
open Go.RowKit
set_option linter.unusedVariables false

def mkR (s : ByteArray) (d : Nat) : Bool := inB s 0 d
def cgR (s : ByteArray) (d : Nat) : Bool := inB s d (d + 1)
def agR (s : ByteArray) (d : Nat) : Bool := inB s 0 d && inB s d (d + 1)
def catR (C : List ByteArray) (p : Nat) : Nat :=
  if p % 3 = 0 then cnt (mkR · (p / 3)) C C.length else if p % 3 = 1 then cnt (cgR · (p / 3)) C C.length else cnt (agR · (p / 3)) C C.length
theorem catR_0 (C : List ByteArray) (d : Nat) : catR C (d * 3) = cnt (mkR · d) C C.length := by
  unfold catR
  rw [if_pos (by omega), show d * 3 / 3 = d from by omega]
theorem catR_1 (C : List ByteArray) (d : Nat) : catR C (d * 3 + 1) = cnt (cgR · d) C C.length := by
  unfold catR
  rw [if_neg (by omega), if_pos (by omega), show (d * 3 + 1) / 3 = d from by omega]
theorem catR_2 (C : List ByteArray) (d : Nat) : catR C (d * 3 + 2) = cnt (agR · d) C C.length := by
  unfold catR
  rw [if_neg (by omega), if_neg (by omega), show (d * 3 + 2) / 3 = d from by omega]
theorem row_snoc3 (F : Nat → Nat) (j : Nat) {a b c : Nat} (ha : F (j * 3) = a) (hb : F (j * 3 + 1) = b) (hc : F (j * 3 + 2) = c) : ints (rowZ F ((j + 1) * 3)) = ints (rowZ F (j * 3)) ++ [.int .i64 (a : Int), .int .i64 (b : Int), .int .i64 (c : Int)] := by
  rw [show (j + 1) * 3 = j * 3 + 1 + 1 + 1 from by omega, rowZ_snoc, rowZ_snoc, rowZ_snoc, show j * 3 + 1 + 1 = j * 3 + 2 from rfl, ha, hb, hc]
  simp
def catD (C : List ByteArray) : List Value := if vhE C = 0 then ints (rowZ (catR C) (D0 C * 3)) else []
def CadPost (C : List ByteArray) (w : World) (e : Ending) (w' : World) : Prop := ∃ A' c', e = .returned (.tuple #[.slice A' (catN C) c', .int .i64 (vhE C)]) ∧ Rd w' w'.heap.size A' (catD C) ∧ Below w.heap.size w w'
set_option maxRecDepth 8000 in
set_option maxHeartbeats 4000000 in
theorem rCatches_any (A : Option Addr) (cp : Nat) (C : List ByteArray) (hs : Sz C) (hl : C.length ≤ 9223372036854775807) (w : World) (hr : Rd w w.heap.size A (txts C)) :
    Calls Tryd.prog 8 #[.slice A C.length cp] w fun e w' => CadPost C w e w' := by
  have HV := Lib.hid (rValidateHistories_any A cp C hs hl w hr)
  have HDY := Lib.hid (fun w h => days_any A cp C hs hl w h)
  have HR := Lib.hid hr
  unfold CadPost
  clear hr hs
  by_cases hv : vhE C = 0
  · rw [hv] at HV
    have HE := Lib.hid hv
    obtain ⟨h60, hall⟩ := vh_bird hv
    have hD := D0_le hv
    have HA := Lib.hid hall
    obtain ⟨n, hn⟩ : ∃ n, n = D0 C := ⟨_, rfl⟩
    have HL := Lib.hid (show catD C = ints (rowZ (catR C) (n * 3)) by rw [hn]; exact if_pos hv)
    have HN := Lib.hid (show catN C = n by rw [hn]; exact if_pos hv)
    rw [← hn] at hD HDY HA
    have HT := Lib.hid (fun w1 (h : Rd w1 w.heap.size A (txts C)) k hk => h.txt k hk)
    obtain ⟨m, hm⟩ : ∃ m, C.length = m := ⟨_, rfl⟩
    have HMC := Lib.hid hm
    rw [hm] at HT HV HDY h60 ⊢
    clear hv hall hn hm
    go_enter Tryd.func8, Tryd.ntmps8
    go_wp2_with fail
    refine HV.out.mono ?_
    rintro e w1 ⟨rfl, m0, hw1⟩
    have R1 := Lib.hid (show Rd w1 w.heap.size A (txts C) by rw [hw1]; exact HR.out.drewN m0)
    have B1 := Lib.hid (show Below w.heap.size w w1 by rw [hw1]; exact bdH (Below.refl _ _) m0)
    clear hw1
    go_wp2_with fail
    go_loopw [5, 6] (fun v i wr => ∃ (j : Nat) (A' : Option Addr) (c' : Nat), j ≤ n ∧ v = .slice A' j c' ∧ i = .int .i64 j ∧ wr.ownsRow w1.heap.size 35 3 (.slice A' j c') j (ints (rowZ (catR C) (j * 3))) ∧ Below w1.heap.size w1 wr) (fun _ i _ => n - (intOf i).toNat)
    case atStart => exact ⟨0, none, 0, by omega, rfl, rfl, ⟨rfl, .inl ⟨rfl, rfl⟩⟩, Below.refl _ _⟩
    case round =>
      obtain ⟨j, A', c', hj, rfl, rfl, h1, h2⟩ := hrel
      have OW := Lib.hid h1
      have B2 := Lib.hid h2
      have R2 := Lib.hid (R1.out.below h2 B1.out.size)
      have R3 := Lib.hid (R2.out.more (Nat.le_trans B1.out.size h2.size))
      clear h1 h2
      by_cases hlt : j < n
      · have e1 : decide ((j : Int) < (n : Int)) = true := by simp; omega
        have e1' : decide (j < n) = true := by simp; omega
        obtain ⟨W, hW, hgW, hsW, hbW⟩ := one_blk wr #[.int .i64 0, .int .i64 0, .int .i64 0] 35
        have HW0 := Lib.hid hW
        have HGW := Lib.hid hgW
        have HBW := Lib.hid hbW
        have HSW := Lib.hid hsW
        clear hW hgW hsW hbW
        go_wp2_with fail
        refine (HDY.out wr R3.out).mono ?_
        rintro e w' ⟨rfl, rfl⟩
        go_wp2_with fail
        clear e1 e1'
        obtain ⟨wo, rfl⟩ : ∃ wo : World, wo = wr := ⟨_, rfl⟩
        rw [HW0.out]
        obtain ⟨g, hg⟩ : ∃ g, g = wo.heap.size := ⟨_, rfl⟩
        have HGG := Lib.hid hg
        rw [← hg] at HGW HSW
        simp only [← hg]
        clear hg
        go_loopw [8] (fun i wq => ∃ k : Nat, k ≤ m ∧ i = .int .i64 k ∧ wq.heap[g]? = some (.cells #[.int .i64 (cnt (mkR · j) C k : Nat), .int .i64 (cnt (cgR · j) C k : Nat), .int .i64 (cnt (agR · j) C k : Nat)] 35 (0, 0)) ∧ Below wo.heap.size wo wq) (fun i _ => m - (intOf i).toNat)
        case atStart => exact ⟨0, by omega, rfl, HGW.out, HBW.out⟩
        case round =>
          obtain ⟨k, hk, rfl, h1, h2⟩ := hrel
          have G1 := Lib.hid h1
          have B3 := Lib.hid h2
          have hgB : wo.heap.size ≤ g := by rw [HGG.out]; exact Nat.le_refl _
          clear h1 h2
          by_cases hlk : k < m
          · have hR4 : Rd wr w.heap.size A (txts C) := R2.out.below B3.out (Nat.le_trans B1.out.size B2.out.size)
            obtain ⟨b, off, z, hA, _, hz, c1⟩ := HT.out wr hR4 k hlk
            obtain ⟨h8, hsz, hbt, hon⟩ := HA.out z (List.mem_of_getElem? hz.out)
            have n0 := cnt_next (P := (mkR · j)) hz.out
            have n1 := cnt_next (P := (cgR · j)) hz.out
            have n2 := cnt_next (P := (agR · j)) hz.out
            have b0 : (0 : Int) ≤ (k : Int) := by omega
            have b1 : (k : Int) < (m : Int) := by omega
            have e2 : decide ((k : Int) < (m : Int)) = true := by simp; omega
            have e2' : decide (k < m) = true := by simp; omega
            have hwr : IntKind.i64.wrap ((j : Int) + 1) = (j : Int) + 1 := by rw [IntKind.wrap_i64]; omega
            have HC0 := Lib.hid (fun w => show Calls Tryd.prog 27 #[.string z, .int .i64 0, .int .i64 (j : Int)] w fun e w' => e = .returned (.bool (inB z 0 j)) ∧ w = w' from caught_any z 0 j (by omega) (by omega) (by omega) w)
            have HC1 := Lib.hid (fun w => show Calls Tryd.prog 27 #[.string z, .int .i64 (j : Int), .int .i64 ((j : Int) + 1)] w fun e w' => e = .returned (.bool (inB z j (j + 1))) ∧ w = w' from caught_any z j (j + 1) (by omega) (by omega) (by omega) w)
            have p0 : mkR z j = inB z 0 j := rfl
            have p1 : cgR z j = inB z j (j + 1) := rfl
            have p2 : agR z j = (inB z 0 j && inB z j (j + 1)) := rfl
            obtain ⟨q0, hq0⟩ : ∃ q, inB z 0 j = q := ⟨_, rfl⟩
            obtain ⟨q1, hq1⟩ : ∃ q, inB z j (j + 1) = q := ⟨_, rfl⟩
            rw [hq0] at HC0 p0
            rw [hq1] at HC1 p1
            rw [hq0, hq1] at p2
            rw [p0] at n0
            rw [p1] at n1
            rw [p2] at n2
            have N0 := Lib.hid n0
            have N1 := Lib.hid n1
            have N2 := Lib.hid n2
            have x60 : cnt (mkR · j) C k ≤ 60 := Nat.le_trans (cnt_le _ _ _) (by omega)
            have y60 : cnt (cgR · j) C k ≤ 60 := Nat.le_trans (cnt_le _ _ _) (by omega)
            have z60 : cnt (agR · j) C k ≤ 60 := Nat.le_trans (cnt_le _ _ _) (by omega)
            generalize cnt (mkR · j) C k = x at *
            generalize cnt (cgR · j) C k = y at *
            generalize cnt (agR · j) C k = v at *
            subst hA
            clear p0 p1 p2 n0 n1 n2 hz hR4 hsz hbt hon hq0 hq1 hlk
            go_wp2_with fail
            cases q0
            · cases q1
              · go_quiet ((go_at_call 27; first | (with_reducible exact qs0 (HC0.out _)) | (with_reducible exact qs0 (HC1.out _)) | (with_reducible exact qs (HC0.out _)) | (with_reducible exact qs (HC1.out _))))
                have G2 := Lib.hid (show (wr.drewN nq).heap[g]? = _ from G1.out)
                have B4 := Lib.hid (bdH B3.out nq)
                generalize wr.drewN nq = wq at *
                have G5 := Lib.hid (G2.out)
                have B5 := B4
                go_wp2_with fail
                go_roundw
                case rel => exact ⟨k + 1, by omega, by go_num, by rw [N0.out, N1.out, N2.out]; exact G5.out, B5.out⟩
                case measure => simp [intOf]; omega
              · go_quiet ((go_at_call 27; first | (with_reducible exact qs0 (HC0.out _)) | (with_reducible exact qs0 (HC1.out _)) | (with_reducible exact qs (HC0.out _)) | (with_reducible exact qs (HC1.out _))))
                have G2 := Lib.hid (show (wr.drewN nq).heap[g]? = _ from G1.out)
                have B4 := Lib.hid (bdH B3.out nq)
                generalize wr.drewN nq = wq at *
                have h1g := G2.out
                have c1s : (wq).cell? ⟨g, 1, none⟩ = some (.int .i64 (y : Int)) := blk_cell (j := 1) h1g
                have f1s := blk_free h1g 1
                have h1n := blk_set h1g 1 (.int .i64 ((y : Int) + 1))
                have k1n : ((wq).setCell ⟨g, 1, none⟩ (.int .i64 ((y : Int) + 1))).heap[g]? = some (.cells #[.int .i64 (x : Int), .int .i64 ((y : Int) + 1), .int .i64 (v : Int)] 35 (0, 0)) := h1n
                have G5 := Lib.hid (k1n)
                have B5 := Lib.hid (show Below wo.heap.size wo ((wq).setCell ⟨g, 1, none⟩ (.int .i64 ((y : Int) + 1))) from ((B4.out).grown (grown_set1 _ g 1 _) (by have := B4.out.size; simpa using this) fun q hq => by injection hq with hq; omega))
                clear h1g h1n k1n
                go_wp2_with fail
                go_roundw
                case rel => exact ⟨k + 1, by omega, by go_num, by rw [N0.out, N1.out, N2.out]; exact G5.out, B5.out⟩
                case measure => simp [intOf]; omega
            · cases q1
              · go_quiet ((go_at_call 27; first | (with_reducible exact qs0 (HC0.out _)) | (with_reducible exact qs0 (HC1.out _)) | (with_reducible exact qs (HC0.out _)) | (with_reducible exact qs (HC1.out _))))
                have G2 := Lib.hid (show (wr.drewN nq).heap[g]? = _ from G1.out)
                have B4 := Lib.hid (bdH B3.out nq)
                generalize wr.drewN nq = wq at *
                have h0g := G2.out
                have c0s : (wq).cell? ⟨g, 0, none⟩ = some (.int .i64 (x : Int)) := blk_cell (j := 0) h0g
                have f0s := blk_free h0g 0
                have h0n := blk_set h0g 0 (.int .i64 ((x : Int) + 1))
                have k0n : ((wq).setCell ⟨g, 0, none⟩ (.int .i64 ((x : Int) + 1))).heap[g]? = some (.cells #[.int .i64 ((x : Int) + 1), .int .i64 (y : Int), .int .i64 (v : Int)] 35 (0, 0)) := h0n
                have G5 := Lib.hid (k0n)
                have B5 := Lib.hid (show Below wo.heap.size wo ((wq).setCell ⟨g, 0, none⟩ (.int .i64 ((x : Int) + 1))) from ((B4.out).grown (grown_set1 _ g 0 _) (by have := B4.out.size; simpa using this) fun q hq => by injection hq with hq; omega))
                clear h0g h0n k0n
                go_wp2_with fail
                go_roundw
                case rel => exact ⟨k + 1, by omega, by go_num, by rw [N0.out, N1.out, N2.out]; exact G5.out, B5.out⟩
                case measure => simp [intOf]; omega
              · go_quiet ((go_at_call 27; first | (with_reducible exact qs0 (HC0.out _)) | (with_reducible exact qs0 (HC1.out _)) | (with_reducible exact qs (HC0.out _)) | (with_reducible exact qs (HC1.out _))))
                have G2 := Lib.hid (show (wr.drewN nq).heap[g]? = _ from G1.out)
                have B4 := Lib.hid (bdH B3.out nq)
                generalize wr.drewN nq = wq at *
                have h0g := G2.out
                have c0s : (wq).cell? ⟨g, 0, none⟩ = some (.int .i64 (x : Int)) := blk_cell (j := 0) h0g
                have f0s := blk_free h0g 0
                have h0n := blk_set h0g 0 (.int .i64 ((x : Int) + 1))
                have k0n : ((wq).setCell ⟨g, 0, none⟩ (.int .i64 ((x : Int) + 1))).heap[g]? = some (.cells #[.int .i64 ((x : Int) + 1), .int .i64 (y : Int), .int .i64 (v : Int)] 35 (0, 0)) := h0n
                have h1g := k0n
                have c1s : ((wq).setCell ⟨g, 0, none⟩ (.int .i64 ((x : Int) + 1))).cell? ⟨g, 1, none⟩ = some (.int .i64 (y : Int)) := blk_cell (j := 1) h1g
                have f1s := blk_free h1g 1
                have h1n := blk_set h1g 1 (.int .i64 ((y : Int) + 1))
                have k1n : (((wq).setCell ⟨g, 0, none⟩ (.int .i64 ((x : Int) + 1))).setCell ⟨g, 1, none⟩ (.int .i64 ((y : Int) + 1))).heap[g]? = some (.cells #[.int .i64 ((x : Int) + 1), .int .i64 ((y : Int) + 1), .int .i64 (v : Int)] 35 (0, 0)) := h1n
                have h2g := k1n
                have c2s : (((wq).setCell ⟨g, 0, none⟩ (.int .i64 ((x : Int) + 1))).setCell ⟨g, 1, none⟩ (.int .i64 ((y : Int) + 1))).cell? ⟨g, 2, none⟩ = some (.int .i64 (v : Int)) := blk_cell (j := 2) h2g
                have f2s := blk_free h2g 2
                have h2n := blk_set h2g 2 (.int .i64 ((v : Int) + 1))
                have k2n : ((((wq).setCell ⟨g, 0, none⟩ (.int .i64 ((x : Int) + 1))).setCell ⟨g, 1, none⟩ (.int .i64 ((y : Int) + 1))).setCell ⟨g, 2, none⟩ (.int .i64 ((v : Int) + 1))).heap[g]? = some (.cells #[.int .i64 ((x : Int) + 1), .int .i64 ((y : Int) + 1), .int .i64 ((v : Int) + 1)] 35 (0, 0)) := h2n
                have G5 := Lib.hid (k2n)
                have B5 := Lib.hid (show Below wo.heap.size wo ((((wq).setCell ⟨g, 0, none⟩ (.int .i64 ((x : Int) + 1))).setCell ⟨g, 1, none⟩ (.int .i64 ((y : Int) + 1))).setCell ⟨g, 2, none⟩ (.int .i64 ((v : Int) + 1))) from ((((((B4.out).grown (grown_set1 _ g 0 _) (by have := B4.out.size; simpa using this) fun q hq => by injection hq with hq; omega)).grown (grown_set1 _ g 1 _) (by have := B4.out.size; simpa using this) fun q hq => by injection hq with hq; omega)).grown (grown_set1 _ g 2 _) (by have := B4.out.size; simpa using this) fun q hq => by injection hq with hq; omega))
                clear h0g h0n k0n h1g h1n k1n h2g h2n k2n
                go_wp2_with fail
                go_roundw
                case rel => exact ⟨k + 1, by omega, by go_num, by rw [N0.out, N1.out, N2.out]; exact G5.out, B5.out⟩
                case measure => simp [intOf]; omega
          · have hkm : k = m := by omega
            subst hkm
            have e2 : decide ((k : Int) < (k : Int)) = false := by simp
            have e2' : decide (k < k) = false := by simp
            have HX := Lib.hid (show catR C (j * 3) = cnt (mkR · j) C k by rw [catR_0, HMC.out])
            have HY := Lib.hid (show catR C (j * 3 + 1) = cnt (cgR · j) C k by rw [catR_1, HMC.out])
            have HZ := Lib.hid (show catR C (j * 3 + 2) = cnt (agR · j) C k by rw [catR_2, HMC.out])
            generalize cnt (mkR · j) C k = x at *
            generalize cnt (cgR · j) C k = y at *
            generalize cnt (agR · j) C k = v at *
            have HPS := Lib.hid (row_snoc3 (catR C) j HX.out HY.out HZ.out)
            have c0 : wr.cell? ⟨g, 0, none⟩ = some (.int .i64 (x : Int)) := blk_cell (j := 0) G1.out
            have c1 : wr.cell? ⟨g, 1, none⟩ = some (.int .i64 (y : Int)) := blk_cell (j := 1) G1.out
            have c2 : wr.cell? ⟨g, 2, none⟩ = some (.int .i64 (v : Int)) := blk_cell (j := 2) G1.out
            have OW4 := Lib.hid (own_below OW.out B3.out)
            have B4 := Lib.hid (B2.out.trans (B3.out.mono B2.out.size))
            clear hlk
            go_wp2_with ((with_reducible show wpList _ _ _ (⟨some 63, _, _, _, _, _⟩ :: _) _ _); refine app eCat rfl (.tmp 60) (.tmp 62) rfl rfl (OW4.out.alloc _) (B4.out.alloc B4.out.size (.cells #[.int .i64 (x : Int), .int .i64 (y : Int), .int .i64 (v : Int)] 35)) (size_alloc' B4.out.size _) rfl (Rd.lit wr [.int .i64 (x : Int), .int .i64 (y : Int), .int .i64 (v : Int)] 35) (by simp) (ints_one [(x : Int), (y : Int), (v : Int)]) (j + 1) rfl (by omega) ?_; intro A2 c2 w11 o2 b2 _ _; have O2 := Lib.hid (show w11.ownsRow w1.heap.size 35 3 (.slice A2 (j + 1) c2) (j + 1) (ints (rowZ (catR C) ((j + 1) * 3))) by rw [HPS.out]; exact o2); have B11 := Lib.hid b2; clear o2 b2)
            go_roundw
            case rel => exact ⟨j + 1, A2, c2, by omega, rfl, by go_num, O2.out, B11.out⟩
            case measure => simp [intOf]; omega
      · have hjn : j = n := by omega
        have e1 : decide ((j : Int) < (n : Int)) = false := by simp; omega
        have e1' : decide (j < n) = false := by simp; omega
        subst hjn
        clear hlt
        go_wp2_with fail
        refine (HDY.out wr R3.out).mono ?_
        rintro e w' ⟨rfl, rfl⟩
        go_wp2_with fail
        go_ret2
        exact ⟨A', c', by rw [HN.out, HE.out]; rfl, by rw [HL.out]; exact Rd.of_own OW.out, B1.out.trans (B2.out.mono B1.out.size)⟩
  · have e1 : (vhE C != 0) = true := by simpa using hv
    have HL := Lib.hid (show catD C = [] from if_neg hv)
    have HN := Lib.hid (show catN C = 0 from if_neg hv)
    clear hv
    generalize vhE C = E at *
    go_enter Tryd.func8, Tryd.ntmps8
    go_wp2_with fail
    refine HV.out.mono ?_
    rintro e w1 ⟨rfl, m0, hw1⟩
    have B1 := Lib.hid (show Below w.heap.size w w1 by rw [hw1]; exact bdH (Below.refl _ _) m0)
    clear hw1
    go_wp2_with fail
    go_ret2
    exact ⟨none, 0, by rw [HN.out]; rfl, by rw [HL.out]; exact Rd.nil_, B1.out⟩
end Go.Proofs.YtgpghnhpbjnhkaaDoor
