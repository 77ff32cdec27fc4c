/-
  Ranks: the walks of ranksOf, wins of package lure. Conditions: the game is one and can be read.
-/
import Derived.Test.YtldepjpalhmpnaaLu8
import Derived.Test.YtldepjpalhmpnaaLb4
import Derived.Lib.QuietBelow
namespace Go.Proofs.Ytldepjpalhmpnaa
open Go.RowKit
set_option linter.unusedVariables false

theorem made_ints {w w1 : World} {n : Nat} (h : w1.ownsRow w.heap.size 3 1 (.slice (some ⟨w.heap.size, 0, none⟩) n n) n (madeCells (Value.int .i64 0).cells (n * 1)).toList) (hg : w.grownBy w1 none) :
    Below w.heap.size w w1 ∧ w1.heap[w.heap.size]? = some (.cells (rowI (fun _ => 0) n) 3 (0, 0)) := by
  refine ⟨(Below.refl _ _).grown hg (Nat.le_refl _) (by simp), ?_⟩
  have hcells : (madeCells (Value.int .i64 0).cells (n * 1)).toList = (rowI (fun _ => 0) n).toList := by
    rw [Nat.mul_one]
    refine (toList_madeCells_one (.int .i64 0) n).trans ?_
    unfold rowI rowV
    refine List.ext_getElem? fun j => ?_
    rcases Nat.lt_or_ge j n with h | h <;> simp [h]
  have h2 := own_full h
  rw [hcells] at h2
  simpa using h2
theorem two_new (w : World) (v0 v1 : Value) (t0 t1 : TypeId) : ∃ W, (w.alloc (.cells #[v0] t0)).alloc (.cells #[v1] t1) = W ∧ W.heap[w.heap.size]? = some (.cells #[v0] t0 (0, 0)) ∧
    W.heap[w.heap.size + 1]? = some (.cells #[v1] t1 (0, 0)) ∧ W.heap.size = w.heap.size + 2 ∧ Below w.heap.size w W := by
  have h0 := heap_alloc_new w (.cells #[v0] t0)
  have h1 := heap_alloc_new (w.alloc (.cells #[v0] t0)) (.cells #[v1] t1)
  have e : (w.alloc (.cells #[v0] t0)).heap.size = w.heap.size + 1 := by simp
  rw [e] at h1
  refine ⟨_, rfl, ?_, h1, by simp, ((Below.refl _ _).alloc (Nat.le_refl _) _).alloc (by simp) _⟩
  rw [((Below.refl _ (w.alloc (.cells #[v0] t0))).alloc (Nat.le_refl _) (.cells #[v1] t1)).block _ (by rw [e]; omega)]
  exact h0
/-- A cell of a box that the walk itself reads. -/
def rankIn (w : World) (br : Nat) : Nat := (intOf ((w.cell? ⟨br, 0, none⟩).getD undef)).toNat
set_option maxRecDepth 4000 in
set_option maxHeartbeats 3200000 in
theorem ranksOf_any (g : Gv) (goal : Nat) (w : World) (hr : RdG w w.heap.size g) (hf : Gfit g) (hE : gE g.G = 0) (hg : goal < 2 ^ g.own.length) :
    Calls Try.prog 27 #[g.v, .int .u32 goal] w (MadeI w (rkL g.G goal)) := by
  obtain ⟨W, hl⟩ := laid_of w g hr hf hE
  have LA := Lib.hid hl
  have hn16 := hl.le
  have hg16 : 2 ^ g.own.length ≤ 65536 := show 2 ^ g.own.length ≤ 2 ^ 16 from Nat.pow_le_pow_right (by omega) hn16
  have H := gE_zero hE
  have HF := Lib.hid (fun S w h (hS : S < 4294967296) => forced_any g 0 S w h hf hE hS)
  have HLt := Lib.hid (fun k => lv_lt (G := g.G) hg k)
  have HL32 := Lib.hid (fun k => lv_32 (G := g.G) hg H.le k)
  have HFlt := Lib.hid (fun r => fnd_lt (G := g.G) hg r)
  have HF0 := Lib.hid (fnd_zero H hg)
  have HFn := Lib.hid (fun r => (u32_andNot_nat (fcN g.G 0 (lv g.G goal (r + 1))) (lv g.G goal (r + 1)) (Nat.lt_trans (fcN_lt _ _ _) (show 2 ^ g.own.length < _ by omega)) (lv_32 hg H.le _)).trans (congrArg (fun (x : Nat) => (x : Int)) (fnd_next H hg r)))
  have HLF := Lib.hid (fun r => lv_fnd (G := g.G) hg H.le r)
  have HRn := Lib.hid (fun r p => rkR_next (G := g.G) hg H.le r p)
  have HMore := Lib.hid (fun r h => fnd_more (G := g.G) (r := r) hg h)
  have HEnd := Lib.hid (fun r h p => rkR_end (G := g.G) (r := r) hg H.le h p)
  have HR0 := Lib.hid (fun p => rkR_zero (G := g.G) (goal := goal) p)
  have HLen := Lib.hid (rkL_len g.G goal)
  have HRk := Lib.hid (show rkL g.G goal = (List.range g.own.length).map (rkI g.G goal) from rfl)
  have HLv0 := Lib.hid (show lv g.G goal 0 = 0 from rfl)
  have e : g.G.own = g.own := rfl
  rw [e] at HLt HFlt HMore HLen
  clear hr hf hE hl hg e H
  unfold Gv.v at HF ⊢
  generalize g.G = G at *
  obtain ⟨A0, c0, own, A1, c1, rs⟩ := g
  simp only at LA HF HLt HFlt HMore HLen HRk hn16 hg16 ⊢
  have hW := LA.out.hW
  have p0 := LA.out.p0
  have p1 := LA.out.p1
  obtain ⟨i0, hi, hz0, hz1, hz2⟩ := info_parts Try.eInt.hi
  obtain ⟨M, hM⟩ : ∃ M, W.heap.size = M := ⟨_, rfl⟩
  go_enter Try.func27, Try.ntmps27
  go_wp2_with ((at_make; refine wpList_make_full _ rfl (.tmp 13) (.tmp 13) 22 rfl W.heap.size 3 i0 (.int .i64 0) 1 Try.underlying22 hi hz0 hz1 .i64 .i64 _ _ own.length rfl rfl rfl rfl (by rw [hz2]; omega) (by simp only [maxLen]; omega) (Nat.le_refl _) ?_; intro w3 hown hgr; have MD := Lib.hid (made_ints hown hgr); clear hown hgr; obtain ⟨W3, hW3, k3, s3, b3⟩ := one_blk w3 #[.slice (some ⟨M, 0, none⟩) own.length own.length] 22; have c3 := (blk_cell (j := 0) k3)))
  rw [hM] at MD
  have hMw3 := lt_of_block MD.out.2
  have K3 := Lib.hid k3
  have M3 := Lib.hid ((b3.block _ hMw3).trans MD.out.2)
  have B3 := Lib.hid (MD.out.1.trans (b3.mono (by omega)))
  have N3 := Lib.hid (show M < w3.heap.size ∧ w.heap.size < M ∧ w3.heap.size < W3.heap.size from ⟨hMw3, by have := LA.out.hz; omega, s3⟩)
  clear hW hW3 k3 c3 b3 MD hMw3 s3 hi hz0 hz1 hz2
  obtain ⟨bs, hbs⟩ : ∃ bs, w3.heap.size = bs := ⟨_, rfl⟩
  rw [hbs] at K3 N3 ⊢
  clear hbs
  go_loopw [17] (fun i wr => ∃ k : Nat, k ≤ own.length ∧ i = .int .i64 k ∧ wr.heap[M]? = some (.cells (rowI (fun p => if p < k then -1 else 0) own.length) 3 (0, 0)) ∧ Only M W3 wr) (fun i _ => own.length - (intOf i).toNat)
  case atStart => exact ⟨0, by omega, rfl, M3.out, Only.refl _ _⟩
  case round =>
    obtain ⟨k, hk, rfl, hMr, ho⟩ := hrel
    have HM := Lib.hid hMr
    have O := Lib.hid ho
    have cs := Lib.hid ((ho.2.2.2.2 _ (show bs ≠ M by have := N3.out; omega)).trans K3.out)
    clear hMr ho
    have c5 : wr.cell? ⟨bs, 0, none⟩ = some (.slice (some ⟨M, 0, none⟩) own.length own.length) := by rw [blk_cell cs.out]; rfl
    by_cases hlt : k < own.length
    · have c2 : wr.cell? ⟨M, k, none⟩ = some (.int .i64 (if k < k then -1 else 0)) := by rw [blk_cell HM.out]; exact rowV_at hlt
      have hfree := blk_free HM.out k
      have HS := Lib.hid (blk_set HM.out k (.int .i64 (-1)))
      have OS := Lib.hid (O.out.set k (.int .i64 (-1)))
      generalize (if k < k then (-1 : Int) else 0) = old at c2
      go_wp2_with fail
      go_roundw
      case rel =>
        refine ⟨k + 1, by omega, by go_num, ?_, OS.out⟩
        rw [HS.out, rowI_set]
        rw [show rowI (fun j => if j = k then (-1 : Int) else if j < k then -1 else 0) own.length = rowI (fun p => if p < k + 1 then -1 else 0) own.length from rowI_congr fun j _ => by
          by_cases h1 : j = k
          · rw [if_pos h1, if_pos (by omega)]
          · rw [if_neg h1]
            by_cases h2 : j < k
            · rw [if_pos h2, if_pos (by omega)]
            · rw [if_neg h2, if_neg (by omega)]]
      case measure => simp [intOf]; omega
    · have hks : k = own.length := by omega
      subst hks
      obtain ⟨W5, hW5, k5, k6, s5, b5⟩ := two_new wr (.int .i64 0) (.int .u32 0) 3 43
      have hwr : wr.heap.size = W3.heap.size := O.out.2.2.2.1
      have hsz5 : bs < wr.heap.size := lt_of_block cs.out
      have hMz5 : M < wr.heap.size := lt_of_block HM.out
      have B5 := Lib.hid (B3.out.trans ((O.out.below (Nat.le_refl _)).trans (b5.mono (Nat.le_of_lt hMz5))))
      have ST0 := Lib.hid (show RkSt W5 wr.heap.size bs (wr.heap.size + 1) M own.length 0 (lv G goal 0) (rkR G goal 0) from ⟨k5, (b5.block _ hsz5).trans cs.out, by rw [HLv0.out]; exact k6, by
        rw [show rowI (rkR G goal 0) own.length = rowI (fun p => if p < own.length then -1 else 0) own.length from rowI_congr fun j hj => by rw [if_pos hj, HR0.out]]
        exact (b5.block _ hMz5).trans HM.out⟩)
      obtain ⟨br, hbr⟩ : ∃ br, wr.heap.size = br := ⟨_, rfl⟩
      have DD := Lib.hid (show Dis M br bs (br + 1) M from ⟨by omega, by omega, by omega, by omega, by have := N3.out; omega, by omega, by omega, by have := N3.out; omega, by omega, Nat.le_refl _⟩)
      rw [hbr] at ST0
      have HW5 := Lib.hid hW5
      clear c5 k5 k6 s5 b5 hwr hsz5 hMz5 hW5
      go_wp2_with fail
      rw [HW5.out]
      go_loopw [10] (fun F wr => ∃ r : Nat, F = .int .u32 (fnd G goal r : Nat) ∧ r ≤ own.length ∧ RkSt wr br bs (br + 1) M own.length r (lv G goal r) (rkR G goal r) ∧ Below M W wr) (fun _ wr => 17 - rankIn wr br)
      case atStart => exact ⟨0, by rw [HF0.out], by omega, ST0.out, B5.out⟩
      case round =>
        obtain ⟨r, rfl, hr, hst, hb⟩ := hrel
        have ST := Lib.hid hst
        have BW := Lib.hid hb
        clear hst hb
        by_cases hz : fnd G goal r = 0
        · have hb0 : (((fnd G goal r : Nat) : Int) != 0) = false := by rw [hz]; rfl
          have c5 : wr.cell? ⟨bs, 0, none⟩ = some (.slice (some ⟨M, 0, none⟩) own.length own.length) := by rw [blk_cell ST.out.hs]; rfl
          have HE := Lib.hid (show rowI (rkR G goal r) own.length = (ints (rkL G goal)).toArray by rw [HRk.out, ← rowI_ints]; exact rowI_congr fun j _ => HEnd.out r hz j)
          clear hz
          go_wp2_with fail
          go_ret
          refine ⟨_, own.length, by rw [HLen.out]; rfl, by rw [HLen.out]; exact Nat.le_refl _, fresh_at w (by have := N3.out; omega), Rd.of_block (by rw [← HE.out]; exact ST.out.hM), ?_⟩
          exact LA.out.b.trans (by have h := BW.out; rw [← hM] at h; exact h.mono LA.out.b.size)
        · have hb0 : (((fnd G goal r : Nat) : Int) != 0) = true := by
            rw [bne_iff_ne]
            intro h
            exact hz (by exact_mod_cast h)
          have hrn := HMore.out r hz
          have hMwr : M ≤ wr.heap.size := Nat.le_of_lt (lt_of_block ST.out.hM)
          have HGr := Lib.hid (grow_any (fnd G goal r) r (lv G goal r) own.length (rkR G goal r) br bs (br + 1) M M wr ST.out DD.out (HFlt.out r) hn16 (HL32.out r) (by omega) hMwr)
          have HNx := Lib.hid (show ∀ w', RkSt w' br bs (br + 1) M own.length (r + 1) (lv G goal r ||| fnd G goal r) (fun p => if (fnd G goal r).testBit p then (r : Int) else rkR G goal r p) → RkSt w' br bs (br + 1) M own.length (r + 1) (lv G goal (r + 1)) (rkR G goal (r + 1)) from fun w' h => by
            rw [HLF.out, show (fun p => if (fnd G goal r).testBit p then (r : Int) else rkR G goal r p) = rkR G goal (r + 1) from funext fun p => HRn.out r p] at h
            exact h)
          have hmeas : rankIn wr br = r := by
            unfold rankIn
            rw [blk_cell ST.out.hr]
            rfl
          have HMeas := Lib.hid hmeas
          have HFr := HFn.out r
          have HFNx := Lib.hid (fun w h => HF.out (lv G goal (r + 1)) w h (HL32.out (r + 1)))
          clear hz hmeas hMwr
          generalize fnd G goal r = Fr at *
          go_wp2_with (go_at_call 35; refine HGr.out.mono ?_; rintro e w6 ⟨rfl, hst6, hb6⟩; have ST6 := Lib.hid (HNx.out _ hst6); have B6 := Lib.hid (BW.out.trans hb6); clear hst6 hb6)
          have q0 := cell_keep p0 (by have h := B6.out; rw [← hM] at h; exact h) LA.out.hz
          have q1 := cell_keep p1 (by have h := B6.out; rw [← hM] at h; exact h) LA.out.hz
          have qx : w6.cell? ⟨br + 1, 0, none⟩ = some (.int .u32 (lv G goal (r + 1) : Nat)) := by rw [blk_cell ST6.out.hx]; rfl
          have g0 := fun d os => cell_regrown q0 d os
          have g1 := fun d os => cell_regrown q1 d os
          have gx := fun d os => cell_regrown qx d os
          have RG6 := Lib.hid (LA.out.rg.up (by have h := B6.out; rw [← hM] at h; exact h))
          refine wp_region_quiet_below (by kernel_rfl) (by kernel_rfl) ?_
          repeat (go_big_quiet_step (with_reducible exact Calls.regrown_of (HFNx.out _ (RG6.out.up (below_regrown _ _ _)))))
          refine wpQuiet_nil ?_
          intro _ hw'
          obtain ⟨⟨dq, osq⟩, hw''⟩ := hw'
          subst hw''
          have ST7 := Lib.hid (ST6.out.up (below_regrown w6 dq osq))
          have B7 := Lib.hid (B6.out.trans ((below_regrown w6 dq osq).mono (Nat.le_of_lt (lt_of_block ST6.out.hM))))
          go_wp2_with fail
          go_roundw
          case rel => exact ⟨r + 1, by first | rfl | rw [HFr], by omega, ST7.out, B7.out⟩
          case measure =>
            have h1 : rankIn (Go.Sort.grow (redrawn w6 dq) osq) br = r + 1 := by
              unfold rankIn
              rw [blk_cell ST7.out.hr]
              rfl
            rw [h1, HMeas.out]
            omega
end Go.Proofs.Ytldepjpalhmpnaa
