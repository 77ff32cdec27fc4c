/-
  The least ring that fits a worn one: the walk of First of package ring. Conditions: 'TabsR'; the cell of the library's MaxLen holds a number.
-/
import Derived.Test.YtoenecgjiejljaaDoorRc8
import Derived.Test.YtoenecgjiejljaaDoorRep
import Derived.Test.YtoenecgjiejljaaDoorShr
import Derived.Test.YtoenecgjiejljaaDoorFit
import Derived.Deep.RegionWith
namespace Go.Proofs.YtoenecgjiejljaaDoor
open Go.RowKit
set_option linter.unusedVariables false

/-- The cell of internal/bytealg.MaxLen. -/
structure TbM (w : World) : Prop where
  cell : ∃ m, w.cell? ⟨2, 0, none⟩ = some (.int .i64 m)
  lt : 2 < w.heap.size
theorem TbM.up {w w' : World} (h : TbM w) (hb : Below w.heap.size w w') : TbM w' :=
  ⟨by obtain ⟨m, hm⟩ := h.cell; exact ⟨m, (hb.cell (p := ⟨2, 0, none⟩) h.lt).trans hm⟩, Nat.lt_of_lt_of_le h.lt hb.size⟩
theorem RepA_any (s : ByteArray) (c d : UInt8) (hcd : c ≠ d) (w : World) (hs : s.size ≤ 1000) (h : TbM w) : Calls Tryd.prog 75 #[.string s, .string ⟨#[c]⟩, .string ⟨#[d]⟩] w fun e w' => e = .returned (.string (sL ((bl s).map fun x => if x = c then d else x))) ∧ Below w.heap.size w w' := by
  obtain ⟨m, hm⟩ := h.cell
  have hc : Lib.countB s ⟨#[c]⟩ ≤ s.size := by
    show Lib.count s.data.toList [c] ≤ _
    rw [Lib.count_one]
    exact Nat.le_trans List.count_le_length (by simp)
  refine (Any.strings_ReplaceAll Tryd.lays155 Tryd.Builder_Extra_155 s ⟨#[c]⟩ ⟨#[d]⟩ m w (by omega) hm (Nat.le_refl _) (by show s.size + Lib.countB s ⟨#[c]⟩ * 1 ≤ _; omega)).mono ?_
  rintro e w' ⟨h1, h2⟩
  refine ⟨h1.trans ?_, h2⟩
  have := rep_one hcd s.data.toList
  show Ending.returned (.string ⟨(Lib.replaceAll s.data.toList [c] [d]).toArray⟩) = _
  rw [this]
  rfl
theorem LastI_any (s : ByteArray) (w : World) (hs : s.size ≤ 1000) : Calls Tryd.prog 76 #[.string s, .string ⟨#[63]⟩] w fun e w' => e = .returned (.int .i64 (Lib.lastIndexByte s 63)) ∧ w = w' :=
  (Any.strings_LastIndex_one Tryd.lays148 s ⟨#[63]⟩ rfl (by omega) w).mono fun e w' ⟨h1, h2⟩ => ⟨h1, h2.symm⟩
def tenB : ByteArray := ⟨#[48, 49, 50, 51, 52, 53, 54, 55, 56, 57]⟩
theorem tenB_at {k : Nat} (h : k < tenB.size) : (tenB[k]'h).toNat = 48 + k := by
  have : ∀ i : Fin 10, ((tenB[i.val]'i.isLt).toNat) = 48 + i.val := by decide
  exact this ⟨k, h⟩
set_option maxRecDepth 8000 in
set_option maxHeartbeats 2000000 in
theorem First_any (s : ByteArray) (w : World) (hsz : s.size ≤ 900) (hT : TabsR w) (hM : TbM w) :
    Calls Tryd.prog 27 #[.string s] w fun e w' => e = .returned (.tuple #[.string (frS s), .bool (frB s), .int .i64 (ctE s)]) ∧ Below w.heap.size w w' := by
  have H1 := Lib.hid (IsWorn_any s w (by omega))
  have HT := Lib.hid hT
  have HM := Lib.hid hM
  clear hT hM
  cases hf : formB s true with
  | false =>
    have e1 : ctE s = 2 := by unfold ctE; rw [hf]; rfl
    have e2 : frB s = false := by unfold frB; rw [hf]; rfl
    have e3 : frS s = ⟨#[]⟩ := by unfold frS; rw [e2]; rfl
    rw [hf] at H1
    rw [e1, e2, e3]
    clear hf e1 e2 e3 HT HM
    go_enter Tryd.func27, Tryd.ntmps27
    go_wp2_with fail
    refine H1.out.mono ?_
    rintro e w1 ⟨rfl, hb⟩
    go_wp2_with fail
    go_ret3
    exact ⟨rfl, hb⟩
  | true =>
  have e1 : ctE s = 0 := by unfold ctE; rw [hf]; rfl
  have hs := form_size hf
  have hwl : (wL s).length = 6 := wlK_length s 6
  rw [hf] at H1
  rw [e1]
  have HC := Lib.hid (fun w => cut_any s w (by omega) (by omega))
  have hhs : (headB s).size = s.size - 6 := by simp [headB]
  have hts : (tailB s).size = 6 := size_tailB (by omega)
  have HRa := Lib.hid (fun w h => RepA_any (headB s) 63 65 (by decide) w (by omega) h)
  have HRb := Lib.hid (fun w h => RepA_any (tailB s) 63 48 (by decide) w (by omega) h)
  have HLow := Lib.hid (lowest_is hf)
  have hlett := hd_lett hf
  have hfd := fill0_dig (wl_dig hf)
  have hsz0 : (rT (hdF (bl (headB s))) (fill0 (wL s))).size = s.size := by rw [rT_size (by rw [fill0_len, hwl])]; unfold hdF; rw [List.length_map, bl_len, hhs]; omega
  have HV := Lib.hid (fun w h => Valid_any (rT (hdF (bl (headB s))) (fill0 (wL s))) w (by rw [hsz0]; omega) h)
  rw [rT_valid hlett (by rw [fill0_len, hwl]) hfd] at HV
  have z1 : (sL (hdF (bl (headB s)))).size ≤ 10 := by rw [sL_size]; unfold hdF; rw [List.length_map, bl_len, hhs]; omega
  have z2 : (sL (tl0 (bl (tailB s)))).size ≤ 10 := by rw [sL_size]; unfold tl0; rw [List.length_map, bl_len, hts]; omega
  change Hid (∀ w, TbM w → Calls _ _ _ _ fun e w' => e = .returned (.string (sL (hdF (bl (headB s))))) ∧ Below w.heap.size w w') at HRa
  change Hid (∀ w, TbM w → Calls _ _ _ _ fun e w' => e = .returned (.string (sL (tl0 (bl (tailB s))))) ∧ Below w.heap.size w w') at HRb
  have HL := Lib.hid (fun w => LastI_any s w (by omega))
  rcases fr_cases hf with ⟨h1, h2, h3⟩ | ⟨h1, h0, h2, h3⟩ | ⟨h1, a, b, he, hnb, h2, h3⟩
  · rw [h2, h3]
    rw [if_pos h1] at HV
    clear hf e1 hs hlett hfd h1 h2 h3 hwl hhs hts
    generalize rT (hdF (bl (headB s))) (fill0 (wL s)) = R at *
    generalize sL (hdF (bl (headB s))) = r1 at *
    generalize sL (tl0 (bl (tailB s))) = r2 at *
    generalize headB s = H at *
    generalize tailB s = T at *
    go_enter Tryd.func27, Tryd.ntmps27
    go_wp2_with fail
    refine H1.out.mono ?_
    rintro e w1 ⟨rfl, hb⟩
    have B1 := Lib.hid hb
    clear hb
    go_wp2_with fail
    refine (HC.out w1).mono ?_
    rintro e w2 ⟨rfl, m, rfl⟩
    have B2 := Lib.hid (below_drewN B1.out m)
    generalize w1.drewN m = w2 at *
    go_wp2_with fail
    refine (HRa.out w2 (HM.out.up B2.out)).mono ?_
    rintro e w3 ⟨rfl, hb⟩
    have B3 := Lib.hid (B2.out.trans (hb.mono B2.out.size))
    clear hb
    go_wp2_with fail
    refine (HRb.out w3 (HM.out.up B3.out)).mono ?_
    rintro e w4 ⟨rfl, hb⟩
    have B4 := Lib.hid (B3.out.trans (hb.mono B3.out.size))
    clear hb
    go_wp2_with fail
    rw [HLow.out]
    go_wp2_with fail
    refine (HV.out w4 (HT.out.below' B4.out)).mono ?_
    rintro e w5 ⟨rfl, hb⟩
    have B5 := Lib.hid (B4.out.trans (hb.mono B4.out.size))
    clear hb
    go_wp2_with fail
    go_ret3
    exact ⟨rfl, B5.out⟩
  · rw [h2, h3]
    rw [if_neg h1] at HV
    have hlt := last_none hf h0
    have q1 : decide (((headB s).size : Int) ≤ Lib.lastIndexByte s 63) = false := decide_eq_false (by rw [hhs]; omega)
    clear hf e1 hs hlett hfd h1 h2 h3 hwl hhs hts h0 hlt
    generalize Lib.lastIndexByte s 63 = LI at *
    generalize rT (hdF (bl (headB s))) (fill0 (wL s)) = R at *
    generalize sL (hdF (bl (headB s))) = r1 at *
    generalize sL (tl0 (bl (tailB s))) = r2 at *
    generalize headB s = H at *
    generalize tailB s = T at *
    go_enter Tryd.func27, Tryd.ntmps27
    go_wp2_with fail
    refine H1.out.mono ?_
    rintro e w1 ⟨rfl, hb⟩
    have B1 := Lib.hid hb
    clear hb
    go_wp2_with fail
    refine (HC.out w1).mono ?_
    rintro e w2 ⟨rfl, m, rfl⟩
    have B2 := Lib.hid (below_drewN B1.out m)
    generalize w1.drewN m = w2 at *
    go_wp2_with fail
    refine (HRa.out w2 (HM.out.up B2.out)).mono ?_
    rintro e w3 ⟨rfl, hb⟩
    have B3 := Lib.hid (B2.out.trans (hb.mono B2.out.size))
    clear hb
    go_wp2_with fail
    refine (HRb.out w3 (HM.out.up B3.out)).mono ?_
    rintro e w4 ⟨rfl, hb⟩
    have B4 := Lib.hid (B3.out.trans (hb.mono B3.out.size))
    clear hb
    go_wp2_with fail
    rw [HLow.out]
    go_wp2_with fail
    refine (HV.out w4 (HT.out.below' B4.out)).mono ?_
    rintro e w5 ⟨rfl, hb⟩
    have B5 := Lib.hid (B4.out.trans (hb.mono B4.out.size))
    clear hb
    go_wp2_with fail
    refine (HL.out w5).mono ?_
    rintro e w6 ⟨rfl, rfl⟩
    go_wp2_with fail
    go_ret3
    exact ⟨rfl, B5.out⟩
  · rw [h2, h3]
    rw [if_neg h1] at HV
    have hlt := last_is hf he hnb
    have hal : a.length + 1 + b.length = 6 := by rw [he] at hwl; simp at hwl; omega
    have q1 : decide (((headB s).size : Int) ≤ Lib.lastIndexByte s 63) = true := decide_eq_true (by rw [hlt, hhs]; omega)
    obtain ⟨ha, hbd⟩ := wdig_parts (by rw [← he]; exact wl_dig hf) hnb
    have hfa := fill0_dig ha
    have hds := fun d hd => dst_is hfa hbd (by omega) (d := d) hd
    have hd10 := (dst_lt hfa hbd (by omega)).1
    have hlD : ∀ d : Nat, (fill0 a ++ (d : Int) :: b).length = 6 := fun d => by rw [List.length_append, fill0_len, List.length_cons]; omega
    have hhl : (hdF (bl (headB s))).length = s.size - 6 := by unfold hdF; rw [List.length_map, bl_len, hhs]
    have HRp := Lib.hid (show ∀ (d : Nat) (w : World), d < 10 → Calls Tryd.prog 77 #[.string (rT (hdF (bl (headB s))) (fill0 (wL s))), .int .i64 ((s.size - 6 + a.length : Nat) : Int), .int .u8 ((48 + d : Nat) : Int)] w fun e w' => e = .returned (.string (rT (hdF (bl (headB s))) (fill0 a ++ (d : Int) :: b))) ∧ Below w.heap.size w w' from fun d w hd => by
      have := replace_any (rT (hdF (bl (headB s))) (fill0 (wL s))) (s.size - 6 + a.length) (UInt8.ofNat (48 + d)) w (by rw [hsz0]; omega) (by rw [hsz0]; omega)
      rw [ofNat_toNat (by omega)] at this
      rw [he, ← hhl, set_is hnb] at this
      rw [he, ← hhl]
      exact this)
    have HVd := Lib.hid (show ∀ (d : Nat) (w : World), d < 10 → TabsR w → Calls Tryd.prog 18 #[.string (rT (hdF (bl (headB s))) (fill0 a ++ (d : Int) :: b))] w fun e w' => e = .returned (.int .i64 (if d = dst (fill0 a) b then 0 else 6)) ∧ Below w.heap.size w w' from fun d w hd ht => by
      have := Valid_any (rT (hdF (bl (headB s))) (fill0 a ++ (d : Int) :: b)) w (by rw [rT_size (hlD d), hhl]; omega) ht
      rw [rT_valid hlett (hlD d) (fun x hx => by
        rcases List.mem_append.1 hx with hx | hx
        · exact hfa x hx
        · rcases List.mem_cons.1 hx with rfl | hx
          · exact nat_dig hd
          · exact hbd x hx)] at this
      rw [show (if sumL (fill0 a ++ (d : Int) :: b) = 0 then (0 : Int) else 6) = if d = dst (fill0 a) b then 0 else 6 from by
        by_cases h : d = dst (fill0 a) b
        · rw [if_pos h, if_pos ((hds d hd).2 h)]
        · rw [if_neg h, if_neg fun e => h ((hds d hd).1 e)]] at this
      exact this)
    rw [hlt] at HL q1
    have q1n : decide ((headB s).size ≤ s.size - 6 + a.length) = true := decide_eq_true (by rw [hhs]; omega)
    have hmm : s.size - 6 + a.length ≤ 900 := by omega
    clear hf e1 hs hlett hfd h1 h2 h3 hwl hhs hts hlt he hnb ha hbd hfa hds hlD hhl hal hsz0
    generalize s.size - 6 + a.length = LI at *
    generalize hG : (fun d : Nat => rT (hdF (bl (headB s))) (fill0 a ++ (d : Int) :: b)) = G at *
    have hG' : ∀ d : Nat, rT (hdF (bl (headB s))) (fill0 a ++ (d : Int) :: b) = G d := fun d => by rw [← hG]
    simp only [hG'] at HRp HVd ⊢
    clear hG hG'
    generalize dst (fill0 a) b = dd at *
    generalize rT (hdF (bl (headB s))) (fill0 (wL s)) = R at *
    generalize sL (hdF (bl (headB s))) = r1 at *
    generalize sL (tl0 (bl (tailB s))) = r2 at *
    generalize headB s = H at *
    generalize tailB s = T at *
    go_enter Tryd.func27, Tryd.ntmps27
    go_wp2_with fail
    refine H1.out.mono ?_
    rintro e w1 ⟨rfl, hb⟩
    have B1 := Lib.hid hb
    clear hb
    go_wp2_with fail
    refine (HC.out w1).mono ?_
    rintro e w2 ⟨rfl, m, rfl⟩
    have B2 := Lib.hid (below_drewN B1.out m)
    generalize w1.drewN m = w2 at *
    go_wp2_with fail
    refine (HRa.out w2 (HM.out.up B2.out)).mono ?_
    rintro e w3 ⟨rfl, hb⟩
    have B3 := Lib.hid (B2.out.trans (hb.mono B2.out.size))
    clear hb
    go_wp2_with fail
    refine (HRb.out w3 (HM.out.up B3.out)).mono ?_
    rintro e w4 ⟨rfl, hb⟩
    have B4 := Lib.hid (B3.out.trans (hb.mono B3.out.size))
    clear hb
    go_wp2_with fail
    rw [HLow.out]
    go_wp2_with fail
    refine (HV.out w4 (HT.out.below' B4.out)).mono ?_
    rintro e w5 ⟨rfl, hb⟩
    have B5 := Lib.hid (B4.out.trans (hb.mono B4.out.size))
    clear hb
    go_wp2_with fail
    refine (HL.out w5).mono ?_
    rintro e w6 ⟨rfl, rfl⟩
    go_wp2_with fail
    clear q1 q1n
    go_loopw [] (fun wr => ∃ pos : Nat, pos ≤ dd ∧ wr.heap[w5.heap.size]? = some (.stringIter tenB pos) ∧ Below w.heap.size w wr) (fun wr => 10 - wr.iterPos w5.heap.size)
    case atStart => exact ⟨0, by omega, World.iter_heap w5 tenB 0, B5.out.alloc B5.out.size _⟩
    case round =>
      obtain ⟨pos, hpos, hit, hb⟩ := hrel
      have hpos0 := iterPos_of hit
      have hp : pos < tenB.size := by show pos < 10; omega
      have hp10 : pos < 10 := by omega
      have hnx : ∀ ty, (Instr.next (.pointer (some ⟨w5.heap.size, 0, none⟩)) true ty).run Tryd.prog wr = _ := fun ty => Lib.run_next_ascii_at wr w5.heap.size tenB pos ty hit hp (by rw [tenB_at hp]; omega)
      simp only [tenB_at hp] at hnx
      have hit2 := Lib.iterAt_heap wr w5.heap.size tenB pos (pos + 1) hit
      have hb2 := Lib.below_iterAt hb (k := w5.heap.size) B5.out.size tenB (pos + 1)
      generalize hW1 : wr.iterAt w5.heap.size tenB (pos + 1) = W1 at *
      have P0 := Lib.hid hpos0
      have IT := Lib.hid hit2
      have B6 := Lib.hid hb2
      have HRp1 := Lib.hid (fun w => HRp.out pos w hp10)
      have HVd1 := Lib.hid (fun w h => HVd.out pos w hp10 h)
      rw [show ((48 + pos : Nat) : Int) = 48 + (pos : Int) by omega] at HRp1
      have hgl := lt_of_block hit2
      clear hW1 hpos0 hit2 hb2 hit hb
      by_cases hd : pos = dd
      · rw [if_pos hd] at HVd1
        have HD := Lib.hid hd
        clear hd
        go_wp2_with fail
        refine (HRp1.out W1).mono ?_
        rintro e w7 ⟨rfl, hb⟩
        have B7 := Lib.hid (B6.out.trans (hb.mono B6.out.size))
        clear hb
        go_wp2_with fail
        refine (HVd1.out w7 (HT.out.below' B7.out)).mono ?_
        rintro e w8 ⟨rfl, hb⟩
        have B8 := Lib.hid (B7.out.trans (hb.mono B7.out.size))
        clear hb
        go_wp2_with fail
        go_ret3
        exact ⟨by rw [← HD.out]; rfl, B8.out⟩
      · rw [if_neg hd] at HVd1
        have hne : pos + 1 ≤ dd := by omega
        clear hd
        go_wp2_with fail
        refine (HRp1.out W1).mono ?_
        rintro e w7 ⟨rfl, hb⟩
        have I7 := Lib.hid ((hb.block _ hgl).trans IT.out)
        have B7 := Lib.hid (B6.out.trans (hb.mono B6.out.size))
        have hg7 : w5.heap.size < w7.heap.size := Nat.lt_of_lt_of_le hgl hb.size
        clear hb
        go_wp2_with fail
        refine (HVd1.out w7 (HT.out.below' B7.out)).mono ?_
        rintro e w8 ⟨rfl, hb⟩
        have I8 := Lib.hid ((hb.block _ hg7).trans I7.out)
        have B8 := Lib.hid (B7.out.trans (hb.mono B7.out.size))
        clear hb
        go_wp2_with fail
        go_roundw
        case rel => exact ⟨pos + 1, hne, I8.out, B8.out⟩
        case measure => rw [iterPos_of I8.out, P0.out]; omega
end Go.Proofs.YtoenecgjiejljaaDoor
