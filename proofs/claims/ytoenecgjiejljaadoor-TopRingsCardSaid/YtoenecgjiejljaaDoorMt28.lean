/-
  Texts merged into one (Rc9, LwTr): contracts of the functions of package lure, what is reckoned of games. Conditions: as each says.
-/
import Derived.Test.YtoenecgjiejljaaDoorMt21
import Derived.Test.YtoenecgjiejljaaDoorMt5
import Derived.Test.YtoenecgjiejljaaDoorMt16
import Derived.Test.YtoenecgjiejljaaDoorMt11
import Derived.Deep.RegionWith
import Derived.Test.YtoenecgjiejljaaDoorMt27
import Derived.Test.YtoenecgjiejljaaDoorMt26
import Derived.Lib.QuietBelow
namespace Go.Proofs.YtoenecgjiejljaaDoor
open Go.RowKit
set_option linter.unusedVariables false

/-- The cell of internal/bytealg.MaxLen. -/
structure TbM (w : World) : Prop where
  cell : ∃ m, w.cell? ⟨2, 0, none⟩ = some (.int .i64 m)
  lt : 2 < w.heap.size
theorem TbM.up {w w' : World} (h : TbM w) (hb : Below w.heap.size w w') : TbM w' :=
  ⟨by obtain ⟨m, hm⟩ := h.cell; exact ⟨m, (hb.cell (p := ⟨2, 0, none⟩) h.lt).trans hm⟩, Nat.lt_of_lt_of_le h.lt hb.size⟩
theorem RepA_any (s : ByteArray) (c d : UInt8) (hcd : c ≠ d) (w : World) (hs : s.size ≤ 1000) (h : TbM w) : Calls Tryd.prog 75 #[.string s, .string ⟨#[c]⟩, .string ⟨#[d]⟩] w fun e w' => e = .returned (.string (sL ((bl s).map fun x => if x = c then d else x))) ∧ Below w.heap.size w w' := by
  obtain ⟨m, hm⟩ := h.cell
  have hc : Lib.countB s ⟨#[c]⟩ ≤ s.size := by
    show Lib.count s.data.toList [c] ≤ _
    rw [Lib.count_one]
    exact Nat.le_trans List.count_le_length (by simp)
  refine (Any.strings_ReplaceAll Tryd.lays155 Tryd.Builder_Extra_155 s ⟨#[c]⟩ ⟨#[d]⟩ m w (by omega) hm (Nat.le_refl _) (by show s.size + Lib.countB s ⟨#[c]⟩ * 1 ≤ _; omega)).mono ?_
  rintro e w' ⟨h1, h2⟩
  refine ⟨h1.trans ?_, h2⟩
  have := rep_one hcd s.data.toList
  show Ending.returned (.string ⟨(Lib.replaceAll s.data.toList [c] [d]).toArray⟩) = _
  rw [this]
  rfl
theorem LastI_any (s : ByteArray) (w : World) (hs : s.size ≤ 1000) : Calls Tryd.prog 76 #[.string s, .string ⟨#[63]⟩] w fun e w' => e = .returned (.int .i64 (Lib.lastIndexByte s 63)) ∧ w = w' :=
  (Any.strings_LastIndex_one Tryd.lays148 s ⟨#[63]⟩ rfl (by omega) w).mono fun e w' ⟨h1, h2⟩ => ⟨h1, h2.symm⟩
def tenB : ByteArray := ⟨#[48, 49, 50, 51, 52, 53, 54, 55, 56, 57]⟩
theorem tenB_at {k : Nat} (h : k < tenB.size) : (tenB[k]'h).toNat = 48 + k := by
  have : ∀ i : Fin 10, ((tenB[i.val]'i.isLt).toNat) = 48 + i.val := by decide
  exact this ⟨k, h⟩
set_option maxRecDepth 8000 in
set_option maxHeartbeats 2000000 in
theorem First_any (s : ByteArray) (w : World) (hsz : s.size ≤ 900) (hT : TabsR w) (hM : TbM w) :
    Calls Tryd.prog 27 #[.string s] w fun e w' => e = .returned (.tuple #[.string (frS s), .bool (frB s), .int .i64 (ctE s)]) ∧ Below w.heap.size w w' := by
  have H1 := Lib.hid (IsWorn_any s w (by omega))
  have HT := Lib.hid hT
  have HM := Lib.hid hM
  clear hT hM
  cases hf : formB s true with
  | false =>
    have e1 : ctE s = 2 := by unfold ctE; rw [hf]; rfl
    have e2 : frB s = false := by unfold frB; rw [hf]; rfl
    have e3 : frS s = ⟨#[]⟩ := by unfold frS; rw [e2]; rfl
    rw [hf] at H1
    rw [e1, e2, e3]
    clear hf e1 e2 e3 HT HM
    go_enter Tryd.func27, Tryd.ntmps27
    go_wp2_with fail
    refine H1.out.mono ?_
    rintro e w1 ⟨rfl, hb⟩
    go_wp2_with fail
    go_ret3
    exact ⟨rfl, hb⟩
  | true =>
  have e1 : ctE s = 0 := by unfold ctE; rw [hf]; rfl
  have hs := form_size hf
  have hwl : (wL s).length = 6 := wlK_length s 6
  rw [hf] at H1
  rw [e1]
  have HC := Lib.hid (fun w => cut_any s w (by omega) (by omega))
  have hhs : (headB s).size = s.size - 6 := by simp [headB]
  have hts : (tailB s).size = 6 := size_tailB (by omega)
  have HRa := Lib.hid (fun w h => RepA_any (headB s) 63 65 (by decide) w (by omega) h)
  have HRb := Lib.hid (fun w h => RepA_any (tailB s) 63 48 (by decide) w (by omega) h)
  have HLow := Lib.hid (lowest_is hf)
  have hlett := hd_lett hf
  have hfd := fill0_dig (wl_dig hf)
  have hsz0 : (rT (hdF (bl (headB s))) (fill0 (wL s))).size = s.size := by rw [rT_size (by rw [fill0_len, hwl])]; unfold hdF; rw [List.length_map, bl_len, hhs]; omega
  have HV := Lib.hid (fun w h => Valid_any (rT (hdF (bl (headB s))) (fill0 (wL s))) w (by rw [hsz0]; omega) h)
  rw [rT_valid hlett (by rw [fill0_len, hwl]) hfd] at HV
  have z1 : (sL (hdF (bl (headB s)))).size ≤ 10 := by rw [sL_size]; unfold hdF; rw [List.length_map, bl_len, hhs]; omega
  have z2 : (sL (tl0 (bl (tailB s)))).size ≤ 10 := by rw [sL_size]; unfold tl0; rw [List.length_map, bl_len, hts]; omega
  change Hid (∀ w, TbM w → Calls _ _ _ _ fun e w' => e = .returned (.string (sL (hdF (bl (headB s))))) ∧ Below w.heap.size w w') at HRa
  change Hid (∀ w, TbM w → Calls _ _ _ _ fun e w' => e = .returned (.string (sL (tl0 (bl (tailB s))))) ∧ Below w.heap.size w w') at HRb
  have HL := Lib.hid (fun w => LastI_any s w (by omega))
  rcases fr_cases hf with ⟨h1, h2, h3⟩ | ⟨h1, h0, h2, h3⟩ | ⟨h1, a, b, he, hnb, h2, h3⟩
  · rw [h2, h3]
    rw [if_pos h1] at HV
    clear hf e1 hs hlett hfd h1 h2 h3 hwl hhs hts
    generalize rT (hdF (bl (headB s))) (fill0 (wL s)) = R at *
    generalize sL (hdF (bl (headB s))) = r1 at *
    generalize sL (tl0 (bl (tailB s))) = r2 at *
    generalize headB s = H at *
    generalize tailB s = T at *
    go_enter Tryd.func27, Tryd.ntmps27
    go_wp2_with fail
    refine H1.out.mono ?_
    rintro e w1 ⟨rfl, hb⟩
    have B1 := Lib.hid hb
    clear hb
    go_wp2_with fail
    refine (HC.out w1).mono ?_
    rintro e w2 ⟨rfl, m, rfl⟩
    have B2 := Lib.hid (below_drewN B1.out m)
    generalize w1.drewN m = w2 at *
    go_wp2_with fail
    refine (HRa.out w2 (HM.out.up B2.out)).mono ?_
    rintro e w3 ⟨rfl, hb⟩
    have B3 := Lib.hid (B2.out.trans (hb.mono B2.out.size))
    clear hb
    go_wp2_with fail
    refine (HRb.out w3 (HM.out.up B3.out)).mono ?_
    rintro e w4 ⟨rfl, hb⟩
    have B4 := Lib.hid (B3.out.trans (hb.mono B3.out.size))
    clear hb
    go_wp2_with fail
    rw [HLow.out]
    go_wp2_with fail
    refine (HV.out w4 (HT.out.below' B4.out)).mono ?_
    rintro e w5 ⟨rfl, hb⟩
    have B5 := Lib.hid (B4.out.trans (hb.mono B4.out.size))
    clear hb
    go_wp2_with fail
    go_ret3
    exact ⟨rfl, B5.out⟩
  · rw [h2, h3]
    rw [if_neg h1] at HV
    have hlt := last_none hf h0
    have q1 : decide (((headB s).size : Int) ≤ Lib.lastIndexByte s 63) = false := decide_eq_false (by rw [hhs]; omega)
    clear hf e1 hs hlett hfd h1 h2 h3 hwl hhs hts h0 hlt
    generalize Lib.lastIndexByte s 63 = LI at *
    generalize rT (hdF (bl (headB s))) (fill0 (wL s)) = R at *
    generalize sL (hdF (bl (headB s))) = r1 at *
    generalize sL (tl0 (bl (tailB s))) = r2 at *
    generalize headB s = H at *
    generalize tailB s = T at *
    go_enter Tryd.func27, Tryd.ntmps27
    go_wp2_with fail
    refine H1.out.mono ?_
    rintro e w1 ⟨rfl, hb⟩
    have B1 := Lib.hid hb
    clear hb
    go_wp2_with fail
    refine (HC.out w1).mono ?_
    rintro e w2 ⟨rfl, m, rfl⟩
    have B2 := Lib.hid (below_drewN B1.out m)
    generalize w1.drewN m = w2 at *
    go_wp2_with fail
    refine (HRa.out w2 (HM.out.up B2.out)).mono ?_
    rintro e w3 ⟨rfl, hb⟩
    have B3 := Lib.hid (B2.out.trans (hb.mono B2.out.size))
    clear hb
    go_wp2_with fail
    refine (HRb.out w3 (HM.out.up B3.out)).mono ?_
    rintro e w4 ⟨rfl, hb⟩
    have B4 := Lib.hid (B3.out.trans (hb.mono B3.out.size))
    clear hb
    go_wp2_with fail
    rw [HLow.out]
    go_wp2_with fail
    refine (HV.out w4 (HT.out.below' B4.out)).mono ?_
    rintro e w5 ⟨rfl, hb⟩
    have B5 := Lib.hid (B4.out.trans (hb.mono B4.out.size))
    clear hb
    go_wp2_with fail
    refine (HL.out w5).mono ?_
    rintro e w6 ⟨rfl, rfl⟩
    go_wp2_with fail
    go_ret3
    exact ⟨rfl, B5.out⟩
  · rw [h2, h3]
    rw [if_neg h1] at HV
    have hlt := last_is hf he hnb
    have hal : a.length + 1 + b.length = 6 := by rw [he] at hwl; simp at hwl; omega
    have q1 : decide (((headB s).size : Int) ≤ Lib.lastIndexByte s 63) = true := decide_eq_true (by rw [hlt, hhs]; omega)
    obtain ⟨ha, hbd⟩ := wdig_parts (by rw [← he]; exact wl_dig hf) hnb
    have hfa := fill0_dig ha
    have hds := fun d hd => dst_is hfa hbd (by omega) (d := d) hd
    have hd10 := (dst_lt hfa hbd (by omega)).1
    have hlD : ∀ d : Nat, (fill0 a ++ (d : Int) :: b).length = 6 := fun d => by rw [List.length_append, fill0_len, List.length_cons]; omega
    have hhl : (hdF (bl (headB s))).length = s.size - 6 := by unfold hdF; rw [List.length_map, bl_len, hhs]
    have HRp := Lib.hid (show ∀ (d : Nat) (w : World), d < 10 → Calls Tryd.prog 77 #[.string (rT (hdF (bl (headB s))) (fill0 (wL s))), .int .i64 ((s.size - 6 + a.length : Nat) : Int), .int .u8 ((48 + d : Nat) : Int)] w fun e w' => e = .returned (.string (rT (hdF (bl (headB s))) (fill0 a ++ (d : Int) :: b))) ∧ Below w.heap.size w w' from fun d w hd => by
      have := replace_any (rT (hdF (bl (headB s))) (fill0 (wL s))) (s.size - 6 + a.length) (UInt8.ofNat (48 + d)) w (by rw [hsz0]; omega) (by rw [hsz0]; omega)
      rw [ofNat_toNat (by omega)] at this
      rw [he, ← hhl, set_is hnb] at this
      rw [he, ← hhl]
      exact this)
    have HVd := Lib.hid (show ∀ (d : Nat) (w : World), d < 10 → TabsR w → Calls Tryd.prog 18 #[.string (rT (hdF (bl (headB s))) (fill0 a ++ (d : Int) :: b))] w fun e w' => e = .returned (.int .i64 (if d = dst (fill0 a) b then 0 else 6)) ∧ Below w.heap.size w w' from fun d w hd ht => by
      have := Valid_any (rT (hdF (bl (headB s))) (fill0 a ++ (d : Int) :: b)) w (by rw [rT_size (hlD d), hhl]; omega) ht
      rw [rT_valid hlett (hlD d) (fun x hx => by
        rcases List.mem_append.1 hx with hx | hx
        · exact hfa x hx
        · rcases List.mem_cons.1 hx with rfl | hx
          · exact nat_dig hd
          · exact hbd x hx)] at this
      rw [show (if sumL (fill0 a ++ (d : Int) :: b) = 0 then (0 : Int) else 6) = if d = dst (fill0 a) b then 0 else 6 from by
        by_cases h : d = dst (fill0 a) b
        · rw [if_pos h, if_pos ((hds d hd).2 h)]
        · rw [if_neg h, if_neg fun e => h ((hds d hd).1 e)]] at this
      exact this)
    rw [hlt] at HL q1
    have q1n : decide ((headB s).size ≤ s.size - 6 + a.length) = true := decide_eq_true (by rw [hhs]; omega)
    have hmm : s.size - 6 + a.length ≤ 900 := by omega
    clear hf e1 hs hlett hfd h1 h2 h3 hwl hhs hts hlt he hnb ha hbd hfa hds hlD hhl hal hsz0
    generalize s.size - 6 + a.length = LI at *
    generalize hG : (fun d : Nat => rT (hdF (bl (headB s))) (fill0 a ++ (d : Int) :: b)) = G at *
    have hG' : ∀ d : Nat, rT (hdF (bl (headB s))) (fill0 a ++ (d : Int) :: b) = G d := fun d => by rw [← hG]
    simp only [hG'] at HRp HVd ⊢
    clear hG hG'
    generalize dst (fill0 a) b = dd at *
    generalize rT (hdF (bl (headB s))) (fill0 (wL s)) = R at *
    generalize sL (hdF (bl (headB s))) = r1 at *
    generalize sL (tl0 (bl (tailB s))) = r2 at *
    generalize headB s = H at *
    generalize tailB s = T at *
    go_enter Tryd.func27, Tryd.ntmps27
    go_wp2_with fail
    refine H1.out.mono ?_
    rintro e w1 ⟨rfl, hb⟩
    have B1 := Lib.hid hb
    clear hb
    go_wp2_with fail
    refine (HC.out w1).mono ?_
    rintro e w2 ⟨rfl, m, rfl⟩
    have B2 := Lib.hid (below_drewN B1.out m)
    generalize w1.drewN m = w2 at *
    go_wp2_with fail
    refine (HRa.out w2 (HM.out.up B2.out)).mono ?_
    rintro e w3 ⟨rfl, hb⟩
    have B3 := Lib.hid (B2.out.trans (hb.mono B2.out.size))
    clear hb
    go_wp2_with fail
    refine (HRb.out w3 (HM.out.up B3.out)).mono ?_
    rintro e w4 ⟨rfl, hb⟩
    have B4 := Lib.hid (B3.out.trans (hb.mono B3.out.size))
    clear hb
    go_wp2_with fail
    rw [HLow.out]
    go_wp2_with fail
    refine (HV.out w4 (HT.out.below' B4.out)).mono ?_
    rintro e w5 ⟨rfl, hb⟩
    have B5 := Lib.hid (B4.out.trans (hb.mono B4.out.size))
    clear hb
    go_wp2_with fail
    refine (HL.out w5).mono ?_
    rintro e w6 ⟨rfl, rfl⟩
    go_wp2_with fail
    clear q1 q1n
    go_loopw [] (fun wr => ∃ pos : Nat, pos ≤ dd ∧ wr.heap[w5.heap.size]? = some (.stringIter tenB pos) ∧ Below w.heap.size w wr) (fun wr => 10 - wr.iterPos w5.heap.size)
    case atStart => exact ⟨0, by omega, World.iter_heap w5 tenB 0, B5.out.alloc B5.out.size _⟩
    case round =>
      obtain ⟨pos, hpos, hit, hb⟩ := hrel
      have hpos0 := iterPos_of hit
      have hp : pos < tenB.size := by show pos < 10; omega
      have hp10 : pos < 10 := by omega
      have hnx : ∀ ty, (Instr.next (.pointer (some ⟨w5.heap.size, 0, none⟩)) true ty).run Tryd.prog wr = _ := fun ty => Lib.run_next_ascii_at wr w5.heap.size tenB pos ty hit hp (by rw [tenB_at hp]; omega)
      simp only [tenB_at hp] at hnx
      have hit2 := Lib.iterAt_heap wr w5.heap.size tenB pos (pos + 1) hit
      have hb2 := Lib.below_iterAt hb (k := w5.heap.size) B5.out.size tenB (pos + 1)
      generalize hW1 : wr.iterAt w5.heap.size tenB (pos + 1) = W1 at *
      have P0 := Lib.hid hpos0
      have IT := Lib.hid hit2
      have B6 := Lib.hid hb2
      have HRp1 := Lib.hid (fun w => HRp.out pos w hp10)
      have HVd1 := Lib.hid (fun w h => HVd.out pos w hp10 h)
      rw [show ((48 + pos : Nat) : Int) = 48 + (pos : Int) by omega] at HRp1
      have hgl := lt_of_block hit2
      clear hW1 hpos0 hit2 hb2 hit hb
      by_cases hd : pos = dd
      · rw [if_pos hd] at HVd1
        have HD := Lib.hid hd
        clear hd
        go_wp2_with fail
        refine (HRp1.out W1).mono ?_
        rintro e w7 ⟨rfl, hb⟩
        have B7 := Lib.hid (B6.out.trans (hb.mono B6.out.size))
        clear hb
        go_wp2_with fail
        refine (HVd1.out w7 (HT.out.below' B7.out)).mono ?_
        rintro e w8 ⟨rfl, hb⟩
        have B8 := Lib.hid (B7.out.trans (hb.mono B7.out.size))
        clear hb
        go_wp2_with fail
        go_ret3
        exact ⟨by rw [← HD.out]; rfl, B8.out⟩
      · rw [if_neg hd] at HVd1
        have hne : pos + 1 ≤ dd := by omega
        clear hd
        go_wp2_with fail
        refine (HRp1.out W1).mono ?_
        rintro e w7 ⟨rfl, hb⟩
        have I7 := Lib.hid ((hb.block _ hgl).trans IT.out)
        have B7 := Lib.hid (B6.out.trans (hb.mono B6.out.size))
        have hg7 : w5.heap.size < w7.heap.size := Nat.lt_of_lt_of_le hgl hb.size
        clear hb
        go_wp2_with fail
        refine (HVd1.out w7 (HT.out.below' B7.out)).mono ?_
        rintro e w8 ⟨rfl, hb⟩
        have I8 := Lib.hid ((hb.block _ hg7).trans I7.out)
        have B8 := Lib.hid (B7.out.trans (hb.mono B7.out.size))
        clear hb
        go_wp2_with fail
        go_roundw
        case rel => exact ⟨pos + 1, hne, I8.out, B8.out⟩
        case measure => rw [iterPos_of I8.out, P0.out]; omega
end Go.Proofs.YtoenecgjiejljaaDoor
namespace Go.Proofs.YtoenecgjiejljaaDoor
open Go.RowKit
set_option linter.unusedVariables false

theorem worn_text (hd : List UInt8) (D : List Int) (hD : D.length = 6) (hdd : ∀ x ∈ D, Dig x) : (rT hd D).extract 0 (hd.length + 4) ++ ⟨#[63, 63]⟩ = wT hd (D.take 4 ++ [-1, -1]) := by
  apply bl_inj
  rw [bl_app, bl_extract, List.drop_zero]
  unfold rT wT
  rw [bl_sL, bl_sL, Nat.sub_zero, List.take_length_add_append, ← List.map_take, List.map_append, ← List.append_assoc]
  congr 2
  exact List.map_congr_left fun x hx => by
    have := (hdd x (List.mem_of_mem_take hx)).1
    unfold wnB
    rw [if_neg (by omega)]
theorem fits_own {s : ByteArray} (h : validE s = 0) : fitsE s s = 0 ∧ fitsV s s = true := by
  have hf := valid_form h
  have hft : formB s true = true := by
    refine formB_ok (form_size hf) fun i hi => ?_
    have := ring_at hf hi
    unfold okAt at this ⊢
    rw [Bool.false_and, Bool.or_false] at this
    rw [this]; rfl
  unfold fitsE fitsV
  rw [if_pos hft, if_pos hft, if_pos h, h]
  refine ⟨rfl, ?_⟩
  unfold fitsB
  rw [decide_eq_true rfl, Bool.true_and]
  exact List.all_eq_true.2 fun i _ => by rw [decide_eq_true (rfl : bAt s i = bAt s i), Bool.or_true]
theorem list_self' (s : ByteArray) : (s.toList == s.toList) = true := by simp
set_option maxRecDepth 8000 in
set_option maxHeartbeats 8000000 in
theorem TopR_walk (s : ByteArray) (n : Int) (t : ByteArray) (w : World) (hT : TabsR w) (hI : TbI w) (hM : TbM w) (hs : s.size ≤ 9223372036854775807) (ht : t.size ≤ 9223372036854775807) :
    Calls Tryd.prog 9 #[.string s, .int .i64 n, .string t] w fun e w' => e = .returned (.bool true) ∧ Below w.heap.size w w' := by
  have HT := Lib.hid hT
  have HM := Lib.hid hM
  have HI := Lib.hid hI
  clear hT hM hI
  by_cases hls : 100 < s.size
  · have q1 : decide ((100 : Int) < (s.size : Int)) = true := decide_eq_true (by omega)
    have q1' : decide (100 < s.size) = true := decide_eq_true hls
    clear hls
    go_enter Tryd.func9, Tryd.ntmps9
    go_wp2_with fail
    refine (Check_236 w HT.out).mono ?_
    rintro e w1 ⟨rfl, hb⟩
    have B1 := Lib.hid (show Below w.heap.size w w1 from hb)
    clear hb
    go_wp2_with fail
    go_ret
    exact ⟨rfl, B1.out⟩
  have q1 : decide ((100 : Int) < (s.size : Int)) = false := decide_eq_false (by omega)
  have q1' : decide (100 < s.size) = false := decide_eq_false hls
  by_cases hlt : 100 < t.size
  · have q2 : decide ((100 : Int) < (t.size : Int)) = true := decide_eq_true (by omega)
    have q2' : decide (100 < t.size) = true := decide_eq_true hlt
    clear hls hlt
    go_enter Tryd.func9, Tryd.ntmps9
    go_wp2_with fail
    refine (Check_236 w HT.out).mono ?_
    rintro e w1 ⟨rfl, hb⟩
    have B1 := Lib.hid (show Below w.heap.size w w1 from hb)
    clear hb
    go_wp2_with fail
    go_ret
    exact ⟨rfl, B1.out⟩
  have q2 : decide ((100 : Int) < (t.size : Int)) = false := decide_eq_false (by omega)
  have q2' : decide (100 < t.size) = false := decide_eq_false hlt
  have T1 := Lib.hid (fun w h h' => Make_any s n w (by omega) h h')
  have N1 := Lib.hid (fun (hf : formB t false = false) w => Near_not t w (by omega) hf)
  have N2 := Lib.hid (fun (hf : formB t false = true) w h => Near_any t w hf h)
  have N3 := Lib.hid (fun w h => Valid_any t w (by omega) h)
  have HV := Lib.hid (fun y (h : y ∈ nrL t) => nrL_valid h)
  have HRl := Lib.hid (nrL_len t)
  have HSo := Lib.hid (fun (hf : formB t false = true) => nrL_sorted (s := t) (by have := form_size hf; omega))
  have HSix := Lib.hid (fun (hf : formB t false = true) (h : ¬ validE t = 0) => near_six hf h)
  have ht8 : t.size ≤ 100 := by omega
  generalize nrL t = R at *
  obtain ⟨E, hE⟩ : ∃ E, validE t = E := ⟨_, rfl⟩
  rw [hE] at N3 HSix
  clear hE
  by_cases h0 : mkE s n = 0
  case neg =>
    have z1 : (mkE s n == 0) = false := beq_eq_false_iff_ne.2 h0
    have z2 : (mkE s n != 0) = true := by simpa using h0
    clear hls hlt h0
    generalize mkS s n = S at *
    generalize mkE s n = F at *
    cases hf : formB t false
    · have N1 := Lib.hid (fun w => N1.out hf w)
      clear hf

      go_enter Tryd.func9, Tryd.ntmps9
      go_wp2_with fail
      refine (Check_236 w HT.out).mono ?_
      rintro e w1 ⟨rfl, hb⟩
      have B1 := Lib.hid (show Below w.heap.size w w1 from hb)
      clear hb
      go_wp2_with fail
      refine (T1.out w1 (HT.out.below' B1.out) (HI.out.up B1.out)).mono ?_
      rintro e w2 ⟨rfl, hb⟩
      have B2 := Lib.hid (B1.out.trans (hb.mono B1.out.size))
      clear hb
      go_wp2_with fail
      refine (N1.out w2).mono ?_
      rintro e w40 ⟨rfl, hb⟩
      have B40 := Lib.hid (B2.out.trans (hb.mono B2.out.size))
      clear hb
      go_wp2_with fail
      go_ret
      exact ⟨rfl, B40.out⟩
    · have N2 := Lib.hid (fun w h => N2.out hf w h)
      have HSo := Lib.hid (HSo.out hf)
      have HSix := Lib.hid (fun h => HSix.out hf h)
      clear hf

      go_enter Tryd.func9, Tryd.ntmps9
      go_wp2_with fail
      refine (Check_236 w HT.out).mono ?_
      rintro e w1 ⟨rfl, hb⟩
      have B1 := Lib.hid (show Below w.heap.size w w1 from hb)
      clear hb
      go_wp2_with fail
      refine (T1.out w1 (HT.out.below' B1.out) (HI.out.up B1.out)).mono ?_
      rintro e w2 ⟨rfl, hb⟩
      have B2 := Lib.hid (B1.out.trans (hb.mono B1.out.size))
      clear hb
      go_wp2_with fail
      refine (N2.out w2 (HT.out.below' B2.out)).mono ?_
      rintro e w40 ⟨A40, c40, rfl, ho, hb⟩
      have B40 := Lib.hid (B2.out.trans (hb.mono B2.out.size))
      have R40 := Lib.hid (Rd.of_own ho)
      clear ho hb
      go_wp2_with fail
      go_loopw [24] (fun i wr => ∃ k : Nat, k ≤ R.length ∧ i = .int .i64 k ∧ Below w40.heap.size w40 wr) (fun i _ => R.length - (intOf i).toNat)
      case atStart => exact ⟨0, by omega, rfl, Below.refl _ _⟩
      case round =>
        obtain ⟨k, hk, rfl, hbb⟩ := hrel
        have BB := Lib.hid hbb
        clear hbb
        by_cases hlt : k < R.length
        · obtain ⟨y, hy⟩ : ∃ y, R[k]? = some y := ⟨_, List.getElem?_eq_getElem hlt⟩
          obtain ⟨hv, hyl⟩ := HV.out y (List.mem_of_getElem? hy)
          have hty : (tsl R)[k]? = some (.string (sL y)) := by unfold tsl txts; rw [List.getElem?_map, List.getElem?_map, hy]; rfl
          obtain ⟨b, o, rfl, hbl, _⟩ := R40.out.at_ hty
          have HC := Lib.hid (fun j z (hz : (tsl R)[j]? = some z) w' (hb' : Below w40.heap.size w40 w') => show w'.cell? ⟨b, o + j, none⟩ = some z by
            obtain ⟨b2, o2, e2, _, h2⟩ := (R40.out.below hb' (Nat.le_refl _)).at_ hz
            cases e2
            exact h2)
          have hc0 := HC.out k _ hty wr BB.out
          have T20 := Lib.hid (fun w h => Near_any (sL y) w (valid_form hv) h)
          rw [nr_none hv] at T20
          have T21 := Lib.hid (fun w h => Valid_any (sL y) w (by rw [sL_size, hyl]; omega) h)
          rw [hv] at T21
          have HLT := Lib.hid hlt
          have k0 : (0 : Int) ≤ (k : Int) := by omega
          have kl : (k : Int) < (R.length : Int) := by omega
          by_cases hk0 : 0 < k
          · obtain ⟨p, hp⟩ : ∃ p, k = p + 1 := ⟨k - 1, by omega⟩
            obtain ⟨z, hz⟩ : ∃ z, R[p]? = some z := ⟨_, List.getElem?_eq_getElem (by omega)⟩
            have htz : (tsl R)[p]? = some (.string (sL z)) := by unfold tsl txts; rw [List.getElem?_map, List.getElem?_map, hz]; rfl
            have hzy : z < y := by
              have h1 := List.getElem?_eq_some_iff.1 hz
              have h2 := List.getElem?_eq_some_iff.1 hy
              obtain ⟨a1, a2⟩ := h1
              obtain ⟨a3, a4⟩ := h2
              have := List.pairwise_iff_getElem.1 HSo.out p k a1 a3 (by omega)
              rw [a2, a4] at this
              exact this
            have f1 : Op.bytesLess (sL y).toList (sL z).toList = false := by rw [sL_toList, sL_toList, bytesLess_eq]; exact decide_eq_false fun h => absurd (List.lt_trans h hzy) (List.lt_irrefl _)
            have f2 : ((sL y).toList == (sL z).toList) = false := by rw [sL_toList, sL_toList]; exact beq_eq_false_iff_ne.2 fun e => absurd (e ▸ hzy) (List.lt_irrefl _)
            have HTy := Lib.hid hty
            have HTz := Lib.hid htz
            have e0 : decide ((0 : Int) < (k : Int)) = true := decide_eq_true (by omega)
            have e0' : decide (0 < k) = true := decide_eq_true hk0
            have e3 : (k : Int) - 1 = (p : Int) := by omega
            have p0 : (0 : Int) ≤ (p : Int) := by omega
            have pl : (p : Int) < (R.length : Int) := by omega
            have ew : IntKind.i64.wrap (p : Int) = (p : Int) := by have := HRl.out; rw [IntKind.wrap_i64]; omega
            have p9 : (p : Int) ≤ 1000 := by have := HRl.out; omega
            generalize sL y = X at *
            generalize sL z = Z at *
            have HPK := Lib.hid hp
            clear hy hv hyl hzy hz hk0 hp
            go_wp2_with fail
            refine (T20.out wr (HT.out.below' (B40.out.trans (BB.out.mono B40.out.size)))).mono ?_
            rintro e w41 ⟨A41, c41, rfl, ho, hb⟩
            have B41 := Lib.hid (BB.out.trans (hb.mono BB.out.size))
            have BT := Lib.hid (B40.out.trans (B41.out.mono B40.out.size))
            have t0 := HC.out k _ HTy.out w41 B41.out
            have t1 := HC.out p _ HTz.out w41 B41.out
            clear hty htz hc0 ho hb
            have T22 := Lib.hid (fun w' (hb : Below w41.heap.size w41 w') => T21.out w' (HT.out.below' (BT.out.trans (hb.mono BT.out.size))))
            have g0 := fun d os => cell_regrown t0 d os
            have g1 := fun d os => cell_regrown t1 d os
            go_wp2_with fail
            refine wp_region_quiet_below (by kernel_rfl) (by kernel_rfl) ?_
            repeat (go_big_quiet_step (first | (with_reducible exact Calls.regrown_of (T22.out _ (below_regrown _ _ _)))))
            refine wpQuiet_nil ?_
            intro _ hw'
            obtain ⟨⟨dq, osq⟩, hw''⟩ := hw'
            subst hw''
            have B6 := Lib.hid (B41.out.trans ((below_regrown w41 dq osq).mono B41.out.size))
            go_wp2_with fail
            go_roundw
            case rel => exact ⟨k + 1, by have := HLT.out; omega, by go_num, B6.out⟩
            case measure => have := HLT.out; have := p9; simp [intOf]; omega
          · have HK0 := Lib.hid (show k = 0 by omega)
            have p9 : (k : Int) ≤ 1000 := by omega
            have e0 : decide ((0 : Int) < (k : Int)) = false := decide_eq_false (by omega)
            have e0' : decide (0 < k) = false := decide_eq_false hk0
            have HTy := Lib.hid hty
            generalize sL y = X at *
            clear hy hv hyl hk0
            go_wp2_with fail
            refine (T20.out wr (HT.out.below' (B40.out.trans (BB.out.mono B40.out.size)))).mono ?_
            rintro e w41 ⟨A41, c41, rfl, ho, hb⟩
            have B41 := Lib.hid (BB.out.trans (hb.mono BB.out.size))
            have BT := Lib.hid (B40.out.trans (B41.out.mono B40.out.size))
            have t0 := HC.out k _ HTy.out w41 B41.out
            clear hty hc0 ho hb
            have T22 := Lib.hid (fun w' (hb : Below w41.heap.size w41 w') => T21.out w' (HT.out.below' (BT.out.trans (hb.mono BT.out.size))))
            have g0 := fun d os => cell_regrown t0 d os
            go_wp2_with fail
            refine wp_region_quiet_below (by kernel_rfl) (by kernel_rfl) ?_
            repeat (go_big_quiet_step (first | (with_reducible exact Calls.regrown_of (T22.out _ (below_regrown _ _ _)))))
            refine wpQuiet_nil ?_
            intro _ hw'
            obtain ⟨⟨dq, osq⟩, hw''⟩ := hw'
            subst hw''
            have B6 := Lib.hid (B41.out.trans ((below_regrown w41 dq osq).mono B41.out.size))
            go_wp2_with fail
            go_roundw
            case rel => exact ⟨k + 1, by have := HLT.out; omega, by go_num, B6.out⟩
            case measure => have := HLT.out; have := p9; simp [intOf]; omega
        · obtain rfl : k = R.length := by omega
          have BW := Lib.hid (B40.out.trans (BB.out.mono B40.out.size))
          by_cases hE : E = 0
          · have x1 : (E == 0) = true := by rw [beq_iff_eq]; exact hE
            clear hE
            go_wp2_with fail
            refine (N3.out wr (HT.out.below' BW.out)).mono ?_
            rintro e w42 ⟨rfl, hb⟩
            have B42 := Lib.hid (BW.out.trans (hb.mono BW.out.size))
            clear hb
            go_wp2_with fail
            go_ret
            exact ⟨rfl, B42.out⟩
          · have x1 : (E == 0) = false := by rw [beq_eq_false_iff_ne]; exact hE
            have x2 : decide ((6 : Int) ≤ (R.length : Int)) = true := decide_eq_true (by have := HSix.out hE; omega)
            have x2' : decide (6 ≤ R.length) = true := decide_eq_true (HSix.out hE)
            clear hE
            go_wp2_with fail
            refine (N3.out wr (HT.out.below' BW.out)).mono ?_
            rintro e w42 ⟨rfl, hb⟩
            have B42 := Lib.hid (BW.out.trans (hb.mono BW.out.size))
            clear hb
            go_wp2_with fail
            go_ret
            exact ⟨rfl, B42.out⟩
  obtain ⟨hse, hn0, hn9⟩ := mkE_0 h0
  have hsz := mk_size h0
  obtain ⟨v1, v2, v3⟩ := mk_back h0
  have hS : mkS s n = rT (bl s) (rgD n.toNat) := by unfold mkS; rw [if_pos h0, mkR_rT]
  have hSm : mkS s n = mkR s n.toNat := by unfold mkS; rw [if_pos h0]
  have hlet := series_lett hse
  have hl12 := hlet.1
  rw [bl_len] at hl12
  obtain ⟨c1, c2, c3, c4⟩ := ring_ten hlet (rgD_len n.toNat) (rgD_dig _) (rgD_sum _)
  have hW := worn_text (bl s) (rgD n.toNat) (rgD_len _) (rgD_dig _)
  rw [← hS, bl_len] at hW
  rw [← hS] at c4
  have hws : (wT (bl s) ((rgD n.toNat).take 4 ++ [-1, -1])).size ≤ 900 := by rw [wT_size (by rw [List.length_append, List.length_take, rgD_len]; rfl), bl_len]; omega
  have T8 := Lib.hid (fun w h => Count_any (wT (bl s) ((rgD n.toNat).take 4 ++ [-1, -1])) w hws h)
  have T9 := Lib.hid (fun w h h' => First_any (wT (bl s) ((rgD n.toNat).take 4 ++ [-1, -1])) w hws h h')
  rw [c1, c2] at T8
  rw [c1, c3] at T9
  have T2 := Lib.hid (fun w h => Valid_any (mkS s n) w (by omega) h)
  rw [v1] at T2
  have T3 := Lib.hid (fun w h => Near_any (mkS s n) w (valid_form v1) h)
  rw [nr_none v1] at T3
  have T4 := Lib.hid (fun w h => Fits_any (mkS s n) (mkS s n) w (by omega) (by omega) h)
  rw [(fits_own v1).1, (fits_own v1).2] at T4
  have T5 := Lib.hid (fun w h => Count_any (mkS s n) w (by omega) h)
  rw [(ring_one v1).1, (ring_one v1).2] at T5
  have T6 := Lib.hid (fun w h h' => Next_any (mkS s n) w (by omega) h h')
  have T7 := Lib.hid (fun w h h' => Make_any s (n + 1) w (by omega) h h')
  have hhd : headB (mkS s n) = s := by have := v2; unfold splitS at this; rw [if_pos v1] at this; exact this
  have hnb : numB (mkS s n) = n := by have := v3; unfold splitN at this; rw [if_pos v1] at this; exact this
  rw [h0] at T1
  obtain ⟨F, hF⟩ : ∃ F, frS (wT (bl s) ((rgD n.toNat).take 4 ++ [-1, -1])) = F := ⟨_, rfl⟩
  rw [hF] at c4 T9
  generalize wT (bl s) ((rgD n.toNat).take 4 ++ [-1, -1]) = W at *
  have r1 : ((mkS s n).size : Int) = (s.size : Int) + 6 := by omega
  have r2 : (((mkS s n).size : Int) != (s.size : Int) + 6) = false := by rw [r1]; simp
  have r3 : ((mkS s n).size : Int) - 2 = ((s.size + 4 : Nat) : Int) := by omega
  have r4 : (0 : Int) ≤ ((s.size + 4 : Nat) : Int) := by omega
  have r5 : ((s.size + 4 : Nat) : Int) ≤ ((mkS s n).size : Int) := by omega
  have r6 : (mkS s n).size ≤ 8 := by omega
  have ew : IntKind.i64.wrap (n + 1) = n + 1 := by rw [IntKind.wrap_i64]; omega
  have hfs : (!(Op.bytesLess F.toList (mkS s n).toList || F.toList == (mkS s n).toList)) = false := by
    rw [Lib.toList_data, Lib.toList_data, bytesLess_eq]
    rcases c4 with h | h
    · have : decide (F.data.toList < (mkS s n).data.toList) = true := decide_eq_true h
      rw [this]; rfl
    · rw [h]; simp
  have HW := Lib.hid hW
  by_cases h9 : n = 99999
  · have x1 : nxE (mkS s n) = 3 := by unfold nxE; rw [if_pos v1, if_pos (by rw [hnb]; exact h9)]
    have x2 : mkE s (n + 1) = 1 := by unfold mkE; rw [if_pos hse, if_neg (by omega)]
    rw [x1] at T6
    rw [x2] at T7
    clear hls hlt h0 hse hn0 hn9 hsz v1 v2 v3 hS hSm hlet hl12 c1 c2 c3 c4 hW hws hhd hnb hF h9 x1 x2
    generalize mkS s n = S at *
    generalize nxS S = N at *
    generalize mkS s (n + 1) = M at *
    cases hf : formB t false
    · have N1 := Lib.hid (fun w => N1.out hf w)
      clear hf

      go_enter Tryd.func9, Tryd.ntmps9
      go_wp2_with fail
      refine (Check_236 w HT.out).mono ?_
      rintro e w1 ⟨rfl, hb⟩
      have B1 := Lib.hid (show Below w.heap.size w w1 from hb)
      clear hb
      go_wp2_with fail
      refine (T1.out w1 (HT.out.below' B1.out) (HI.out.up B1.out)).mono ?_
      rintro e w2 ⟨rfl, hb⟩
      have B2 := Lib.hid (B1.out.trans (hb.mono B1.out.size))
      clear hb
      go_wp2_with fail
      refine (T2.out w2 (HT.out.below' B2.out)).mono ?_
      rintro e w3 ⟨rfl, hb⟩
      have B3 := Lib.hid (B2.out.trans (hb.mono B2.out.size))
      clear hb
      go_wp2_with fail
      refine (T3.out w3 (HT.out.below' B3.out)).mono ?_
      rintro e w4 ⟨A4, c4, rfl, ho, hb⟩
      have B4 := Lib.hid (B3.out.trans (hb.mono B3.out.size))
      clear ho hb
      go_wp2_with fail
      refine (T4.out w4 (HT.out.below' B4.out)).mono ?_
      rintro e w5 ⟨rfl, hb⟩
      have B5 := Lib.hid (B4.out.trans (hb.mono B4.out.size))
      clear hb
      go_wp2_with fail
      refine (T5.out w5 (HT.out.below' B5.out)).mono ?_
      rintro e w6 ⟨rfl, hb⟩
      have B6 := Lib.hid (B5.out.trans (hb.mono B5.out.size))
      clear hb
      go_wp2_with fail
      refine (T6.out w6 (HT.out.below' B6.out) (HI.out.up B6.out)).mono ?_
      rintro e w7 ⟨rfl, hb⟩
      have B7 := Lib.hid (B6.out.trans (hb.mono B6.out.size))
      clear hb
      go_wp2_with fail
      refine (T7.out w7 (HT.out.below' B7.out) (HI.out.up B7.out)).mono ?_
      rintro e w8 ⟨rfl, hb⟩
      have B8 := Lib.hid (B7.out.trans (hb.mono B7.out.size))
      clear hb
      go_wp2_with fail
      rw [HW.out]
      refine (T8.out w8 (HT.out.below' B8.out)).mono ?_
      rintro e w9 ⟨rfl, hb⟩
      have B9 := Lib.hid (B8.out.trans (hb.mono B8.out.size))
      clear hb
      go_wp2_with fail
      refine (T9.out w9 (HT.out.below' B9.out) (HM.out.up B9.out)).mono ?_
      rintro e w10 ⟨rfl, hb⟩
      have B10 := Lib.hid (B9.out.trans (hb.mono B9.out.size))
      clear hb
      go_wp2_with fail
      refine (N1.out w10).mono ?_
      rintro e w40 ⟨rfl, hb⟩
      have B40 := Lib.hid (B10.out.trans (hb.mono B10.out.size))
      clear hb
      go_wp2_with fail
      go_ret
      exact ⟨rfl, B40.out⟩
    · have N2 := Lib.hid (fun w h => N2.out hf w h)
      have HSo := Lib.hid (HSo.out hf)
      have HSix := Lib.hid (fun h => HSix.out hf h)
      clear hf

      go_enter Tryd.func9, Tryd.ntmps9
      go_wp2_with fail
      refine (Check_236 w HT.out).mono ?_
      rintro e w1 ⟨rfl, hb⟩
      have B1 := Lib.hid (show Below w.heap.size w w1 from hb)
      clear hb
      go_wp2_with fail
      refine (T1.out w1 (HT.out.below' B1.out) (HI.out.up B1.out)).mono ?_
      rintro e w2 ⟨rfl, hb⟩
      have B2 := Lib.hid (B1.out.trans (hb.mono B1.out.size))
      clear hb
      go_wp2_with fail
      refine (T2.out w2 (HT.out.below' B2.out)).mono ?_
      rintro e w3 ⟨rfl, hb⟩
      have B3 := Lib.hid (B2.out.trans (hb.mono B2.out.size))
      clear hb
      go_wp2_with fail
      refine (T3.out w3 (HT.out.below' B3.out)).mono ?_
      rintro e w4 ⟨A4, c4, rfl, ho, hb⟩
      have B4 := Lib.hid (B3.out.trans (hb.mono B3.out.size))
      clear ho hb
      go_wp2_with fail
      refine (T4.out w4 (HT.out.below' B4.out)).mono ?_
      rintro e w5 ⟨rfl, hb⟩
      have B5 := Lib.hid (B4.out.trans (hb.mono B4.out.size))
      clear hb
      go_wp2_with fail
      refine (T5.out w5 (HT.out.below' B5.out)).mono ?_
      rintro e w6 ⟨rfl, hb⟩
      have B6 := Lib.hid (B5.out.trans (hb.mono B5.out.size))
      clear hb
      go_wp2_with fail
      refine (T6.out w6 (HT.out.below' B6.out) (HI.out.up B6.out)).mono ?_
      rintro e w7 ⟨rfl, hb⟩
      have B7 := Lib.hid (B6.out.trans (hb.mono B6.out.size))
      clear hb
      go_wp2_with fail
      refine (T7.out w7 (HT.out.below' B7.out) (HI.out.up B7.out)).mono ?_
      rintro e w8 ⟨rfl, hb⟩
      have B8 := Lib.hid (B7.out.trans (hb.mono B7.out.size))
      clear hb
      go_wp2_with fail
      rw [HW.out]
      refine (T8.out w8 (HT.out.below' B8.out)).mono ?_
      rintro e w9 ⟨rfl, hb⟩
      have B9 := Lib.hid (B8.out.trans (hb.mono B8.out.size))
      clear hb
      go_wp2_with fail
      refine (T9.out w9 (HT.out.below' B9.out) (HM.out.up B9.out)).mono ?_
      rintro e w10 ⟨rfl, hb⟩
      have B10 := Lib.hid (B9.out.trans (hb.mono B9.out.size))
      clear hb
      go_wp2_with fail
      refine (N2.out w10 (HT.out.below' B10.out)).mono ?_
      rintro e w40 ⟨A40, c40, rfl, ho, hb⟩
      have B40 := Lib.hid (B10.out.trans (hb.mono B10.out.size))
      have R40 := Lib.hid (Rd.of_own ho)
      clear ho hb
      go_wp2_with fail
      go_loopw [24] (fun i wr => ∃ k : Nat, k ≤ R.length ∧ i = .int .i64 k ∧ Below w40.heap.size w40 wr) (fun i _ => R.length - (intOf i).toNat)
      case atStart => exact ⟨0, by omega, rfl, Below.refl _ _⟩
      case round =>
        obtain ⟨k, hk, rfl, hbb⟩ := hrel
        have BB := Lib.hid hbb
        clear hbb
        by_cases hlt : k < R.length
        · obtain ⟨y, hy⟩ : ∃ y, R[k]? = some y := ⟨_, List.getElem?_eq_getElem hlt⟩
          obtain ⟨hv, hyl⟩ := HV.out y (List.mem_of_getElem? hy)
          have hty : (tsl R)[k]? = some (.string (sL y)) := by unfold tsl txts; rw [List.getElem?_map, List.getElem?_map, hy]; rfl
          obtain ⟨b, o, rfl, hbl, _⟩ := R40.out.at_ hty
          have HC := Lib.hid (fun j z (hz : (tsl R)[j]? = some z) w' (hb' : Below w40.heap.size w40 w') => show w'.cell? ⟨b, o + j, none⟩ = some z by
            obtain ⟨b2, o2, e2, _, h2⟩ := (R40.out.below hb' (Nat.le_refl _)).at_ hz
            cases e2
            exact h2)
          have hc0 := HC.out k _ hty wr BB.out
          have T20 := Lib.hid (fun w h => Near_any (sL y) w (valid_form hv) h)
          rw [nr_none hv] at T20
          have T21 := Lib.hid (fun w h => Valid_any (sL y) w (by rw [sL_size, hyl]; omega) h)
          rw [hv] at T21
          have HLT := Lib.hid hlt
          have k0 : (0 : Int) ≤ (k : Int) := by omega
          have kl : (k : Int) < (R.length : Int) := by omega
          by_cases hk0 : 0 < k
          · obtain ⟨p, hp⟩ : ∃ p, k = p + 1 := ⟨k - 1, by omega⟩
            obtain ⟨z, hz⟩ : ∃ z, R[p]? = some z := ⟨_, List.getElem?_eq_getElem (by omega)⟩
            have htz : (tsl R)[p]? = some (.string (sL z)) := by unfold tsl txts; rw [List.getElem?_map, List.getElem?_map, hz]; rfl
            have hzy : z < y := by
              have h1 := List.getElem?_eq_some_iff.1 hz
              have h2 := List.getElem?_eq_some_iff.1 hy
              obtain ⟨a1, a2⟩ := h1
              obtain ⟨a3, a4⟩ := h2
              have := List.pairwise_iff_getElem.1 HSo.out p k a1 a3 (by omega)
              rw [a2, a4] at this
              exact this
            have f1 : Op.bytesLess (sL y).toList (sL z).toList = false := by rw [sL_toList, sL_toList, bytesLess_eq]; exact decide_eq_false fun h => absurd (List.lt_trans h hzy) (List.lt_irrefl _)
            have f2 : ((sL y).toList == (sL z).toList) = false := by rw [sL_toList, sL_toList]; exact beq_eq_false_iff_ne.2 fun e => absurd (e ▸ hzy) (List.lt_irrefl _)
            have HTy := Lib.hid hty
            have HTz := Lib.hid htz
            have e0 : decide ((0 : Int) < (k : Int)) = true := decide_eq_true (by omega)
            have e0' : decide (0 < k) = true := decide_eq_true hk0
            have e3 : (k : Int) - 1 = (p : Int) := by omega
            have p0 : (0 : Int) ≤ (p : Int) := by omega
            have pl : (p : Int) < (R.length : Int) := by omega
            have ew : IntKind.i64.wrap (p : Int) = (p : Int) := by have := HRl.out; rw [IntKind.wrap_i64]; omega
            have p9 : (p : Int) ≤ 1000 := by have := HRl.out; omega
            generalize sL y = X at *
            generalize sL z = Z at *
            have HPK := Lib.hid hp
            clear hy hv hyl hzy hz hk0 hp
            go_wp2_with fail
            refine (T20.out wr (HT.out.below' (B40.out.trans (BB.out.mono B40.out.size)))).mono ?_
            rintro e w41 ⟨A41, c41, rfl, ho, hb⟩
            have B41 := Lib.hid (BB.out.trans (hb.mono BB.out.size))
            have BT := Lib.hid (B40.out.trans (B41.out.mono B40.out.size))
            have t0 := HC.out k _ HTy.out w41 B41.out
            have t1 := HC.out p _ HTz.out w41 B41.out
            clear hty htz hc0 ho hb
            have T22 := Lib.hid (fun w' (hb : Below w41.heap.size w41 w') => T21.out w' (HT.out.below' (BT.out.trans (hb.mono BT.out.size))))
            have g0 := fun d os => cell_regrown t0 d os
            have g1 := fun d os => cell_regrown t1 d os
            go_wp2_with fail
            refine wp_region_quiet_below (by kernel_rfl) (by kernel_rfl) ?_
            repeat (go_big_quiet_step (first | (with_reducible exact Calls.regrown_of (T22.out _ (below_regrown _ _ _)))))
            refine wpQuiet_nil ?_
            intro _ hw'
            obtain ⟨⟨dq, osq⟩, hw''⟩ := hw'
            subst hw''
            have B6 := Lib.hid (B41.out.trans ((below_regrown w41 dq osq).mono B41.out.size))
            go_wp2_with fail
            go_roundw
            case rel => exact ⟨k + 1, by have := HLT.out; omega, by go_num, B6.out⟩
            case measure => have := HLT.out; have := p9; simp [intOf]; omega
          · have HK0 := Lib.hid (show k = 0 by omega)
            have p9 : (k : Int) ≤ 1000 := by omega
            have e0 : decide ((0 : Int) < (k : Int)) = false := decide_eq_false (by omega)
            have e0' : decide (0 < k) = false := decide_eq_false hk0
            have HTy := Lib.hid hty
            generalize sL y = X at *
            clear hy hv hyl hk0
            go_wp2_with fail
            refine (T20.out wr (HT.out.below' (B40.out.trans (BB.out.mono B40.out.size)))).mono ?_
            rintro e w41 ⟨A41, c41, rfl, ho, hb⟩
            have B41 := Lib.hid (BB.out.trans (hb.mono BB.out.size))
            have BT := Lib.hid (B40.out.trans (B41.out.mono B40.out.size))
            have t0 := HC.out k _ HTy.out w41 B41.out
            clear hty hc0 ho hb
            have T22 := Lib.hid (fun w' (hb : Below w41.heap.size w41 w') => T21.out w' (HT.out.below' (BT.out.trans (hb.mono BT.out.size))))
            have g0 := fun d os => cell_regrown t0 d os
            go_wp2_with fail
            refine wp_region_quiet_below (by kernel_rfl) (by kernel_rfl) ?_
            repeat (go_big_quiet_step (first | (with_reducible exact Calls.regrown_of (T22.out _ (below_regrown _ _ _)))))
            refine wpQuiet_nil ?_
            intro _ hw'
            obtain ⟨⟨dq, osq⟩, hw''⟩ := hw'
            subst hw''
            have B6 := Lib.hid (B41.out.trans ((below_regrown w41 dq osq).mono B41.out.size))
            go_wp2_with fail
            go_roundw
            case rel => exact ⟨k + 1, by have := HLT.out; omega, by go_num, B6.out⟩
            case measure => have := HLT.out; have := p9; simp [intOf]; omega
        · obtain rfl : k = R.length := by omega
          have BW := Lib.hid (B40.out.trans (BB.out.mono B40.out.size))
          by_cases hE : E = 0
          · have x1 : (E == 0) = true := by rw [beq_iff_eq]; exact hE
            clear hE
            go_wp2_with fail
            refine (N3.out wr (HT.out.below' BW.out)).mono ?_
            rintro e w42 ⟨rfl, hb⟩
            have B42 := Lib.hid (BW.out.trans (hb.mono BW.out.size))
            clear hb
            go_wp2_with fail
            go_ret
            exact ⟨rfl, B42.out⟩
          · have x1 : (E == 0) = false := by rw [beq_eq_false_iff_ne]; exact hE
            have x2 : decide ((6 : Int) ≤ (R.length : Int)) = true := decide_eq_true (by have := HSix.out hE; omega)
            have x2' : decide (6 ≤ R.length) = true := decide_eq_true (HSix.out hE)
            clear hE
            go_wp2_with fail
            refine (N3.out wr (HT.out.below' BW.out)).mono ?_
            rintro e w42 ⟨rfl, hb⟩
            have B42 := Lib.hid (BW.out.trans (hb.mono BW.out.size))
            clear hb
            go_wp2_with fail
            go_ret
            exact ⟨rfl, B42.out⟩
  · obtain ⟨x1, x2, x3⟩ := nx_make v1 (by rw [hnb]; exact h9)
    rw [hhd, hnb] at x2 x3
    have hlt' : bl (mkS s n) < bl (nxS (mkS s n)) := by
      rw [← x3, hSm]
      unfold mkS
      rw [if_pos x2]
      exact mkR_lt s (by omega) (by omega)
    have f1 : Op.bytesLess (nxS (mkS s n)).toList (mkS s n).toList = false := by
      rw [Lib.toList_data, Lib.toList_data, bytesLess_eq]
      exact decide_eq_false fun h => absurd (List.lt_trans h hlt') (List.lt_irrefl _)
    have f2 : ((nxS (mkS s n)).toList == (mkS s n).toList) = false := by
      rw [bl_eqb]
      exact decide_eq_false fun h => absurd (h ▸ hlt') (List.lt_irrefl _)
    have f3 := list_self' (nxS (mkS s n))
    rw [x1] at T6
    rw [x2, x3] at T7
    clear hls hlt h0 hse hn0 hn9 hsz v1 v2 v3 hS hSm hlet hl12 c1 c2 c3 c4 hW hws hhd hnb hF h9 x1 x2 x3 hlt'
    generalize nxS (mkS s n) = N at *
    generalize mkS s n = S at *
    cases hf : formB t false
    · have N1 := Lib.hid (fun w => N1.out hf w)
      clear hf

      go_enter Tryd.func9, Tryd.ntmps9
      go_wp2_with fail
      refine (Check_236 w HT.out).mono ?_
      rintro e w1 ⟨rfl, hb⟩
      have B1 := Lib.hid (show Below w.heap.size w w1 from hb)
      clear hb
      go_wp2_with fail
      refine (T1.out w1 (HT.out.below' B1.out) (HI.out.up B1.out)).mono ?_
      rintro e w2 ⟨rfl, hb⟩
      have B2 := Lib.hid (B1.out.trans (hb.mono B1.out.size))
      clear hb
      go_wp2_with fail
      refine (T2.out w2 (HT.out.below' B2.out)).mono ?_
      rintro e w3 ⟨rfl, hb⟩
      have B3 := Lib.hid (B2.out.trans (hb.mono B2.out.size))
      clear hb
      go_wp2_with fail
      refine (T3.out w3 (HT.out.below' B3.out)).mono ?_
      rintro e w4 ⟨A4, c4, rfl, ho, hb⟩
      have B4 := Lib.hid (B3.out.trans (hb.mono B3.out.size))
      clear ho hb
      go_wp2_with fail
      refine (T4.out w4 (HT.out.below' B4.out)).mono ?_
      rintro e w5 ⟨rfl, hb⟩
      have B5 := Lib.hid (B4.out.trans (hb.mono B4.out.size))
      clear hb
      go_wp2_with fail
      refine (T5.out w5 (HT.out.below' B5.out)).mono ?_
      rintro e w6 ⟨rfl, hb⟩
      have B6 := Lib.hid (B5.out.trans (hb.mono B5.out.size))
      clear hb
      go_wp2_with fail
      refine (T6.out w6 (HT.out.below' B6.out) (HI.out.up B6.out)).mono ?_
      rintro e w7 ⟨rfl, hb⟩
      have B7 := Lib.hid (B6.out.trans (hb.mono B6.out.size))
      clear hb
      go_wp2_with fail
      refine (T7.out w7 (HT.out.below' B7.out) (HI.out.up B7.out)).mono ?_
      rintro e w8 ⟨rfl, hb⟩
      have B8 := Lib.hid (B7.out.trans (hb.mono B7.out.size))
      clear hb
      go_wp2_with fail
      rw [HW.out]
      refine (T8.out w8 (HT.out.below' B8.out)).mono ?_
      rintro e w9 ⟨rfl, hb⟩
      have B9 := Lib.hid (B8.out.trans (hb.mono B8.out.size))
      clear hb
      go_wp2_with fail
      refine (T9.out w9 (HT.out.below' B9.out) (HM.out.up B9.out)).mono ?_
      rintro e w10 ⟨rfl, hb⟩
      have B10 := Lib.hid (B9.out.trans (hb.mono B9.out.size))
      clear hb
      go_wp2_with fail
      refine (N1.out w10).mono ?_
      rintro e w40 ⟨rfl, hb⟩
      have B40 := Lib.hid (B10.out.trans (hb.mono B10.out.size))
      clear hb
      go_wp2_with fail
      go_ret
      exact ⟨rfl, B40.out⟩
    · have N2 := Lib.hid (fun w h => N2.out hf w h)
      have HSo := Lib.hid (HSo.out hf)
      have HSix := Lib.hid (fun h => HSix.out hf h)
      clear hf

      go_enter Tryd.func9, Tryd.ntmps9
      go_wp2_with fail
      refine (Check_236 w HT.out).mono ?_
      rintro e w1 ⟨rfl, hb⟩
      have B1 := Lib.hid (show Below w.heap.size w w1 from hb)
      clear hb
      go_wp2_with fail
      refine (T1.out w1 (HT.out.below' B1.out) (HI.out.up B1.out)).mono ?_
      rintro e w2 ⟨rfl, hb⟩
      have B2 := Lib.hid (B1.out.trans (hb.mono B1.out.size))
      clear hb
      go_wp2_with fail
      refine (T2.out w2 (HT.out.below' B2.out)).mono ?_
      rintro e w3 ⟨rfl, hb⟩
      have B3 := Lib.hid (B2.out.trans (hb.mono B2.out.size))
      clear hb
      go_wp2_with fail
      refine (T3.out w3 (HT.out.below' B3.out)).mono ?_
      rintro e w4 ⟨A4, c4, rfl, ho, hb⟩
      have B4 := Lib.hid (B3.out.trans (hb.mono B3.out.size))
      clear ho hb
      go_wp2_with fail
      refine (T4.out w4 (HT.out.below' B4.out)).mono ?_
      rintro e w5 ⟨rfl, hb⟩
      have B5 := Lib.hid (B4.out.trans (hb.mono B4.out.size))
      clear hb
      go_wp2_with fail
      refine (T5.out w5 (HT.out.below' B5.out)).mono ?_
      rintro e w6 ⟨rfl, hb⟩
      have B6 := Lib.hid (B5.out.trans (hb.mono B5.out.size))
      clear hb
      go_wp2_with fail
      refine (T6.out w6 (HT.out.below' B6.out) (HI.out.up B6.out)).mono ?_
      rintro e w7 ⟨rfl, hb⟩
      have B7 := Lib.hid (B6.out.trans (hb.mono B6.out.size))
      clear hb
      go_wp2_with fail
      refine (T7.out w7 (HT.out.below' B7.out) (HI.out.up B7.out)).mono ?_
      rintro e w8 ⟨rfl, hb⟩
      have B8 := Lib.hid (B7.out.trans (hb.mono B7.out.size))
      clear hb
      go_wp2_with fail
      rw [HW.out]
      refine (T8.out w8 (HT.out.below' B8.out)).mono ?_
      rintro e w9 ⟨rfl, hb⟩
      have B9 := Lib.hid (B8.out.trans (hb.mono B8.out.size))
      clear hb
      go_wp2_with fail
      refine (T9.out w9 (HT.out.below' B9.out) (HM.out.up B9.out)).mono ?_
      rintro e w10 ⟨rfl, hb⟩
      have B10 := Lib.hid (B9.out.trans (hb.mono B9.out.size))
      clear hb
      go_wp2_with fail
      refine (N2.out w10 (HT.out.below' B10.out)).mono ?_
      rintro e w40 ⟨A40, c40, rfl, ho, hb⟩
      have B40 := Lib.hid (B10.out.trans (hb.mono B10.out.size))
      have R40 := Lib.hid (Rd.of_own ho)
      clear ho hb
      go_wp2_with fail
      go_loopw [24] (fun i wr => ∃ k : Nat, k ≤ R.length ∧ i = .int .i64 k ∧ Below w40.heap.size w40 wr) (fun i _ => R.length - (intOf i).toNat)
      case atStart => exact ⟨0, by omega, rfl, Below.refl _ _⟩
      case round =>
        obtain ⟨k, hk, rfl, hbb⟩ := hrel
        have BB := Lib.hid hbb
        clear hbb
        by_cases hlt : k < R.length
        · obtain ⟨y, hy⟩ : ∃ y, R[k]? = some y := ⟨_, List.getElem?_eq_getElem hlt⟩
          obtain ⟨hv, hyl⟩ := HV.out y (List.mem_of_getElem? hy)
          have hty : (tsl R)[k]? = some (.string (sL y)) := by unfold tsl txts; rw [List.getElem?_map, List.getElem?_map, hy]; rfl
          obtain ⟨b, o, rfl, hbl, _⟩ := R40.out.at_ hty
          have HC := Lib.hid (fun j z (hz : (tsl R)[j]? = some z) w' (hb' : Below w40.heap.size w40 w') => show w'.cell? ⟨b, o + j, none⟩ = some z by
            obtain ⟨b2, o2, e2, _, h2⟩ := (R40.out.below hb' (Nat.le_refl _)).at_ hz
            cases e2
            exact h2)
          have hc0 := HC.out k _ hty wr BB.out
          have T20 := Lib.hid (fun w h => Near_any (sL y) w (valid_form hv) h)
          rw [nr_none hv] at T20
          have T21 := Lib.hid (fun w h => Valid_any (sL y) w (by rw [sL_size, hyl]; omega) h)
          rw [hv] at T21
          have HLT := Lib.hid hlt
          have k0 : (0 : Int) ≤ (k : Int) := by omega
          have kl : (k : Int) < (R.length : Int) := by omega
          by_cases hk0 : 0 < k
          · obtain ⟨p, hp⟩ : ∃ p, k = p + 1 := ⟨k - 1, by omega⟩
            obtain ⟨z, hz⟩ : ∃ z, R[p]? = some z := ⟨_, List.getElem?_eq_getElem (by omega)⟩
            have htz : (tsl R)[p]? = some (.string (sL z)) := by unfold tsl txts; rw [List.getElem?_map, List.getElem?_map, hz]; rfl
            have hzy : z < y := by
              have h1 := List.getElem?_eq_some_iff.1 hz
              have h2 := List.getElem?_eq_some_iff.1 hy
              obtain ⟨a1, a2⟩ := h1
              obtain ⟨a3, a4⟩ := h2
              have := List.pairwise_iff_getElem.1 HSo.out p k a1 a3 (by omega)
              rw [a2, a4] at this
              exact this
            have f1 : Op.bytesLess (sL y).toList (sL z).toList = false := by rw [sL_toList, sL_toList, bytesLess_eq]; exact decide_eq_false fun h => absurd (List.lt_trans h hzy) (List.lt_irrefl _)
            have f2 : ((sL y).toList == (sL z).toList) = false := by rw [sL_toList, sL_toList]; exact beq_eq_false_iff_ne.2 fun e => absurd (e ▸ hzy) (List.lt_irrefl _)
            have HTy := Lib.hid hty
            have HTz := Lib.hid htz
            have e0 : decide ((0 : Int) < (k : Int)) = true := decide_eq_true (by omega)
            have e0' : decide (0 < k) = true := decide_eq_true hk0
            have e3 : (k : Int) - 1 = (p : Int) := by omega
            have p0 : (0 : Int) ≤ (p : Int) := by omega
            have pl : (p : Int) < (R.length : Int) := by omega
            have ew : IntKind.i64.wrap (p : Int) = (p : Int) := by have := HRl.out; rw [IntKind.wrap_i64]; omega
            have p9 : (p : Int) ≤ 1000 := by have := HRl.out; omega
            generalize sL y = X at *
            generalize sL z = Z at *
            have HPK := Lib.hid hp
            clear hy hv hyl hzy hz hk0 hp
            go_wp2_with fail
            refine (T20.out wr (HT.out.below' (B40.out.trans (BB.out.mono B40.out.size)))).mono ?_
            rintro e w41 ⟨A41, c41, rfl, ho, hb⟩
            have B41 := Lib.hid (BB.out.trans (hb.mono BB.out.size))
            have BT := Lib.hid (B40.out.trans (B41.out.mono B40.out.size))
            have t0 := HC.out k _ HTy.out w41 B41.out
            have t1 := HC.out p _ HTz.out w41 B41.out
            clear hty htz hc0 ho hb
            have T22 := Lib.hid (fun w' (hb : Below w41.heap.size w41 w') => T21.out w' (HT.out.below' (BT.out.trans (hb.mono BT.out.size))))
            have g0 := fun d os => cell_regrown t0 d os
            have g1 := fun d os => cell_regrown t1 d os
            go_wp2_with fail
            refine wp_region_quiet_below (by kernel_rfl) (by kernel_rfl) ?_
            repeat (go_big_quiet_step (first | (with_reducible exact Calls.regrown_of (T22.out _ (below_regrown _ _ _)))))
            refine wpQuiet_nil ?_
            intro _ hw'
            obtain ⟨⟨dq, osq⟩, hw''⟩ := hw'
            subst hw''
            have B6 := Lib.hid (B41.out.trans ((below_regrown w41 dq osq).mono B41.out.size))
            go_wp2_with fail
            go_roundw
            case rel => exact ⟨k + 1, by have := HLT.out; omega, by go_num, B6.out⟩
            case measure => have := HLT.out; have := p9; simp [intOf]; omega
          · have HK0 := Lib.hid (show k = 0 by omega)
            have p9 : (k : Int) ≤ 1000 := by omega
            have e0 : decide ((0 : Int) < (k : Int)) = false := decide_eq_false (by omega)
            have e0' : decide (0 < k) = false := decide_eq_false hk0
            have HTy := Lib.hid hty
            generalize sL y = X at *
            clear hy hv hyl hk0
            go_wp2_with fail
            refine (T20.out wr (HT.out.below' (B40.out.trans (BB.out.mono B40.out.size)))).mono ?_
            rintro e w41 ⟨A41, c41, rfl, ho, hb⟩
            have B41 := Lib.hid (BB.out.trans (hb.mono BB.out.size))
            have BT := Lib.hid (B40.out.trans (B41.out.mono B40.out.size))
            have t0 := HC.out k _ HTy.out w41 B41.out
            clear hty hc0 ho hb
            have T22 := Lib.hid (fun w' (hb : Below w41.heap.size w41 w') => T21.out w' (HT.out.below' (BT.out.trans (hb.mono BT.out.size))))
            have g0 := fun d os => cell_regrown t0 d os
            go_wp2_with fail
            refine wp_region_quiet_below (by kernel_rfl) (by kernel_rfl) ?_
            repeat (go_big_quiet_step (first | (with_reducible exact Calls.regrown_of (T22.out _ (below_regrown _ _ _)))))
            refine wpQuiet_nil ?_
            intro _ hw'
            obtain ⟨⟨dq, osq⟩, hw''⟩ := hw'
            subst hw''
            have B6 := Lib.hid (B41.out.trans ((below_regrown w41 dq osq).mono B41.out.size))
            go_wp2_with fail
            go_roundw
            case rel => exact ⟨k + 1, by have := HLT.out; omega, by go_num, B6.out⟩
            case measure => have := HLT.out; have := p9; simp [intOf]; omega
        · obtain rfl : k = R.length := by omega
          have BW := Lib.hid (B40.out.trans (BB.out.mono B40.out.size))
          by_cases hE : E = 0
          · have x1 : (E == 0) = true := by rw [beq_iff_eq]; exact hE
            clear hE
            go_wp2_with fail
            refine (N3.out wr (HT.out.below' BW.out)).mono ?_
            rintro e w42 ⟨rfl, hb⟩
            have B42 := Lib.hid (BW.out.trans (hb.mono BW.out.size))
            clear hb
            go_wp2_with fail
            go_ret
            exact ⟨rfl, B42.out⟩
          · have x1 : (E == 0) = false := by rw [beq_eq_false_iff_ne]; exact hE
            have x2 : decide ((6 : Int) ≤ (R.length : Int)) = true := decide_eq_true (by have := HSix.out hE; omega)
            have x2' : decide (6 ≤ R.length) = true := decide_eq_true (HSix.out hE)
            clear hE
            go_wp2_with fail
            refine (N3.out wr (HT.out.below' BW.out)).mono ?_
            rintro e w42 ⟨rfl, hb⟩
            have B42 := Lib.hid (BW.out.trans (hb.mono BW.out.size))
            clear hb
            go_wp2_with fail
            go_ret
            exact ⟨rfl, B42.out⟩
end Go.Proofs.YtoenecgjiejljaaDoor
