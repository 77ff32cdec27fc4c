/-
  Texts merged into one (Rm3, Rc8): contracts of the functions of package lure, what is reckoned of games. Conditions: as each says.
-/
import Derived.Test.YtoenecgjiejljaaDoorMt20
import Derived.Test.YtoenecgjiejljaaDoorMt11
import Derived.Test.YtoenecgjiejljaaDoorMt16
import Derived.Lib.LastIndexByte
namespace Go.Proofs.YtoenecgjiejljaaDoor
open Go.RowKit
set_option linter.unusedVariables false

/-- A digit as a byte. -/
def dgB (d : Int) : UInt8 := UInt8.ofNat (48 + d.toNat)
theorem dgB_of {c : UInt8} (h : isDg c = true) : dgB ((c.toNat : Int) - 48) = c := by
  have := isDg_iff.1 h
  unfold dgB
  rw [show 48 + ((c.toNat : Int) - 48).toNat = c.toNat by omega]
  simp
theorem map_dgB {l : List UInt8} (h : ∀ c ∈ l, isDg c = true) : (l.map fun c => (c.toNat : Int) - 48).map dgB = l := by
  rw [List.map_map]
  conv => rhs; rw [← List.map_id l]
  exact List.map_congr_left fun c hc => dgB_of (h c hc)
theorem pdD_bytes (m : Nat) : (pdD m ++ [chkD (pdD m)]).map dgB = rgT m := by
  rw [List.map_append]
  unfold rgT
  rw [show (pdD m).map dgB = padK 5 m from map_dgB (padK_dg 5 m), ← (ckD_lt m).2]
  rfl
theorem txt_next {s : ByteArray} {l : List Int} {k n : Nat} (hk : l[k]? = some (n : Int)) : (s ++ sL ((l.take k).map dgB)) ++ dg1 n = s ++ sL ((l.take (k + 1)).map dgB) := by
  rw [List.take_add_one, hk]
  simp only [Option.toList_some, List.map_append, List.map_cons, List.map_nil]
  rw [← sL_app, ← sL_bl s, sL_app, sL_app]
  unfold dg1
  rw [sL_app, sL_app]
  unfold dgB
  rw [Int.toNat_natCast, List.append_assoc]
set_option maxHeartbeats 1000000 in
theorem text_ok (s : ByteArray) (A : Option Addr) (n c : Nat) (l : List Int) (w : World) (hn : l.length = n) (hr : Rd w w.heap.size A (ints l)) (hl : ∀ x ∈ l, Dig x) (hs : s.size ≤ 1000) (hlen : n ≤ 100) :
    Calls Tryd.prog 67 #[.string s, .slice A n c] w fun e w' => e = .returned (.string (s ++ sL (l.map dgB))) ∧ w = w' := by
  subst hn
  have HR := Lib.hid hr
  have HL := Lib.hid hl
  have HD := Lib.hid (fun n h w => Digit_any n h w)
  have h0 : s = s ++ sL ((l.take 0).map dgB) := by
    rw [← sL_bl s, List.take_zero, List.map_nil, sL_app, List.append_nil]
  have H0 := Lib.hid h0
  clear hr hl h0
  go_enter Tryd.func67, Tryd.ntmps67
  go_wp2_with fail
  go_loop [0, 5] (fun u i => ∃ k : Nat, k ≤ l.length ∧ i = .int .i64 k ∧ u = .string (s ++ sL ((l.take k).map dgB))) (fun _ i => l.length - (intOf i).toNat)
  case atStart => exact ⟨0, by omega, rfl, by rw [← H0.out]⟩
  case round =>
    obtain ⟨k, hk, rfl, rfl⟩ := hrel
    by_cases hlt : k < l.length
    · obtain ⟨b, o, d, rfl, hd, hc⟩ := HR.out.int k hlt
      have hdd := HL.out d (List.mem_of_getElem? hd.out)
      obtain ⟨x, rfl⟩ : ∃ x : Nat, d = (x : Int) := ⟨d.toNat, by have := hdd.1; omega⟩
      have hx : x < 10 := by have := hdd.2; omega
      have HN := Lib.hid (txt_next (s := s) hd.out)
      have hlt' : (k : Int) < (l.length : Int) := by omega
      have hz : (s ++ sL ((l.take k).map dgB)).size ≤ 2000 := by
        rw [ByteArray.size_append, sL_size, List.length_map, List.length_take]; omega
      have hz1 : (dg1 x).size ≤ 10 := by unfold dg1; rw [sL_size]; simp
      generalize s ++ sL ((l.take k).map dgB) = u at *
      clear hdd
      go_wp2_with fail
      refine (HD.out x hx w).mono ?_
      rintro e w' ⟨rfl, rfl⟩
      go_wp2_with fail
      go_round
      case rel => exact ⟨k + 1, by omega, by go_num, by rw [← HN.out]⟩
      case measure => simp [intOf]; omega
    · have hks : k = l.length := by omega
      subst hks
      have HF := Lib.hid (show s ++ sL ((l.take l.length).map dgB) = s ++ sL (l.map dgB) by rw [List.take_length])
      go_wp2_with fail
      go_ret
      exact ⟨by rw [← HF.out]; rfl, rfl⟩
set_option maxRecDepth 8000 in
set_option maxHeartbeats 2000000 in
theorem build_ok (s : ByteArray) (m : Nat) (w : World) (hm : m ≤ 99999) (hs : s.size ≤ 1000) :
    Calls Tryd.prog 53 #[.string s, .int .i64 m] w fun e w' => e = .returned (.string (mkR s m)) ∧ Below w.heap.size w w' := by
  have HP := Lib.hid (pdD_eq hm)
  have hpl : (pdD m).length = 5 := by rw [HP.out]; rfl
  have HB := Lib.hid (show s ++ sL ((pdD m ++ [chkD (pdD m)]).map dgB) = mkR s m by
    rw [pdD_bytes, ← sL_bl s, sL_app]
    unfold mkR
    rw [bl_sL])
  have HG := Lib.hid (pdD_dig m)
  have HGC := Lib.hid (dig_chk (pdD_dig m))
  obtain ⟨W, hW, hwb, hws, hwbel⟩ := one_blk w (ints (pdD m)).toArray 3
  have O0 := Lib.hid (show W.ownsRow w.heap.size 3 1 (.slice (some ⟨w.heap.size, 0, none⟩) 5 5) 5 (ints (pdD m)) by
    have := World.ownsRow_lit (base := w.heap.size) (e := 3) (size := 1) w (ints (pdD m)).toArray 5 (Nat.le_refl _) (by decide) (by simp [ints, hpl])
    rw [hW] at this
    simpa using this)
  have B0 := Lib.hid hwbel
  have R0 := Lib.hid (show Rd W W.heap.size (some ⟨w.heap.size, 0, none⟩) (ints (pdD m)) from Rd.of_block hwb)
  have HC := Lib.hid (fun w' hr => rcheck_ok (some ⟨w.heap.size, 0, none⟩) 5 (pdD m) w' hr (pdD_dig m) (by omega))
  rw [hpl] at HC
  have HW := Lib.hid (show w.alloc (.cells #[.int .i64 ((m : Int) / 10000), .int .i64 ((m : Int) / 1000 % 10), .int .i64 ((m : Int) / 100 % 10), .int .i64 ((m : Int) / 10 % 10), .int .i64 ((m : Int) % 10)] 3) = W by
    rw [← hW, HP.out]; rfl)
  clear hW hwb hws hwbel
  generalize pdD m = pd at *
  generalize chkD pd = ck at *
  generalize mkR s m = R at *
  have hm0 : (0 : Int) ≤ (m : Int) := by omega
  have hm9 : (m : Int) ≤ 99999 := by omega
  clear hm
  go_enter Tryd.func53, Tryd.ntmps53
  go_wp2_with fail
  rw [HW.out]
  go_wp2_with fail
  refine (HC.out W R0.out).mono ?_
  rintro e w1 ⟨rfl, hb⟩
  have B1 := Lib.hid (B0.out.trans (hb.mono B0.out.size))
  have O1 := Lib.hid (own_below O0.out hb)
  clear hb
  go_wp2_with (at_builtin; refine app eInt' rfl _ _ rfl rfl (O1.out.alloc _) (B1.out.alloc B1.out.size _) (size_alloc' B1.out.size _) rfl (Rd.one w1 (.int .i64 ck) 3 (Nat.lt_succ_self _)) (by simp) (ints_one [ck]) 6 rfl (by omega) ?_; intro A4 c4 w4 o4 b4 g4 _; have O4 := Lib.hid o4; have B4 := Lib.hid b4; clear o4 b4 g4)
  refine (text_ok s A4 6 c4 (pd ++ [ck]) w4 (by rw [List.length_append, hpl]; rfl) (by rw [ints_append]; exact Rd.of_own O4.out) (fun x hx => by
    rcases List.mem_append.1 hx with hx | hx
    · exact HG.out x hx
    · rw [List.mem_singleton.1 hx]; exact HGC.out) hs (by omega)).mono ?_
  rintro e w' ⟨rfl, rfl⟩
  go_wp2_with fail
  go_ret
  have hB := HB.out
  rw [List.map_append, List.map_cons, List.map_nil] at hB
  exact ⟨by rw [← hB]; rfl, B4.out⟩
theorem rMake_any (s : ByteArray) (n : Int) (w : World) (hsz : s.size ≤ 1000) :
    Calls Tryd.prog 21 #[.string s, .int .i64 n] w fun e w' => e = .returned (.tuple #[.string (mkS s n), .int .i64 (mkE s n)]) ∧ Below w.heap.size w w' := by
  have H1 := Lib.hid (rIsSeries_any s w (by omega))
  cases hs : seriesB s with
  | false =>
    have e1 : mkE s n = 2 := by unfold mkE; rw [hs]; rfl
    have e2 : mkS s n = ⟨#[]⟩ := by unfold mkS; rw [e1]; rfl
    rw [hs] at H1
    rw [e1, e2]
    clear hs e1 e2
    go_enter Tryd.func21, Tryd.ntmps21
    go_wp2_with fail
    refine (H1.out).mono ?_
    rintro e w' ⟨rfl, rfl⟩
    go_wp2_with fail
    go_ret2
    exact ⟨rfl, Below.refl _ _⟩
  | true =>
  rw [hs] at H1
  by_cases hr : 0 ≤ n ∧ n ≤ 99999
  case neg =>
    have e1 : mkE s n = 1 := by unfold mkE; rw [hs, if_neg hr]; rfl
    have e2 : mkS s n = ⟨#[]⟩ := by unfold mkS; rw [e1]; rfl
    rw [e1, e2]
    clear hs e1 e2
    by_cases h0 : n < 0
    · have d0 : decide (n < 0) = true := decide_eq_true h0
      clear hr h0
      go_enter Tryd.func21, Tryd.ntmps21
      go_wp2_with fail
      refine (H1.out).mono ?_
      rintro e w' ⟨rfl, rfl⟩
      go_wp2_with fail
      go_ret2
      exact ⟨rfl, Below.refl _ _⟩
    · have d0 : decide (n < 0) = false := decide_eq_false h0
      have d1 : decide (99999 < n) = true := decide_eq_true (by omega)
      clear hr h0
      go_enter Tryd.func21, Tryd.ntmps21
      go_wp2_with fail
      refine (H1.out).mono ?_
      rintro e w' ⟨rfl, rfl⟩
      go_wp2_with fail
      go_ret2
      exact ⟨rfl, Below.refl _ _⟩
  obtain ⟨m, rfl⟩ : ∃ m : Nat, n = (m : Int) := ⟨n.toNat, by omega⟩
  have hm : m ≤ 99999 := by omega
  have e1 : mkE s (m : Int) = 0 := mkE_ok hs hr.1 hr.2
  have e2 : mkS s (m : Int) = mkR s m := by unfold mkS; rw [if_pos e1, Int.toNat_natCast]
  rw [e1, e2]
  have H2 := Lib.hid (build_ok s m w hm hsz)
  have hm0 : (0 : Int) ≤ (m : Int) := by omega
  have hm9 : (m : Int) ≤ 99999 := by omega
  clear hs e1 e2 hr
  generalize mkR s m = R at *
  go_enter Tryd.func21, Tryd.ntmps21
  go_wp2_with fail
  refine (H1.out).mono ?_
  rintro e w' ⟨rfl, rfl⟩
  go_wp2_with fail
  refine H2.out.mono ?_
  rintro e w1 ⟨rfl, hb⟩
  go_wp2_with fail
  go_ret2
  exact ⟨rfl, hb⟩
end Go.Proofs.YtoenecgjiejljaaDoor
namespace Go.Proofs.YtoenecgjiejljaaDoor
open Go.RowKit
set_option linter.unusedVariables false

/-- Letters, and digits behind them. -/
def rT (hd : List UInt8) (D : List Int) : ByteArray := sL (hd ++ D.map dgB)
def hdF (l : List UInt8) : List UInt8 := l.map fun c => if c = 63 then 65 else c
def tl0 (l : List UInt8) : List UInt8 := l.map fun c => if c = 63 then 48 else c
/-- What First returns. -/
def frB (s : ByteArray) : Bool := formB s true && decide (wyL (wL s) 0 ≠ 0)
def frS (s : ByteArray) : ByteArray := if frB s = true then rT (hdF (bl (headB s))) (gr [] (wL s)) else ⟨#[]⟩
theorem dgB_dg {d : Int} (h : Dig d) : isDg (dgB d) = true := by
  obtain ⟨h0, h1⟩ := h
  unfold dgB
  rw [isDg_iff, ofNat_toNat (by omega)]
  omega
theorem dgB_num {d : Int} (h : Dig d) : ((dgB d).toNat : Int) - 48 = d := by
  obtain ⟨h0, h1⟩ := h
  unfold dgB
  rw [ofNat_toNat (by omega)]
  omega
def Lett (hd : List UInt8) : Prop := (hd.length = 1 ∨ hd.length = 2) ∧ ∀ c ∈ hd, isUp (c.toNat : Int) = true
theorem rT_size {hd : List UInt8} {D : List Int} (hD : D.length = 6) : (rT hd D).size = hd.length + 6 := by
  unfold rT
  rw [sL_size, List.length_append, List.length_map, hD]
theorem rT_form {hd : List UInt8} {D : List Int} (hh : Lett hd) (hD : D.length = 6) (hd' : ∀ x ∈ D, Dig x) : formB (rT hd D) false = true := by
  refine formB_ok (by rw [rT_size hD]; have := hh.1; omega) fun i hi => ?_
  rw [rT_size hD] at hi ⊢
  have e : ((hd.length + 6 : Nat) : Int) - 6 = (hd.length : Int) := by omega
  unfold okAt
  rw [e]
  by_cases hk : i < hd.length
  · rw [if_pos (by omega)]
    have : bAt (rT hd D) i = ((hd[i]'hk).toNat : Int) := by
      unfold rT
      rw [bAt_sL, List.getD_eq_getElem?_getD, List.getElem?_append_left hk, List.getElem?_eq_getElem hk]
      rfl
    rw [this, hh.2 _ (List.getElem_mem hk)]
    rfl
  · rw [if_neg (by omega)]
    have hl : i - hd.length < (D.map dgB).length := by rw [List.length_map]; omega
    have : bAt (rT hd D) i = (((D.map dgB)[i - hd.length]'hl).toNat : Int) := by
      unfold rT
      rw [bAt_sL, List.getD_eq_getElem?_getD, List.getElem?_append_right (by omega), List.getElem?_eq_getElem hl]
      rfl
    rw [this, isNum_dg]
    obtain ⟨x, hx, he⟩ := List.mem_map.1 (List.getElem_mem hl)
    rw [← he, dgB_dg (hd' x hx)]
    rfl
theorem rT_tail {hd : List UInt8} {D : List Int} (hD : D.length = 6) (hd' : ∀ x ∈ D, Dig x) : tailD (rT hd D) = D := by
  have h6 : 6 ≤ (rT hd D).size := by rw [rT_size hD]; omega
  have ht : tailB (rT hd D) = sL (D.map dgB) := by
    apply bl_inj
    unfold tailB
    rw [bl_extract, rT_size hD]
    unfold rT
    rw [bl_sL, bl_sL, Nat.add_sub_cancel, List.drop_left, List.take_of_length_le (by rw [List.length_map]; omega)]
  rw [← digs_tailB h6, ht, digs_sL, List.map_map]
  conv => rhs; rw [← List.map_id D]
  exact List.map_congr_left fun d hd => dgB_num (hd' d hd)
theorem rT_valid {hd : List UInt8} {D : List Int} (hh : Lett hd) (hD : D.length = 6) (hd' : ∀ x ∈ D, Dig x) : validE (rT hd D) = if sumL D = 0 then 0 else 6 := by
  unfold validE
  rw [if_pos (rT_form hh hD hd'), rT_tail hD hd']
theorem hd_lett {s : ByteArray} (h : formB s true = true) : Lett (hdF (bl (headB s))) := by
  have hs := form_size h
  have hl : (bl (headB s)).length = s.size - 6 := by rw [bl_len]; simp [headB]
  refine ⟨by unfold hdF; rw [List.length_map, hl]; omega, fun c hc => ?_⟩
  obtain ⟨b, hb, rfl⟩ := List.mem_map.1 hc
  obtain ⟨i, hi, he⟩ := List.getElem_of_mem hb
  have h1 : bAt (headB s) i = bAt s i := by unfold headB; rw [bAt_extract _ _ _ _ (by omega), Nat.zero_add]
  have h2 : bAt (headB s) i = (b.toNat : Int) := by
    unfold bAt
    rw [List.getD_eq_getElem?_getD, show (headB s).data.toList = bl (headB s) from rfl, List.getElem?_eq_getElem hi, he]
    rfl
  have := form_at h (i := i) (by omega)
  unfold okAt at this
  rw [if_pos (by omega), ← h1, h2] at this
  by_cases h63 : b = 63
  · rw [if_pos h63]; decide
  · rw [if_neg h63]
    have hne : ¬ ((b.toNat : Int) = 63) := fun e => h63 (UInt8.toNat_inj.1 (by show b.toNat = 63; omega))
    simpa [hne] using this
/-- All worn digits 0: in bytes. -/
theorem tl0_fill {s : ByteArray} (h : formB s true = true) : tl0 (bl (tailB s)) = (fill0 (wL s)).map dgB := by
  have hs := form_size h
  rw [tail_bytes (by omega)]
  unfold tl0 fill0
  rw [List.map_map, List.map_map]
  refine List.map_congr_left fun c hc => ?_
  have hb := tail_byte h hc
  simp only [Function.comp_apply]
  unfold wnI
  by_cases h63 : c = 63
  · subst h63; decide
  · have hne : c.toNat ≠ 63 := fun e => h63 (UInt8.toNat_inj.1 e)
    rw [if_neg h63, if_neg (by omega), if_neg (by omega), dgB_of (isDg_iff.2 (by omega))]
theorem lowest_is {s : ByteArray} (h : formB s true = true) : sL (hdF (bl (headB s))) ++ sL (tl0 (bl (tailB s))) = rT (hdF (bl (headB s))) (fill0 (wL s)) := by
  rw [sL_app, tl0_fill h]
  rfl
theorem fill0_len (l : List Int) : (fill0 l).length = l.length := by simp [fill0]
/-- Whether there is one, and which. -/
theorem fr_cases {s : ByteArray} (h : formB s true = true) :
    (sumL (fill0 (wL s)) = 0 ∧ frB s = true ∧ frS s = rT (hdF (bl (headB s))) (fill0 (wL s))) ∨
    (sumL (fill0 (wL s)) ≠ 0 ∧ nW (wL s) = 0 ∧ frB s = false ∧ frS s = ⟨#[]⟩) ∨
    (sumL (fill0 (wL s)) ≠ 0 ∧ ∃ a b, wL s = a ++ (-1) :: b ∧ nW b = 0 ∧ frB s = true ∧ frS s = rT (hdF (bl (headB s))) (fill0 a ++ (dst (fill0 a) b : Int) :: b)) := by
  have hw := wl_dig h
  have hl : (wL s).length = 6 := wlK_length s 6
  have hy := wyl_zero hw (by omega)
  by_cases hs : sumL (fill0 (wL s)) = 0
  · refine .inl ⟨hs, ?_, ?_⟩
    · unfold frB
      rw [h, Bool.true_and, decide_eq_true_eq]
      rcases hy with ⟨h0, h1, h2⟩ | ⟨h0, h1, h2⟩ | ⟨h0, h2⟩
      · omega
      · rw [fill0_none h0] at hs; exact absurd hs h1
      · rw [h2]; exact Nat.pos_iff_ne_zero.1 (Nat.pow_pos (by omega))
    · have hb : frB s = true := by
        unfold frB
        rw [h, Bool.true_and, decide_eq_true_eq]
        rcases hy with ⟨h0, h1, h2⟩ | ⟨h0, h1, h2⟩ | ⟨h0, h2⟩
        · omega
        · rw [fill0_none h0] at hs; exact absurd hs h1
        · rw [h2]; exact Nat.pos_iff_ne_zero.1 (Nat.pow_pos (by omega))
      unfold frS
      rw [if_pos hb, gr_lowest hw (by omega) hs]
  · by_cases h0 : nW (wL s) = 0
    · have h2 : wyL (wL s) 0 = 0 := by
        rcases hy with ⟨_, h1, _⟩ | ⟨_, _, h2⟩ | ⟨hn, _⟩
        · rw [fill0_none h0] at hs; exact absurd h1 hs
        · exact h2
        · exact absurd h0 hn
      have hb : frB s = false := by unfold frB; rw [h2]; simp
      exact .inr (.inl ⟨hs, h0, hb, by unfold frS; rw [if_neg (by rw [hb]; decide)]⟩)
    · have h2 : wyL (wL s) 0 ≠ 0 := by
        rcases hy with ⟨hn, _, _⟩ | ⟨hn, _, _⟩ | ⟨_, h2⟩
        · exact absurd hn h0
        · exact absurd hn h0
        · rw [h2]; exact Nat.pos_iff_ne_zero.1 (Nat.pow_pos (by omega))
      have hb : frB s = true := by unfold frB; rw [h, decide_eq_true h2]; rfl
      obtain ⟨a, b, he, hnb⟩ := last_worn _ hw h0
      refine .inr (.inr ⟨hs, a, b, he, hnb, hb, ?_⟩)
      unfold frS
      rw [if_pos hb, he, gr_split a [] b hnb, List.nil_append]
/-- Where the last worn byte is. -/
theorem data_at (s : ByteArray) (j : Nat) : ((s.data[j]!).toNat : Int) = bAt s j := by
  unfold bAt
  rw [List.getD_eq_getElem?_getD, Array.getElem?_toList, getElem!_def]
  cases s.data[j]? <;> rfl
theorem last_is {s : ByteArray} (h : formB s true = true) {a b : List Int} (he : wL s = a ++ (-1) :: b) (hb : nW b = 0) : Lib.lastIndexByte s 63 = ((s.size - 6 + a.length : Nat) : Int) := by
  have hs := form_size h
  have hl : (wL s).length = 6 := wlK_length s 6
  have hal : a.length < 6 := by rw [he] at hl; simp at hl; omega
  have hat : ∀ i, i < 6 → (wL s)[i]? = some (wnI (bAt s (s.size - 6 + i))) := fun i hi => by
    unfold wL wlK
    rw [List.getElem?_map, List.getElem?_range hi]
    rfl
  have h1 : bAt s (s.size - 6 + a.length) = 63 := by
    have := hat a.length hal
    rw [he, List.getElem?_append_right (Nat.le_refl _), Nat.sub_self] at this
    have hv : (-1 : Int) = wnI (bAt s (s.size - 6 + a.length)) := by simpa using this
    unfold wnI at hv
    by_cases h63 : bAt s (s.size - 6 + a.length) = 63
    · exact h63
    · rw [if_neg h63] at hv
      have := form_byte h hal
      omega
  have h2 : ∀ i, a.length < i → i < 6 → bAt s (s.size - 6 + i) ≠ 63 := fun i hi hi6 h63 => by
    have := hat i hi6
    unfold wnI at this
    rw [if_pos h63, he, List.getElem?_append_right (by omega)] at this
    obtain ⟨j, hj⟩ : ∃ j, i - a.length = j + 1 := ⟨i - a.length - 1, by omega⟩
    rw [hj, List.getElem?_cons_succ] at this
    unfold nW at hb
    rw [List.countP_eq_zero] at hb
    have := hb _ (List.mem_of_getElem? this)
    exact absurd (by decide) this
  rcases Lib.lastIndexByte_spec s 63 with ⟨_, hn⟩ | ⟨i, hi, hL, hc, hn⟩
  · exact absurd h1 (by rw [← data_at]; exact hn _ (by omega))
  · rw [hL]
    rw [data_at] at hc
    rcases Nat.lt_trichotomy i (s.size - 6 + a.length) with hlt | heq | hgt
    · exact absurd h1 (by rw [← data_at]; exact hn _ hlt (by omega))
    · omega
    · have := h2 (i - (s.size - 6)) (by omega) (by omega)
      rw [show s.size - 6 + (i - (s.size - 6)) = i by omega] at this
      exact absurd hc this
theorem last_none {s : ByteArray} (h : formB s true = true) (h0 : nW (wL s) = 0) : Lib.lastIndexByte s 63 < ((s.size - 6 : Nat) : Int) := by
  have hs := form_size h
  rcases Lib.lastIndexByte_spec s 63 with ⟨hL, hn⟩ | ⟨i, hi, hL, hc, hn⟩
  · omega
  · rw [hL]
    rw [data_at] at hc
    rcases Nat.lt_or_ge i (s.size - 6) with hlt | hge
    · omega
    · exfalso
      have hm : wnI (bAt s (s.size - 6 + (i - (s.size - 6)))) ∈ wL s := List.mem_map.2 ⟨i - (s.size - 6), List.mem_range.2 (by omega), rfl⟩
      rw [show s.size - 6 + (i - (s.size - 6)) = i by omega, hc] at hm
      unfold nW at h0
      rw [List.countP_eq_zero] at h0
      have := h0 _ hm
      exact absurd (by decide) this
/-- One byte replaced in the lowest text. -/
theorem set_is {hd : List UInt8} {a b : List Int} {d : Nat} (hb : nW b = 0) : sL ((bl (rT hd (fill0 (a ++ (-1) :: b)))).set (hd.length + a.length) (UInt8.ofNat (48 + d))) = rT hd (fill0 a ++ (d : Int) :: b) := by
  unfold rT
  rw [bl_sL]
  congr 1
  have e : fill0 (a ++ (-1) :: b) = fill0 a ++ 0 :: b := by
    rw [fill0_append]
    show fill0 a ++ ((if (-1 : Int) < 0 then 0 else -1) :: fill0 b) = _
    rw [fill0_none hb]
    rfl
  rw [e, List.map_append, List.map_append, List.set_append_right _ _ (by omega), List.set_append_right _ _ (by rw [List.length_map, fill0_len]; omega)]
  rw [List.length_map, fill0_len, Nat.add_sub_cancel_left, Nat.sub_self]
  simp only [List.map_cons, List.set_cons_zero]
  unfold dgB
  rw [Int.toNat_natCast]
end Go.Proofs.YtoenecgjiejljaaDoor
