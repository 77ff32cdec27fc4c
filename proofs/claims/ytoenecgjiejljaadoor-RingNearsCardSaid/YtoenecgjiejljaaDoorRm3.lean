/-
  Next of package ring; text, build, Make and Next of the reference: the walks. Conditions: 'TabsR' and the table of powers of ten where package ring reads them.
-/
import Derived.Test.YtoenecgjiejljaaDoorRm2
import Derived.Test.YtoenecgjiejljaaDoorDgt
import Derived.Test.YtoenecgjiejljaaDoorFit
namespace Go.Proofs.YtoenecgjiejljaaDoor
open Go.RowKit
set_option linter.unusedVariables false

/-- A digit as a byte. -/
def dgB (d : Int) : UInt8 := UInt8.ofNat (48 + d.toNat)
theorem dgB_of {c : UInt8} (h : isDg c = true) : dgB ((c.toNat : Int) - 48) = c := by
  have := isDg_iff.1 h
  unfold dgB
  rw [show 48 + ((c.toNat : Int) - 48).toNat = c.toNat by omega]
  simp
theorem map_dgB {l : List UInt8} (h : ∀ c ∈ l, isDg c = true) : (l.map fun c => (c.toNat : Int) - 48).map dgB = l := by
  rw [List.map_map]
  conv => rhs; rw [← List.map_id l]
  exact List.map_congr_left fun c hc => dgB_of (h c hc)
theorem pdD_bytes (m : Nat) : (pdD m ++ [chkD (pdD m)]).map dgB = rgT m := by
  rw [List.map_append]
  unfold rgT
  rw [show (pdD m).map dgB = padK 5 m from map_dgB (padK_dg 5 m), ← (ckD_lt m).2]
  rfl
theorem txt_next {s : ByteArray} {l : List Int} {k n : Nat} (hk : l[k]? = some (n : Int)) : (s ++ sL ((l.take k).map dgB)) ++ dg1 n = s ++ sL ((l.take (k + 1)).map dgB) := by
  rw [List.take_add_one, hk]
  simp only [Option.toList_some, List.map_append, List.map_cons, List.map_nil]
  rw [← sL_app, ← sL_bl s, sL_app, sL_app]
  unfold dg1
  rw [sL_app, sL_app]
  unfold dgB
  rw [Int.toNat_natCast, List.append_assoc]
set_option maxHeartbeats 1000000 in
theorem text_ok (s : ByteArray) (A : Option Addr) (n c : Nat) (l : List Int) (w : World) (hn : l.length = n) (hr : Rd w w.heap.size A (ints l)) (hl : ∀ x ∈ l, Dig x) (hs : s.size ≤ 1000) (hlen : n ≤ 100) :
    Calls Tryd.prog 67 #[.string s, .slice A n c] w fun e w' => e = .returned (.string (s ++ sL (l.map dgB))) ∧ w = w' := by
  subst hn
  have HR := Lib.hid hr
  have HL := Lib.hid hl
  have HD := Lib.hid (fun n h w => Digit_any n h w)
  have h0 : s = s ++ sL ((l.take 0).map dgB) := by
    rw [← sL_bl s, List.take_zero, List.map_nil, sL_app, List.append_nil]
  have H0 := Lib.hid h0
  clear hr hl h0
  go_enter Tryd.func67, Tryd.ntmps67
  go_wp2_with fail
  go_loop [0, 5] (fun u i => ∃ k : Nat, k ≤ l.length ∧ i = .int .i64 k ∧ u = .string (s ++ sL ((l.take k).map dgB))) (fun _ i => l.length - (intOf i).toNat)
  case atStart => exact ⟨0, by omega, rfl, by rw [← H0.out]⟩
  case round =>
    obtain ⟨k, hk, rfl, rfl⟩ := hrel
    by_cases hlt : k < l.length
    · obtain ⟨b, o, d, rfl, hd, hc⟩ := HR.out.int k hlt
      have hdd := HL.out d (List.mem_of_getElem? hd.out)
      obtain ⟨x, rfl⟩ : ∃ x : Nat, d = (x : Int) := ⟨d.toNat, by have := hdd.1; omega⟩
      have hx : x < 10 := by have := hdd.2; omega
      have HN := Lib.hid (txt_next (s := s) hd.out)
      have hlt' : (k : Int) < (l.length : Int) := by omega
      have hz : (s ++ sL ((l.take k).map dgB)).size ≤ 2000 := by
        rw [ByteArray.size_append, sL_size, List.length_map, List.length_take]; omega
      have hz1 : (dg1 x).size ≤ 10 := by unfold dg1; rw [sL_size]; simp
      generalize s ++ sL ((l.take k).map dgB) = u at *
      clear hdd
      go_wp2_with fail
      refine (HD.out x hx w).mono ?_
      rintro e w' ⟨rfl, rfl⟩
      go_wp2_with fail
      go_round
      case rel => exact ⟨k + 1, by omega, by go_num, by rw [← HN.out]⟩
      case measure => simp [intOf]; omega
    · have hks : k = l.length := by omega
      subst hks
      have HF := Lib.hid (show s ++ sL ((l.take l.length).map dgB) = s ++ sL (l.map dgB) by rw [List.take_length])
      go_wp2_with fail
      go_ret
      exact ⟨by rw [← HF.out]; rfl, rfl⟩
set_option maxRecDepth 8000 in
set_option maxHeartbeats 2000000 in
theorem build_ok (s : ByteArray) (m : Nat) (w : World) (hm : m ≤ 99999) (hs : s.size ≤ 1000) :
    Calls Tryd.prog 53 #[.string s, .int .i64 m] w fun e w' => e = .returned (.string (mkR s m)) ∧ Below w.heap.size w w' := by
  have HP := Lib.hid (pdD_eq hm)
  have hpl : (pdD m).length = 5 := by rw [HP.out]; rfl
  have HB := Lib.hid (show s ++ sL ((pdD m ++ [chkD (pdD m)]).map dgB) = mkR s m by
    rw [pdD_bytes, ← sL_bl s, sL_app]
    unfold mkR
    rw [bl_sL])
  have HG := Lib.hid (pdD_dig m)
  have HGC := Lib.hid (dig_chk (pdD_dig m))
  obtain ⟨W, hW, hwb, hws, hwbel⟩ := one_blk w (ints (pdD m)).toArray 3
  have O0 := Lib.hid (show W.ownsRow w.heap.size 3 1 (.slice (some ⟨w.heap.size, 0, none⟩) 5 5) 5 (ints (pdD m)) by
    have := World.ownsRow_lit (base := w.heap.size) (e := 3) (size := 1) w (ints (pdD m)).toArray 5 (Nat.le_refl _) (by decide) (by simp [ints, hpl])
    rw [hW] at this
    simpa using this)
  have B0 := Lib.hid hwbel
  have R0 := Lib.hid (show Rd W W.heap.size (some ⟨w.heap.size, 0, none⟩) (ints (pdD m)) from Rd.of_block hwb)
  have HC := Lib.hid (fun w' hr => rcheck_ok (some ⟨w.heap.size, 0, none⟩) 5 (pdD m) w' hr (pdD_dig m) (by omega))
  rw [hpl] at HC
  have HW := Lib.hid (show w.alloc (.cells #[.int .i64 ((m : Int) / 10000), .int .i64 ((m : Int) / 1000 % 10), .int .i64 ((m : Int) / 100 % 10), .int .i64 ((m : Int) / 10 % 10), .int .i64 ((m : Int) % 10)] 3) = W by
    rw [← hW, HP.out]; rfl)
  clear hW hwb hws hwbel
  generalize pdD m = pd at *
  generalize chkD pd = ck at *
  generalize mkR s m = R at *
  have hm0 : (0 : Int) ≤ (m : Int) := by omega
  have hm9 : (m : Int) ≤ 99999 := by omega
  clear hm
  go_enter Tryd.func53, Tryd.ntmps53
  go_wp2_with fail
  rw [HW.out]
  go_wp2_with fail
  refine (HC.out W R0.out).mono ?_
  rintro e w1 ⟨rfl, hb⟩
  have B1 := Lib.hid (B0.out.trans (hb.mono B0.out.size))
  have O1 := Lib.hid (own_below O0.out hb)
  clear hb
  go_wp2_with (at_builtin; refine app eInt' rfl _ _ rfl rfl (O1.out.alloc _) (B1.out.alloc B1.out.size _) (size_alloc' B1.out.size _) rfl (Rd.one w1 (.int .i64 ck) 3 (Nat.lt_succ_self _)) (by simp) (ints_one [ck]) 6 rfl (by omega) ?_; intro A4 c4 w4 o4 b4 g4 _; have O4 := Lib.hid o4; have B4 := Lib.hid b4; clear o4 b4 g4)
  refine (text_ok s A4 6 c4 (pd ++ [ck]) w4 (by rw [List.length_append, hpl]; rfl) (by rw [ints_append]; exact Rd.of_own O4.out) (fun x hx => by
    rcases List.mem_append.1 hx with hx | hx
    · exact HG.out x hx
    · rw [List.mem_singleton.1 hx]; exact HGC.out) hs (by omega)).mono ?_
  rintro e w' ⟨rfl, rfl⟩
  go_wp2_with fail
  go_ret
  have hB := HB.out
  rw [List.map_append, List.map_cons, List.map_nil] at hB
  exact ⟨by rw [← hB]; rfl, B4.out⟩
theorem rMake_any (s : ByteArray) (n : Int) (w : World) (hsz : s.size ≤ 1000) :
    Calls Tryd.prog 21 #[.string s, .int .i64 n] w fun e w' => e = .returned (.tuple #[.string (mkS s n), .int .i64 (mkE s n)]) ∧ Below w.heap.size w w' := by
  have H1 := Lib.hid (rIsSeries_any s w (by omega))
  cases hs : seriesB s with
  | false =>
    have e1 : mkE s n = 2 := by unfold mkE; rw [hs]; rfl
    have e2 : mkS s n = ⟨#[]⟩ := by unfold mkS; rw [e1]; rfl
    rw [hs] at H1
    rw [e1, e2]
    clear hs e1 e2
    go_enter Tryd.func21, Tryd.ntmps21
    go_wp2_with fail
    refine (H1.out).mono ?_
    rintro e w' ⟨rfl, rfl⟩
    go_wp2_with fail
    go_ret2
    exact ⟨rfl, Below.refl _ _⟩
  | true =>
  rw [hs] at H1
  by_cases hr : 0 ≤ n ∧ n ≤ 99999
  case neg =>
    have e1 : mkE s n = 1 := by unfold mkE; rw [hs, if_neg hr]; rfl
    have e2 : mkS s n = ⟨#[]⟩ := by unfold mkS; rw [e1]; rfl
    rw [e1, e2]
    clear hs e1 e2
    by_cases h0 : n < 0
    · have d0 : decide (n < 0) = true := decide_eq_true h0
      clear hr h0
      go_enter Tryd.func21, Tryd.ntmps21
      go_wp2_with fail
      refine (H1.out).mono ?_
      rintro e w' ⟨rfl, rfl⟩
      go_wp2_with fail
      go_ret2
      exact ⟨rfl, Below.refl _ _⟩
    · have d0 : decide (n < 0) = false := decide_eq_false h0
      have d1 : decide (99999 < n) = true := decide_eq_true (by omega)
      clear hr h0
      go_enter Tryd.func21, Tryd.ntmps21
      go_wp2_with fail
      refine (H1.out).mono ?_
      rintro e w' ⟨rfl, rfl⟩
      go_wp2_with fail
      go_ret2
      exact ⟨rfl, Below.refl _ _⟩
  obtain ⟨m, rfl⟩ : ∃ m : Nat, n = (m : Int) := ⟨n.toNat, by omega⟩
  have hm : m ≤ 99999 := by omega
  have e1 : mkE s (m : Int) = 0 := mkE_ok hs hr.1 hr.2
  have e2 : mkS s (m : Int) = mkR s m := by unfold mkS; rw [if_pos e1, Int.toNat_natCast]
  rw [e1, e2]
  have H2 := Lib.hid (build_ok s m w hm hsz)
  have hm0 : (0 : Int) ≤ (m : Int) := by omega
  have hm9 : (m : Int) ≤ 99999 := by omega
  clear hs e1 e2 hr
  generalize mkR s m = R at *
  go_enter Tryd.func21, Tryd.ntmps21
  go_wp2_with fail
  refine (H1.out).mono ?_
  rintro e w' ⟨rfl, rfl⟩
  go_wp2_with fail
  refine H2.out.mono ?_
  rintro e w1 ⟨rfl, hb⟩
  go_wp2_with fail
  go_ret2
  exact ⟨rfl, hb⟩
end Go.Proofs.YtoenecgjiejljaaDoor
