/-
  Lengths: the walks of areLengths, shortestFirst. Condition: the list can be read.
-/
import Derived.Test.YtjongjndoaojnaaFl2
namespace Go.Proofs.Ytjongjndoaojnaa
open Go.RowKit
set_option linter.unusedVariables false

theorem lenB_bad {L : List Int} {k : Nat} {d : Int} (hd : L[k]? = some d) (h : isLen d = false) : lenB L = false := by
  unfold lenB
  rw [Bool.and_eq_false_iff]
  right
  rw [List.all_eq_false]
  exact ⟨d, List.mem_of_getElem? hd, by unfold isLen at h; rw [h]; simp⟩
theorem len_next {L : List Int} {k : Nat} {d : Int} (hd : L[k]? = some d) (h : isLen d = true) (ha : (L.take k).all isLen = true) : (L.take (k + 1)).all isLen = true := by
  rw [List.take_add_one, hd, List.all_append, ha]
  simp [h]
theorem lenB_ok {L : List Int} (h1 : 1 ≤ L.length) (h2 : L.length ≤ 12) (h : L.all isLen = true) : lenB L = true := by
  unfold lenB
  rw [decide_eq_true h1, decide_eq_true h2]
  exact h
theorem lenB_iff {L : List Int} (h : lenB L = true) : 1 ≤ L.length ∧ L.length ≤ 12 ∧ ∀ x ∈ L, 1 ≤ x ∧ x ≤ 12 := by
  unfold lenB at h
  simp only [Bool.and_eq_true, decide_eq_true_eq, List.all_eq_true] at h
  exact ⟨h.1.1, h.1.2, h.2⟩
set_option maxRecDepth 4000 in
set_option maxHeartbeats 1000000 in
theorem areLengths_any (A : Option Addr) (c : Nat) (L : List Int) (w : World) (hr : Rd w w.heap.size A (ints L)) (hl : L.length ≤ 9223372036854775807) :
    Calls Try.prog 76 #[.slice A L.length c] w fun e w' => e = .returned (.bool (lenB L)) ∧ w = w' := by
  have HR := Lib.hid hr
  clear hr
  by_cases h0 : L.length = 0
  · have e1 : (((L.length : Nat) : Int) == 0) = true := by rw [h0]; rfl
    have HE := Lib.hid (show lenB L = false by unfold lenB; rw [decide_eq_false (show ¬ 1 ≤ L.length by omega)]; rfl)
    clear h0
    go_enter Try.func76, Try.ntmps76
    go_wp2_with fail
    go_ret
    exact ⟨by rw [HE.out]; rfl, rfl⟩
  have e1 : (((L.length : Nat) : Int) == 0) = false := by rw [beq_eq_false_iff_ne]; omega
  by_cases h12 : 12 < L.length
  · have e2 : decide ((12 : Int) < (L.length : Int)) = true := by simp; omega
    have e3 : decide (12 < L.length) = true := by simpa using h12
    have HE := Lib.hid (show lenB L = false by unfold lenB; rw [decide_eq_false (show ¬ L.length ≤ 12 by omega), Bool.and_false]; rfl)
    clear h0 h12
    go_enter Try.func76, Try.ntmps76
    go_wp2_with fail
    go_ret
    exact ⟨by rw [HE.out]; rfl, rfl⟩
  have e2 : decide ((12 : Int) < (L.length : Int)) = false := by simp; omega
  have e3 : decide (12 < L.length) = false := by simpa using h12
  have HOK := Lib.hid (fun h => lenB_ok (L := L) (by omega) (by omega) h)
  have h12' : L.length ≤ 12 := by omega
  clear h0 h12
  go_enter Try.func76, Try.ntmps76
  go_wp2_with fail
  clear e1 e2 e3
  go_loop [15] (fun i => ∃ k : Nat, k ≤ L.length ∧ i = .int .i64 k ∧ (L.take k).all isLen = true) (fun i => L.length - (intOf i).toNat)
  case atStart => exact ⟨0, by omega, rfl, by simp⟩
  case round =>
    obtain ⟨k, hk, rfl, hall⟩ := hrel
    have HA := Lib.hid hall
    clear hall
    by_cases hlt : k < L.length
    · obtain ⟨b, o, d, rfl, hd, hc⟩ := HR.out.int k hlt
      have HI := Lib.hid (isLength_any d)
      cases hi : isLen d
      · rw [hi] at HI
        have HX := Lib.hid (lenB_bad hd.out hi)
        clear hi
        go_wp2_with (go_at_call 55; refine (HI.out _).mono ?_; rintro e w' ⟨rfl, rfl⟩)
        go_ret
        exact ⟨by rw [HX.out]; rfl, rfl⟩
      · rw [hi] at HI
        have HX := Lib.hid (len_next hd.out hi HA.out)
        clear hi
        go_wp2_with (go_at_call 55; refine (HI.out _).mono ?_; rintro e w' ⟨rfl, rfl⟩)
        go_round
        case rel => exact ⟨k + 1, by omega, by go_num, HX.out⟩
        case measure => simp [intOf]; omega
    · have hks : k = L.length := by omega
      have HX := Lib.hid (HOK.out (by have := HA.out; rw [hks, List.take_length] at this; exact this))
      subst hks
      go_wp2_with fail
      go_ret
      exact ⟨by rw [HX.out]; rfl, rfl⟩
theorem nats_ints (l : List Nat) : nats l = ints (l.map fun (i : Nat) => (i : Int)) := by
  unfold nats ints
  rw [List.map_map]
  rfl
theorem nats_range (k : Nat) : nats (List.range (k + 1)) = nats (List.range k) ++ [.int .i64 (k : Int)] := by
  unfold nats
  rw [List.range_succ, List.map_append]
  rfl
theorem nats_len (l : List Nat) : (nats l).length = l.length := by simp [nats]
theorem nats_one (l : List Nat) : ∀ u ∈ nats l, u.oneCell' = true := by
  rw [nats_ints]
  exact ints_one _
/-- A row of the call's own, by its cells and what lies behind. -/
theorem own_natsC {w : World} {B n c : Nat} {A : Option Addr} {l : List Nat} (h : w.ownsRow B 3 1 (.slice A n c) n (nats l)) (hn : 0 < n) : ∃ g sp, A = some ⟨g, 0, none⟩ ∧ B ≤ g ∧ n ≤ c ∧ w.heap[g]? = some (.cells (natsC l sp) 3 (0, 0)) := by
  rcases h.2 with ⟨_, h0⟩ | ⟨g, cap, cur, hv, hBg, hg, hnc, hcm, hcs, ht⟩
  · omega
  · injection hv with h1 h2 h3
    subst h1 h3
    refine ⟨g, cur.toList.drop (n * 1), rfl, hBg, hnc, ?_⟩
    rw [hg]
    unfold natsC
    rw [← ht, List.take_append_drop]
theorem rd_natsC {w : World} {g : Nat} {l : List Nat} {sp : List Value} {B : Nat} (hg : w.heap[g]? = some (.cells (natsC l sp) 3 (0, 0))) (hB : g < B) : Rd w B (some ⟨g, 0, none⟩) (nats l) := by
  refine .inr ⟨g, 0, rfl, hB, fun i u hu => ?_⟩
  rw [Nat.zero_add, blk_cell hg]
  unfold natsC
  rw [List.getElem?_toArray, List.getElem?_append_left (List.getElem?_eq_some_iff.1 hu).1]
  exact hu
set_option maxRecDepth 4000 in
set_option maxHeartbeats 2000000 in
theorem shortest_any (A : Option Addr) (c : Nat) (L : List Int) (w : World) (hr : Rd w w.heap.size A (ints L)) (h0 : 0 < L.length) (h12 : L.length ≤ 12) :
    Calls Try.prog 77 #[.slice A L.length c] w fun e w' => ∃ A' c', e = .returned (.slice A' L.length c') ∧ L.length ≤ c' ∧ Rd w' w'.heap.size A' (nats (ordL L)) ∧ (∀ b o, A' = some ⟨b, o, none⟩ → w.heap.size ≤ b) ∧ Below w.heap.size w w' := by
  obtain ⟨W, hW, hWb, hWs, hWB⟩ := one_blk w #[.slice A L.length c] 23
  have HR := Lib.hid ((hr.below hWB (Nat.le_refl _)))
  have HW := Lib.hid hW
  have HWb := Lib.hid hWb
  have c0 : W.cell? ⟨w.heap.size, 0, none⟩ = some (.slice A L.length c) := by rw [blk_cell hWb]; rfl
  have BW := Lib.hid hWB
  have HWs := Lib.hid hWs
  clear hr hW hWb hWs hWB
  go_enter Try.func77, Try.ntmps77
  go_wp2_with fail
  rw [HW.out]
  go_loopw [3, 7] (fun v i wr => ∃ (k : Nat) (A' : Option Addr) (c' : Nat), k ≤ L.length ∧ v = .slice A' k c' ∧ i = .int .i64 k ∧ wr.ownsRow W.heap.size 3 1 (.slice A' k c') k (nats (List.range k)) ∧ Below W.heap.size W wr) (fun _ i _ => L.length - (intOf i).toNat)
  case atStart => exact ⟨0, none, 0, by omega, rfl, rfl, ⟨rfl, .inl ⟨rfl, rfl⟩⟩, Below.refl _ _⟩
  case round =>
    obtain ⟨k, A', c', hk, rfl, rfl, h1, h2⟩ := hrel
    have OW := Lib.hid h1
    have B1 := Lib.hid h2
    clear h1 h2
    by_cases hlt : k < L.length
    · go_wp2_with ((with_reducible show wpList _ _ _ (⟨some 13, _, _, _, _, _⟩ :: _) _ _); refine app eInt rfl (.tmp 10) (.tmp 12) rfl rfl (OW.out.alloc _) (B1.out.alloc B1.out.size (.cells #[.int .i64 k] 3)) (size_alloc' B1.out.size _) rfl (Rd.one wr (.int .i64 k) 3 (Nat.lt_succ_self _)) (by simp) (ints_one [(k : Int)]) (k + 1) rfl (by omega) ?_; intro A2 c2 w2 o2 b2 _ _; have O2 := Lib.hid (show w2.ownsRow W.heap.size 3 1 (.slice A2 (k + 1) c2) (k + 1) (nats (List.range (k + 1))) by rw [nats_range]; exact o2); have B2 := Lib.hid b2; clear o2 b2)
      go_roundw
      case rel => exact ⟨k + 1, A2, c2, by omega, rfl, by go_num, O2.out, B2.out⟩
      case measure => simp [intOf]; omega
    · have hks : k = L.length := by omega
      subst hks
      obtain ⟨g, sp, rfl, hg, hgc, hgh⟩ := own_natsC OW.out h0
      have GB := Lib.hid hg
      have GH := Lib.hid hgh
      have hlr : (List.range L.length).length = L.length := List.length_range
      have HS := Lib.hid (SortI_any g c' w.heap.size (List.range L.length) sp (fun i => L.getD i 0) wr GH.out (by rw [hlr]; exact hgc) (by rw [hlr]; omega) (fun w' ho i j hi hj => by
        have h := byLen_any L A c w.heap.size i j w' ?_ ?_ (List.mem_range.1 hi) (List.mem_range.1 hj)
        · simp only [keyL, Int.toNat_natCast] at h
          exact h
        · rw [show w'.cell? ⟨w.heap.size, 0, none⟩ = wr.cell? ⟨w.heap.size, 0, none⟩ by
            unfold World.cell?
            simp only [ho.2.2.2.2 w.heap.size (by have := GB.out; have := HWs.out; omega)]]
          rw [B1.out.cell (by exact HWs.out)]
          exact c0
        · refine (ho.rd (HR.out.below B1.out (Nat.le_of_lt HWs.out)) fun b o hA => ?_).more ?_
          · obtain ⟨b0, o0, ha0, hb0, _⟩ := HR.out.at_ (ints_at (List.getElem?_eq_getElem h0))
            rw [ha0] at hA
            injection hA with hA
            injection hA with hA1
            have := GB.out
            have := HWs.out
            omega
          · rw [ho.2.2.2.1]
            have := B1.out.size
            have := HWs.out
            omega))
      rw [hlr] at HS
      clear hlr hg hgh
      go_wp2_with fail
      refine HS.out.mono ?_
      rintro e w3 ⟨rfl, h1, h2⟩
      have G3 := Lib.hid h1
      have O3 := Lib.hid h2
      clear h1 h2
      go_wp2_with fail
      go_ret
      refine ⟨_, _, rfl, hgc, rd_natsC G3.out (by rw [O3.out.2.2.2.1]; exact lt_of_block GH.out), (fun b o hb => by injection hb with hb; injection hb with hb; have := GB.out; have := HWs.out; omega), (BW.out.trans (B1.out.mono (Nat.le_of_lt HWs.out))).trans (O3.out.below (by have := GB.out; have := HWs.out; omega))⟩
end Go.Proofs.Ytjongjndoaojnaa
