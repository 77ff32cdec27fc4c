/-
  A code turned round: the walks of Back of both sides. Condition: the code can be read.
-/
import Derived.Test.YtjongjndoaojnaaBk1
namespace Go.Proofs.Ytjongjndoaojnaa
open Go.RowKit
set_option linter.unusedVariables false

def bkL (C : List ByteArray) : List ByteArray := if vE C = 0 then C.map revB else []
theorem bl_revB (s : ByteArray) : bl (revB s) = (bl s).reverse := bl_ofL _
theorem revB_size (s : ByteArray) : (revB s).size = s.size := by rw [← bl_len, bl_revB, List.length_reverse, bl_len]
theorem revB_revB (s : ByteArray) : revB (revB s) = s := by
  apply bl_inj
  rw [bl_revB, bl_revB, List.reverse_reverse]
theorem revB_sg {s : ByteArray} (h : sgB s = true) : sgB (revB s) = true := by
  rw [sgB_iff] at h ⊢
  refine ⟨by rw [revB_size]; exact h.1, by rw [revB_size]; exact h.2.1, ?_⟩
  unfold notesB
  rw [bl_revB, List.all_reverse]
  exact h.2.2
theorem vGo_of : ∀ {C p : List ByteArray}, (∀ s ∈ C, sgB s = true) → C.Nodup → (∀ s ∈ C, s ∉ p) → vGo p C = 0
  | [], p, _, _, _ => rfl
  | s :: r, p, h1, h2, h3 => by
    obtain ⟨n1, n2⟩ := List.nodup_cons.1 h2
    unfold vGo
    rw [if_neg (by rw [h1 s (List.mem_cons_self ..)]; simp), if_neg (fun h => h3 s (List.mem_cons_self ..) (inB_iff.1 h))]
    refine vGo_of (fun t ht => h1 t (List.mem_cons_of_mem _ ht)) n2 fun t ht hp => ?_
    rcases List.mem_append.1 hp with h | h
    · exact h3 t (List.mem_cons_of_mem _ ht) h
    · rw [List.mem_singleton] at h
      subst h
      exact n1 ht
theorem vE_of {C : List ByteArray} (h : Vd C) : vE C = 0 := by
  unfold vE
  have h1 := h.pos
  have h2 := h.le
  rw [if_neg (by simp only [Bool.or_eq_true, decide_eq_true_eq]; omega)]
  exact vGo_of h.sg h.nd fun _ _ => by simp
theorem Vd.back {C : List ByteArray} (h : Vd C) : Vd (C.map revB) := by
  refine ⟨by rw [List.length_map]; exact h.pos, by rw [List.length_map]; exact h.le, fun s hs => ?_, ?_⟩
  · obtain ⟨t, ht, rfl⟩ := List.mem_map.1 hs
    exact revB_sg (h.sg t ht)
  · unfold List.Nodup
    rw [List.pairwise_map]
    exact List.Pairwise.imp (fun {a b} hab e => hab (by rw [← revB_revB a, e, revB_revB])) h.nd
theorem safe_backC {C : List ByteArray} (h : Vd C) : safeC (C.map revB) = safeC C := by
  have e : Cl (C.map revB) = (Cl C).map List.reverse := by
    unfold Cl
    rw [List.map_map, List.map_map]
    exact List.map_congr_left fun s _ => bl_revB s
  unfold safeC
  rw [e]
  cases hs : @decide (Safe (Cl C)) (Classical.propDecidable _)
  · exact @decide_eq_false _ (Classical.propDecidable _) fun h2 => @of_decide_eq_false _ (Classical.propDecidable _) hs (safe_back_iff.1 h2)
  · exact @decide_eq_true _ (Classical.propDecidable _) (safe_back_iff.2 (@of_decide_eq_true _ (Classical.propDecidable _) hs))
theorem map_take_next {C : List ByteArray} {k : Nat} {s : ByteArray} (h : C[k]? = some s) : txts ((C.take (k + 1)).map revB) = txts ((C.take k).map revB) ++ [.string (revB s)] := by
  rw [List.take_add_one, h]
  simp [txts]
theorem own_cap {w : World} {base n c : Nat} {A : Option Addr} {e : TypeId} {size : Nat} {xs : List Value} (h : w.ownsRow base e size (.slice A n c) n xs) : c ≤ maxLen := by
  rcases h.2 with ⟨h1, _⟩ | ⟨g, cap, cur, h1, _, _, _, h2, _⟩
  · injection h1 with _ _ h3
    rw [h3]; unfold maxLen; omega
  · injection h1 with _ _ h3
    rw [h3]; exact h2
def BackPost (C : List ByteArray) (w : World) (e : Ending) (w' : World) : Prop :=
  ∃ A' c', e = .returned (.tuple #[.slice A' (bkL C).length c', .int .i64 (vE C)]) ∧ (bkL C).length ≤ c' ∧ c' ≤ maxLen ∧ Rd w' w'.heap.size A' (txts (bkL C)) ∧ Below w.heap.size w w'
set_option maxRecDepth 4000 in
set_option maxHeartbeats 2000000 in
theorem Back_any (A : Option Addr) (c : Nat) (C : List ByteArray) (w : World) (hr : Rd w w.heap.size A (txts C)) (hs : Sz C) (hl : C.length ≤ c) (hc : c ≤ 9223372036854775807) :
    Calls Try.prog 39 #[.slice A C.length c] w fun e w' => BackPost C w e w' := by
  have HV := Lib.hid (Validate_any A c C w hr hs hl hc)
  have HR := Lib.hid hr
  clear hr hs
  by_cases hv : vE C = 0
  · have HVd := Lib.hid (vE_ok hv)
    have HE := Lib.hid hv
    have HB := Lib.hid (show bkL C = C.map revB from if_pos hv)
    have hC := HVd.out.le
    rw [hv] at HV
    clear hv
    go_enter Try.func39, Try.ntmps39
    go_wp2_with fail
    refine HV.out.mono ?_
    rintro e w1 ⟨rfl, hb⟩
    have B1 := Lib.hid hb
    have R1 := Lib.hid (HR.out.below hb (Nat.le_refl _))
    clear hb
    go_wp2_with fail
    go_loopw [5, 15] (fun v i wr => ∃ (k : Nat) (A' : Option Addr) (c' : Nat), k ≤ C.length ∧ v = .slice A' k c' ∧ i = .int .i64 k ∧ wr.ownsRow w1.heap.size 9 1 (.slice A' k c') k (txts ((C.take k).map revB)) ∧ Below w1.heap.size w1 wr) (fun _ i _ => C.length - (intOf i).toNat)
    case atStart => exact ⟨0, none, 0, by omega, rfl, rfl, ⟨rfl, .inl ⟨rfl, rfl⟩⟩, Below.refl _ _⟩
    case round =>
      obtain ⟨k, A', c', hk, rfl, rfl, h1, h2⟩ := hrel
      have OW := Lib.hid h1
      have B2 := Lib.hid h2
      clear h1 h2
      by_cases hlt : k < C.length
      · obtain ⟨b, o, s, rfl, hd, hc0⟩ := (R1.out.below B2.out B1.out.size).txt k hlt
        have HX := Lib.hid (map_take_next hd.out)
        have hsg := sgB_iff.1 (HVd.out.sg s (List.mem_of_getElem? hd.out))
        have HT := Lib.hid (turn_any s wr hsg.2.2 (by omega))
        clear hsg hd
        go_wp2_with fail
        refine HT.out.mono ?_
        rintro e w2 ⟨rfl, hb⟩
        have B3 := Lib.hid (B2.out.trans (hb.mono B2.out.size))
        have OW2 := Lib.hid (own_below OW.out hb)
        clear hb
        go_wp2_with ((with_reducible show wpList _ _ _ (⟨some 23, _, _, _, _, _⟩ :: _) _ _); refine app eStr rfl (.tmp 19) (.tmp 22) rfl rfl (OW2.out.alloc _) (B3.out.alloc B3.out.size (.cells #[.string (revB s)] 9)) (size_alloc' B3.out.size _) rfl (Rd.one w2 (.string (revB s)) 9 (Nat.lt_succ_self _)) (by simp) (txts_one [revB s]) (k + 1) rfl (by omega) ?_; intro A2 c2 w3 o2 b2 _ _; have O2 := Lib.hid (show w3.ownsRow w1.heap.size 9 1 (.slice A2 (k + 1) c2) (k + 1) (txts ((C.take (k + 1)).map revB)) by rw [HX.out]; exact o2); have B4 := Lib.hid b2; clear o2 b2)
        go_roundw
        case rel => exact ⟨k + 1, A2, c2, by omega, rfl, by go_num, O2.out, B4.out⟩
        case measure => simp [intOf]; omega
      · have hks : k = C.length := by omega
        subst hks
        go_wp2_with fail
        go_ret2
        have hO := OW.out
        rw [List.take_length] at hO
        have hbl : (bkL C).length = C.length := by rw [HB.out, List.length_map]
        refine ⟨A', c', by rw [hbl, HE.out]; rfl, by rw [hbl]; exact own_form_le hO, own_cap hO, by rw [HB.out]; exact Rd.of_own hO, B1.out.trans (B2.out.mono B1.out.size)⟩
  · have e1 : (vE C != 0) = true := by simpa using hv
    have HB := Lib.hid (show bkL C = [] from if_neg hv)
    clear hv
    go_enter Try.func39, Try.ntmps39
    go_wp2_with fail
    refine HV.out.mono ?_
    rintro e w1 ⟨rfl, hb⟩
    have B1 := Lib.hid hb
    clear hb
    go_wp2_with fail
    go_ret2
    exact ⟨none, 0, by rw [HB.out]; rfl, by rw [HB.out]; exact Nat.le_refl _, by unfold maxLen; omega, by rw [HB.out]; exact Rd.nil_, B1.out⟩
theorem extract_one {s : ByteArray} {k : Nat} {c : UInt8} (h : (bl s)[k]? = some c) : s.extract k (k + 1) = ⟨#[c]⟩ := by
  apply bl_inj
  unfold bl
  rw [Lib.extract_data]
  obtain ⟨hk, he⟩ := List.getElem?_eq_some_iff.1 h
  unfold bl at hk he
  rw [List.drop_eq_getElem_cons hk, he, show k + 1 - k = 1 by omega]
  rfl
set_option maxRecDepth 4000 in
set_option maxHeartbeats 2000000 in
theorem rBack_any (A : Option Addr) (c : Nat) (C : List ByteArray) (w : World) (hr : Rd w w.heap.size A (txts C)) (hs : Sz C) (hl : C.length ≤ c) (hc : c ≤ 9223372036854775807) :
    Calls Try.prog 40 #[.slice A C.length c] w fun e w' => BackPost C w e w' := by
  have HV := Lib.hid (rValidate_any A c C w hr hs (Nat.le_trans hl hc))
  have HR := Lib.hid hr
  clear hr hs
  by_cases hv : vE C = 0
  · have HVd := Lib.hid (vE_ok hv)
    have HE := Lib.hid hv
    have HB := Lib.hid (show bkL C = C.map revB from if_pos hv)
    have hC := HVd.out.le
    rw [hv] at HV
    clear hv
    go_enter Try.func40, Try.ntmps40
    go_wp2_with fail
    refine HV.out.mono ?_
    rintro e w' ⟨rfl, m, rfl⟩
    obtain ⟨w1, hw1⟩ : ∃ w1, w1 = w.drewN m := ⟨_, rfl⟩
    have B1 := Lib.hid (show Below w.heap.size w w1 by rw [hw1]; exact bdN (Below.refl _ _) m)
    have R1 := Lib.hid (show Rd w1 w.heap.size A (txts C) by rw [hw1]; exact HR.out)
    rw [← hw1]
    clear hw1
    go_wp2_with fail
    go_loopw [5, 6] (fun v i wr => ∃ (k : Nat) (A' : Option Addr) (c' : Nat), k ≤ C.length ∧ v = .slice A' k c' ∧ i = .int .i64 k ∧ wr.ownsRow w1.heap.size 9 1 (.slice A' k c') k (txts ((C.take k).map revB)) ∧ Below w1.heap.size w1 wr) (fun _ i _ => C.length - (intOf i).toNat)
    case atStart => exact ⟨0, none, 0, by omega, rfl, rfl, ⟨rfl, .inl ⟨rfl, rfl⟩⟩, Below.refl _ _⟩
    case round =>
      obtain ⟨k, A', c', hk, rfl, rfl, h1, h2⟩ := hrel
      have OW := Lib.hid h1
      have B2 := Lib.hid h2
      clear h1 h2
      by_cases hlt : k < C.length
      · obtain ⟨b, o, s, rfl, hd, hc0⟩ := (R1.out.below B2.out B1.out.size).txt k hlt
        have HX := Lib.hid (map_take_next hd.out)
        have hsg := sgB_iff.1 (HVd.out.sg s (List.mem_of_getElem? hd.out))
        have hsz := hsg.2.1
        have b0 : (0 : Int) ≤ (k : Int) := by omega
        have b1 : (k : Int) < (C.length : Int) := by omega
        clear hsg hd
        go_wp2_with fail
        go_loop [7, 8] (fun v i => ∃ j : Nat, j ≤ s.size ∧ i = .int .i64 j ∧ v = .string (ofL ((bl s).take j).reverse)) (fun _ i => s.size - (intOf i).toNat)
        case atStart => exact ⟨0, by omega, rfl, rfl⟩
        case round =>
          obtain ⟨j, hj, rfl, rfl⟩ := hrel
          by_cases hjs : j < s.size
          · have hg := bl_get s j hjs
            have HXT := Lib.hid (show s.extract j (j + 1) ++ ofL ((bl s).take j).reverse = ofL ((bl s).take (j + 1)).reverse by rw [extract_one hg]; exact rev_next hg)
            have hts : (ofL ((bl s).take j).reverse).size ≤ 1000 := by
              rw [← bl_len, bl_ofL, List.length_reverse, List.length_take, bl_len]; omega
            have hes : (s.extract j (j + 1)).size ≤ 1 := by simp; omega
            generalize ofL ((bl s).take j).reverse = t at *
            have b2 : (0 : Int) ≤ (j : Int) := by omega
            have b3 : (j : Int) < (s.size : Int) := by omega
            clear hg
            go_wp2_with fail
            go_round
            case rel => exact ⟨j + 1, by omega, by go_num, by rw [← HXT.out]⟩
            case measure => simp [intOf]; omega
          · have HT := Lib.hid (rev_end (s := s) (k := j) (by omega))
            generalize ofL ((bl s).take j).reverse = t at *
            have ht2 := HT.out
            subst ht2
            go_wp2_with ((with_reducible show wpList _ _ _ (⟨some 42, _, _, _, _, _⟩ :: _) _ _); refine app eStr rfl (.tmp 39) (.tmp 41) rfl rfl (OW.out.alloc _) (B2.out.alloc B2.out.size (.cells #[.string (revB s)] 9)) (size_alloc' B2.out.size _) rfl (Rd.one wr (.string (revB s)) 9 (Nat.lt_succ_self _)) (by simp) (txts_one [revB s]) (k + 1) rfl (by omega) ?_; intro A2 c2 w3 o2 b2 _ _; have O2 := Lib.hid (show w3.ownsRow w1.heap.size 9 1 (.slice A2 (k + 1) c2) (k + 1) (txts ((C.take (k + 1)).map revB)) by rw [HX.out]; exact o2); have B4 := Lib.hid b2; clear o2 b2)
            go_roundw
            case rel => exact ⟨k + 1, A2, c2, by omega, rfl, by go_num, O2.out, B4.out⟩
            case measure => simp [intOf]; omega
      · have hks : k = C.length := by omega
        subst hks
        go_wp2_with fail
        go_ret2
        have hO := OW.out
        rw [List.take_length] at hO
        have hbl : (bkL C).length = C.length := by rw [HB.out, List.length_map]
        refine ⟨A', c', by rw [hbl, HE.out]; rfl, by rw [hbl]; exact own_form_le hO, own_cap hO, by rw [HB.out]; exact Rd.of_own hO, B1.out.trans (B2.out.mono B1.out.size)⟩
  · have e1 : (vE C != 0) = true := by simpa using hv
    have HB := Lib.hid (show bkL C = [] from if_neg hv)
    clear hv
    go_enter Try.func40, Try.ntmps40
    go_wp2_with fail
    refine HV.out.mono ?_
    rintro e w' ⟨rfl, m, rfl⟩
    go_wp2_with fail
    go_ret2
    exact ⟨none, 0, by rw [HB.out]; rfl, by rw [HB.out]; exact Nat.le_refl _, by unfold maxLen; omega, by rw [HB.out]; exact Rd.nil_, bdN (Below.refl _ _) m⟩
end Go.Proofs.Ytjongjndoaojnaa
