/-
  The first message that is heard: the walk of the function inside Decode that calls itself. Condition: how its variables lie.
-/
import Derived.Test.YtjongjndoaojnaaDc2
import Derived.Laws.EntriesVeiled
import Derived.Test.YtjongjndoaojnaaFl3
namespace Go.Proofs.Ytjongjndoaojnaa
open Go.RowKit
set_option linter.unusedVariables false

/-- What was found of the rest of a text. -/
def fnd (C : List ByteArray) (u : List UInt8) : List Int := (dcI C u).reverse
def FndPost (B bm vk bt bv bc bf : Nat) (C : List ByteArray) (A : Option Addr) (c : Nat) (t : ByteArray) (w : World) (u : List UInt8) (w' : World) : Prop :=
  ∃ V' AE' cE', DcSt B bm vk bt bv bc bf C A c t w' (fnd C u) V' AE' cE' ∧ VOk C t V' ∧ (ways C u = 0 → AE' = none ∧ cE' = 0) ∧ Below B w w'
theorem fnd_none {C : List ByteArray} (hC : ∀ s ∈ C, 1 ≤ s.size) {u : List UInt8} (h : ways C u = 0) : fnd C u = [] := by
  unfold fnd dcI
  by_cases hu : u = []
  · subst hu; cases h
  · rw [dc_none hC hu h]
    rfl
theorem fnd_len {C : List ByteArray} (hC : ∀ s ∈ C, 1 ≤ s.size) (u : List UInt8) : (fnd C u).length ≤ u.length := by
  unfold fnd dcI
  rw [List.length_reverse, List.length_map]
  exact dc_len hC u.length u (Nat.le_refl _)
set_option maxRecDepth 4000 in
set_option maxHeartbeats 4000000 in
theorem find_any (B bm vk bt bv bc bf : Nat) (ap : ApD B bm vk bt bv bc bf) (C : List ByteArray) (A : Option Addr) (c : Nat) (t : ByteArray) (hV : Vd C) (ht60 : t.size ≤ 60) : ∀ (n at_ : Nat) (w : World) (V : Nat → Bool),
    t.size - at_ ≤ n → at_ ≤ t.size → DcSt B bm vk bt bv bc bf C A c t w [] V none 0 → VOk C t V →
    Calls Try.prog 63 #[.int .i64 at_, .pointer (some ⟨bt, 0, none⟩), .pointer (some ⟨bv, 0, none⟩), .pointer (some ⟨bc, 0, none⟩), .pointer (some ⟨bf, 0, none⟩), .pointer (some ⟨bm, 0, none⟩)] w fun e w' =>
      e = .returned (.bool (decide (ways C ((bl t).drop at_) ≠ 0))) ∧ FndPost B bm vk bt bv bc bf C A c t w ((bl t).drop at_) w' := by
  intro n
  induction n with
  | zero =>
    intro at_ w V hn hat hst hvok
    have hate : at_ = t.size := by omega
    subst hate
    have ST := Lib.hid hst
    have VO := Lib.hid hvok
    have c0 := blk_cell (j := 0) hst.ht
    have HU := Lib.hid (show (bl t).drop t.size = [] by rw [← bl_len t, List.drop_length])
    clear hst hvok hn hat
    go_enter Try.func63, Try.ntmps63
    go_wp2_with fail
    go_ret
    refine ⟨by rw [HU.out]; rfl, V, none, 0, ?_, VO.out, fun h => ⟨rfl, rfl⟩, Below.refl _ _⟩
    rw [HU.out]
    exact ST.out
  | succ n ih =>
    intro at_ w V hn hat hst hvok
    by_cases hate : at_ = t.size
    · subst hate
      have ST := Lib.hid hst
      have VO := Lib.hid hvok
      have c0 := blk_cell (j := 0) hst.ht
      have HU := Lib.hid (show (bl t).drop t.size = [] by rw [← bl_len t, List.drop_length])
      clear hst hvok hn hat ih
      go_enter Try.func63, Try.ntmps63
      go_wp2_with fail
      go_ret
      refine ⟨by rw [HU.out]; rfl, V, none, 0, ?_, VO.out, fun h => ⟨rfl, rfl⟩, Below.refl _ _⟩
      rw [HU.out]
      exact ST.out
    · have ST := Lib.hid hst
      have VO := Lib.hid hvok
      have IH := Lib.hid ih
      have AP := Lib.hid ap
      have HN := Lib.hid hn
      have HV := Lib.hid hV
      have HC := Lib.hid (show ∀ s ∈ C, 1 ≤ s.size from fun s hs => (sgB_iff.1 (HV.out.sg s hs)).1)
      have hlt : at_ < t.size := by omega
      have HDN := Lib.hid (bl_len t)
      have HU := Lib.hid (show (bl t).drop at_ ≠ [] by intro e; have := congrArg List.length e; rw [List.length_drop, HDN.out] at this; simp at this; omega)
      have c0 := blk_cell (j := 0) hst.ht
      have c1 := blk_cell (j := 0) hst.hv
      have c2 : w.cell? ⟨vk, at_, none⟩ = some (.bool (V at_)) := (blk_cell hst.hk).trans (rowU_at (by omega))
      have c3 := blk_cell (j := 0) hst.hc
      have e0 : ((at_ : Int) == (t.size : Int)) = false := by simp; omega
      have e1 : (at_ == t.size) = false := by simpa using hate
      have b0 : (0 : Int) ≤ (at_ : Int) := by omega
      have b1 : (at_ : Int) < ((t.size + 1 : Nat) : Int) := by omega
      have b2 : (at_ : Int) < (t.size : Int) + 1 := by omega
      clear hst hvok ih ap hn hV hate
      cases hv : V at_
      · rw [hv] at c2
        clear hv
        go_enter Try.func63, Try.ntmps63
        go_wp2_with fail
        clear e0 e1 c1 c2 b1 b2
        go_loopw [20] (fun v wr => ∃ k : Nat, k ≤ C.length ∧ v = .int .i64 k ∧ ∃ V', DcSt B bm vk bt bv bc bf C A c t wr [] V' none 0 ∧ VOk C t V' ∧ Below B w wr ∧ ∀ (j : Nat) e, j < k → C[j]? = some e → fit C ((bl t).drop at_) e = false) (fun v _ => C.length - (intOf v).toNat)
        case atStart => exact ⟨0, by omega, rfl, V, ST.out, VO.out, Below.refl _ _, fun j e h => by omega⟩
        case round =>
          obtain ⟨k, hk, rfl, V', h1, h2, h3, h4⟩ := hrel
          have ST2 := Lib.hid h1
          have VO2 := Lib.hid h2
          have B2 := Lib.hid h3
          have NF := Lib.hid h4
          clear h1 h2 h3 h4 c0 c3
          have c0 := blk_cell (j := 0) ST2.out.ht
          by_cases hkl : k < C.length
          · obtain ⟨b3, f3, s, hA, HD, hc0⟩ := (ST2.out.hr).txt k hkl
            have hC12 := HV.out.le
            have HA := Lib.hid hA
            have b1' : (at_ : Int) ≤ (t.size : Int) := by omega
            have HPX := Lib.hid (HasPrefix_any (drp t at_) s)
            have hpe : pfx s (drp t at_) = decide (bl s <+: (bl t).drop at_) := by rw [pfx_bl, bl_drp]
            subst hA
            have hk0 : (0 : Int) ≤ (k : Int) := by omega
            have hk1 : (k : Int) < (C.length : Int) := by omega
            cases hp : pfx s (drp t at_)
            · rw [hp] at HPX hpe
              have hnp := of_decide_eq_false hpe.symm
              have NF2 := Lib.hid (show ∀ (j : Nat) e, j < k + 1 → C[j]? = some e → fit C ((bl t).drop at_) e = false from fun j e hj he => by
                by_cases hjk : j = k
                · subst hjk
                  rw [HD.out] at he
                  cases he
                  cases hf : fit C ((bl t).drop at_) s with
                  | false => rfl
                  | true => exact absurd (fit_iff.1 hf).1 hnp
                · exact NF.out j e (by omega) he)
              clear hp hpe hnp
              go_wp2_with fail
              refine (HPX.out _).mono ?_
              rintro e w' ⟨rfl, rfl⟩
              go_wp2_with fail
              go_roundw
              case rel => exact ⟨k + 1, by omega, by go_num, V', ST2.out, VO2.out, B2.out, NF2.out⟩
              case measure => simp [intOf]; omega
            · rw [hp] at HPX hpe
              have hpp := of_decide_eq_true hpe.symm
              have hle := hpp.length_le
              rw [List.length_drop, HDN.out, bl_len] at hle
              have hs1 := HC.out s (List.mem_of_getElem? HD.out)
              have HPP := Lib.hid hpp
              have cf : wr.cell? ⟨bf, 0, none⟩ = some (.func (.func 63) #[] #[.pointer (some ⟨bt, 0, none⟩), .pointer (some ⟨bv, 0, none⟩), .pointer (some ⟨bc, 0, none⟩), .pointer (some ⟨bf, 0, none⟩), .pointer (some ⟨bm, 0, none⟩)]) := (blk_cell (j := 0) ST2.out.hf).trans rfl
              have II := IH.out (at_ + s.size) wr V' (by have := HN.out; omega) (by omega) ST2.out VO2.out
              rw [show ((at_ + s.size : Nat) : Int) = (at_ : Int) + (s.size : Int) from by omega] at II
              have II := Lib.hid II
              clear hp hpe hpp
              by_cases hw : ways C ((bl t).drop (at_ + s.size)) = 0
              · have HW := Lib.hid hw
                have NF2 := Lib.hid (show ∀ (j : Nat) e, j < k + 1 → C[j]? = some e → fit C ((bl t).drop at_) e = false from fun j e hj he => by
                  by_cases hjk : j = k
                  · subst hjk
                    rw [HD.out] at he
                    cases he
                    cases hf : fit C ((bl t).drop at_) s with
                    | false => rfl
                    | true =>
                      have := (fit_iff.1 hf).2
                      rw [List.drop_drop] at this
                      exact absurd hw this
                  · exact NF.out j e (by omega) he)
                clear hw
                go_wp2_with fail
                refine (HPX.out _).mono ?_
                rintro e w' ⟨rfl, rfl⟩
                go_wp2_with fail
                refine II.out.mono ?_
                rintro e w2 ⟨rfl, V2, AE2, cE2, q1, q2, q3, q4⟩
                obtain ⟨rfl, rfl⟩ := q3 HW.out
                rw [fnd_none HC.out HW.out] at q1
                have Q1 := Lib.hid q1
                have Q2 := Lib.hid q2
                have Q4 := Lib.hid (B2.out.trans q4)
                have e5 : decide (ways C ((bl t).drop (at_ + s.size)) ≠ 0) = false := by rw [HW.out]; rfl
                rw [e5]
                clear q1 q2 q3 q4 e5
                go_wp2_with fail
                go_roundw
                case rel => exact ⟨k + 1, by omega, by go_num, V2, Q1.out, Q2.out, Q4.out, NF2.out⟩
                case measure => simp [intOf]; omega
              · have HW := Lib.hid hw
                have hfx : fdx C ((bl t).drop at_) = some k := fdx_some HD.out (fit_iff.2 ⟨HPP.out, by rw [List.drop_drop]; exact hw⟩) NF.out
                have HF := Lib.hid (show fnd C ((bl t).drop at_) = fnd C ((bl t).drop (at_ + s.size)) ++ [(k : Int)] by
                  unfold fnd
                  rw [dcI_cons HC.out hfx HD.out, List.drop_drop, List.reverse_cons])
                have HWW := Lib.hid (show ways C ((bl t).drop at_) ≠ 0 from (ways_some HC.out HU.out).2 ⟨s, List.mem_of_getElem? HD.out, fit_iff.2 ⟨HPP.out, by rw [List.drop_drop]; exact hw⟩⟩)
                have HFL := Lib.hid (show (fnd C ((bl t).drop (at_ + s.size))).length ≤ 60 by have := fnd_len HC.out ((bl t).drop (at_ + s.size)); rw [List.length_drop, HDN.out] at this; omega)
                clear hw hfx
                go_wp2_with fail
                refine (HPX.out _).mono ?_
                rintro e w' ⟨rfl, rfl⟩
                go_wp2_with fail
                refine II.out.mono ?_
                rintro e w2 ⟨rfl, V2, AE2, cE2, q1, q2, q3, q4⟩
                have e5 : decide (ways C ((bl t).drop (at_ + s.size)) ≠ 0) = true := decide_eq_true HW.out
                rw [e5]
                generalize fnd C ((bl t).drop (at_ + s.size)) = F at *
                have Q1 := Lib.hid q1
                have Q2 := Lib.hid q2
                have Q4 := Lib.hid (B2.out.trans q4)
                have HL2 := Lib.hid (show (F ++ [(k : Int)]).length = F.length + 1 by simp)
                have cm := blk_cell (j := 0) Q1.out.hm
                have hF60 := HFL.out
                clear q1 q2 q3 q4 e5 c0 cf hc0
                go_wp2_with (first
                  | ((with_reducible show wpList _ _ _ (⟨some 41, _, _, _, _, _⟩ :: _) _ _); refine app eInt rfl (.tmp 38) (.tmp 40) rfl rfl (Q1.out.hE.alloc _) ((Below.refl B w2).alloc Q1.out.hB (.cells #[.int .i64 k] 3)) (size_alloc' Q1.out.hB _) rfl (Rd.one w2 (.int .i64 k) 3 (Nat.lt_succ_self _)) (by simp) (ints_one [(k : Int)]) (F ++ [(k : Int)]).length (by simp) (by rw [HL2.out]; omega) ?_; intro A2 c2 w3 o2 b2 g2 h2; have STA := Q1.out.stay AP.out (World.grownBy_alloc w2 (.cells #[.int .i64 k] 3) none); have O2 := Lib.hid (show w3.ownsRow B 3 1 (.slice A2 (F ++ [(k : Int)]).length c2) (F ++ [(k : Int)]).length (ints (F ++ [(k : Int)])) by rw [ints_app]; exact o2); have PS0 := STA.push AP.out O2.out g2 h2; rw [HL2.out] at PS0; have PS := Lib.hid PS0; have LB := (g2.block bm (lt_of_block STA.hm) fun e => STA.o1 e.symm).trans STA.hm; have cb2 := (blk_cell (j := 0) LB); have fb2 := blk_free LB 0; have BA := Lib.hid ((Below.refl B w2).alloc Q1.out.hB (.cells #[.int .i64 k] 3)); clear o2 b2 g2 h2 STA LB PS0)
                  | fail)
                go_ret
                refine ⟨by rw [decide_eq_true HWW.out]; rfl, V2, A2, c2, ?_, Q2.out, fun h => absurd h HWW.out, Q4.out.trans (BA.out.trans PS.out.2)⟩
                rw [HF.out]
                exact PS.out.1
          · have hkc : k = C.length := by omega
            have HW := Lib.hid (show ways C ((bl t).drop at_) = 0 by
              apply Classical.byContradiction
              intro hw
              obtain ⟨s, hs, hf⟩ := (ways_some HC.out HU.out).1 hw
              obtain ⟨j, hj⟩ := List.getElem?_of_mem hs
              rw [NF.out j s (by have := (List.getElem?_eq_some_iff.1 hj).1; omega) hj] at hf
              cases hf)
            have VN := Lib.hid (ST2.out.vain AP.out at_)
            have c4 := blk_cell (j := 0) ST2.out.hv
            have f4 := blk_free ST2.out.hk at_
            have c5 : wr.cell? ⟨vk, at_, none⟩ = some (.bool (V' at_)) := (blk_cell ST2.out.hk).trans (rowU_at (by omega))
            have b1 : (at_ : Int) < ((t.size + 1 : Nat) : Int) := by omega
            have b2 : (at_ : Int) < (t.size : Int) + 1 := by omega
            subst hkc
            go_wp2_with fail
            go_ret
            refine ⟨by rw [HW.out]; rfl, (fun p => if p = at_ then true else V' p), none, 0, ?_, ?_, fun _ => ⟨rfl, rfl⟩, B2.out.trans VN.out.2⟩
            · rw [fnd_none HC.out HW.out]
              exact VN.out.1
            · intro p hp
              by_cases hpa : p = at_
              · subst hpa
                exact HW.out
              · exact VO2.out p (by simpa [hpa] using hp)
      · rw [hv] at c2
        have HW := Lib.hid (VO.out at_ hv)
        clear hv
        go_enter Try.func63, Try.ntmps63
        go_wp2_with fail
        go_ret
        refine ⟨by rw [HW.out]; rfl, V, none, 0, ?_, VO.out, fun h => ⟨rfl, rfl⟩, Below.refl _ _⟩
        rw [fnd_none HC.out HW.out]
        exact ST.out
def rvF (l : List Nat) (i p : Nat) : Nat := if p < i ∨ l.length ≤ p + i then l.getD (l.length - 1 - p) 0 else l.getD p 0
def rvL (l : List Nat) (i : Nat) : List Nat := (List.range l.length).map (rvF l i)
theorem rvL_len (l : List Nat) (i : Nat) : (rvL l i).length = l.length := by simp [rvL]
theorem rvL_at {l : List Nat} {i p : Nat} (h : p < l.length) : (rvL l i)[p]? = some (rvF l i p) := by simp [rvL, h]
theorem rvL_zero (l : List Nat) : rvL l 0 = l := by
  refine List.ext_getElem? fun p => ?_
  by_cases h : p < l.length
  · rw [rvL_at h]
    unfold rvF
    rw [if_neg (by omega), List.getD_eq_getElem?_getD, List.getElem?_eq_getElem h]
    rfl
  · rw [List.getElem?_eq_none (by rw [rvL_len]; omega), List.getElem?_eq_none (by omega)]
theorem rvL_end {l : List Nat} {i : Nat} (h : l.length ≤ 2 * i + 1) : rvL l i = l.reverse := by
  refine List.ext_getElem? fun p => ?_
  by_cases hp : p < l.length
  · rw [rvL_at hp, List.getElem?_reverse hp, List.getElem?_eq_getElem (by omega)]
    unfold rvF
    by_cases hc : p < i ∨ l.length ≤ p + i
    · rw [if_pos hc, List.getD_eq_getElem?_getD, List.getElem?_eq_getElem (by omega)]
      rfl
    · have e : l.length - 1 - p = p := by omega
      rw [if_neg hc, List.getD_eq_getElem?_getD]
      simp only [e]
      rw [List.getElem?_eq_getElem hp]
      rfl
  · rw [List.getElem?_eq_none (by rw [rvL_len]; omega), List.getElem?_eq_none (by rw [List.length_reverse]; omega)]
theorem natsC_get (X : List Nat) (sp : List Value) (p : Nat) : (natsC X sp)[p]? = if p < X.length then X[p]?.map (fun (i : Nat) => Value.int .i64 (i : Int)) else sp[p - X.length]? := by
  unfold natsC nats
  rw [List.getElem?_toArray, List.getElem?_append, List.length_map, List.getElem?_map]
theorem natsC_size (X : List Nat) (sp : List Value) : (natsC X sp).size = X.length + sp.length := by simp [natsC, nats]
theorem rvL_swap {l : List Nat} {sp : List Value} {i j : Nat} (hij : i < j) (hj : i + j + 1 = l.length) : ((natsC (rvL l i) sp).setIfInBounds i (.int .i64 (rvF l i j : Nat))).setIfInBounds j (.int .i64 (rvF l i i : Nat)) = natsC (rvL l (i + 1)) sp := by
  refine Array.ext_getElem? fun p => ?_
  have hF : ∀ q, q ≠ i → q ≠ j → q < l.length → rvF l (i + 1) q = rvF l i q := by
    intro q h1 h2 h3
    unfold rvF
    by_cases hc : q < i ∨ l.length ≤ q + i
    · rw [if_pos hc, if_pos (by omega)]
    · rw [if_neg hc, if_neg (by omega)]
  have hI : rvF l (i + 1) i = rvF l i j := by
    unfold rvF
    rw [if_pos (by omega), if_neg (by omega)]
    congr 1
    omega
  have hJ : rvF l (i + 1) j = rvF l i i := by
    unfold rvF
    rw [if_pos (by omega), if_neg (by omega)]
    congr 1
    omega
  rw [Array.getElem?_setIfInBounds, Array.getElem?_setIfInBounds, natsC_get, natsC_get, rvL_len, rvL_len, Array.size_setIfInBounds, natsC_size, rvL_len]
  by_cases h1 : j = p
  · subst h1
    rw [if_pos rfl, if_pos (by omega), if_pos (by omega), rvL_at (by omega), hJ]
    rfl
  · rw [if_neg h1]
    by_cases h2 : i = p
    · subst h2
      rw [if_pos rfl, if_pos (by omega), if_pos (by omega), rvL_at (by omega), hI]
      rfl
    · rw [if_neg h2]
      by_cases h3 : p < l.length
      · rw [if_pos h3, if_pos h3, rvL_at h3, rvL_at h3, hF p (fun e => h2 e.symm) (fun e => h1 e.symm) h3]
      · rw [if_neg h3, if_neg h3]
set_option maxRecDepth 4000 in
set_option maxHeartbeats 2000000 in
theorem Reverse_any (g cap : Nat) (l : List Nat) (sp : List Value) (w : World) (hg : w.heap[g]? = some (.cells (natsC l sp) 3 (0, 0))) (hcap : l.length ≤ cap) (h60 : l.length ≤ 60) :
    Calls Try.prog 64 #[.slice (some ⟨g, 0, none⟩) l.length cap] w fun e w' => e = .returned (.tuple #[]) ∧ w'.heap[g]? = some (.cells (natsC l.reverse sp) 3 (0, 0)) ∧ Only g w w' := by
  have G0 := Lib.hid (show w.heap[g]? = some (.cells (natsC (rvL l 0) sp) 3 (0, 0)) by rw [rvL_zero]; exact hg)
  clear hg
  go_enter Try.func64, Try.ntmps64
  go_wp2_with fail
  go_loopw [2, 3] (fun v u wr => ∃ i : Nat, 2 * i ≤ l.length ∧ v = .int .i64 i ∧ u = .int .i64 ((l.length : Int) - 1 - i) ∧ wr.heap[g]? = some (.cells (natsC (rvL l i) sp) 3 (0, 0)) ∧ Only g w wr) (fun v _ _ => l.length - (intOf v).toNat)
  case atStart => exact ⟨0, by omega, rfl, by simp, G0.out, Only.refl _ _⟩
  case round =>
    obtain ⟨i, hi, rfl, rfl, h1, h2⟩ := hrel
    have G1 := Lib.hid h1
    have O1 := Lib.hid h2
    clear h1 h2
    by_cases hlt : 2 * i + 1 < l.length
    · obtain ⟨j, hj⟩ : ∃ j, i + j + 1 = l.length := ⟨l.length - 1 - i, by omega⟩
      have hij : i < j := by omega
      have ej : (l.length : Int) - 1 - (i : Int) = (j : Int) := by omega
      rw [ej]
      have c0 : wr.cell? ⟨g, j, none⟩ = some (.int .i64 (rvF l i j : Nat)) := by rw [blk_cell G1.out]; exact natsC_at (rvL_at (by omega))
      have c1 : wr.cell? ⟨g, i, none⟩ = some (.int .i64 (rvF l i i : Nat)) := by rw [blk_cell G1.out]; exact natsC_at (rvL_at (by omega))
      have f0 := blk_free G1.out i
      have f1 := blk_free G1.out j
      have GS := Lib.hid (show ((wr.setCell ⟨g, i, none⟩ (.int .i64 (rvF l i j : Nat))).setCell ⟨g, j, none⟩ (.int .i64 (rvF l i i : Nat))).heap[g]? = some (.cells (natsC (rvL l (i + 1)) sp) 3 (0, 0)) by
        rw [blk_set (blk_set G1.out i _) j _, rvL_swap hij hj])
      have OS := Lib.hid ((O1.out.set i (.int .i64 (rvF l i j : Nat))).set j (.int .i64 (rvF l i i : Nat)))
      have b0 : (0 : Int) ≤ (j : Int) := by omega
      have b1 : (j : Int) < (l.length : Int) := by omega
      have b2 : (0 : Int) ≤ (i : Int) := by omega
      have b3 : (i : Int) < (l.length : Int) := by omega
      have e1 : decide ((i : Int) < (j : Int)) = true := by simp; omega
      have e2 : decide (i < j) = true := by simpa using hij
      generalize rvF l i j = x at *
      generalize rvF l i i = y at *
      have HJ := Lib.hid hj
      have HE := Lib.hid ej
      clear hj ej
      go_wp2_with fail
      go_region
      go_wp2_with fail
      go_roundw
      case rel => exact ⟨i + 1, by omega, by go_num, by congr 1; have := HE.out; omega, GS.out, OS.out⟩
      case measure => simp [intOf]; omega
    · have e1 : decide ((i : Int) < (l.length : Int) - 1 - (i : Int)) = false := by simp; omega
      have HR := Lib.hid (rvL_end (l := l) (i := i) (by omega))
      go_wp2_with fail
      refine bodyPost_end (results_none rfl _ _ _) rfl ⟨rfl, by rw [← HR.out]; exact G1.out, O1.out⟩
end Go.Proofs.Ytjongjndoaojnaa
