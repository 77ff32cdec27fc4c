/-
  Sure places: the walks of slices.IndexFunc and ContainsFunc at isEnd, of chain.isSure; slices.Index and Contains; chain.class and isWhole. Condition: the chain can be read; rows as long as there are rows, at most 100.
-/
import Derived.Test.YtegehfcnclpdeaaFwl
import Derived.Test.YtegehfcnclpdeaaFwe
import Derived.Laws.EntriesVeiled
namespace Go.Proofs.Ytegehfcnclpdeaa
open Go.RowKit
set_option linter.unusedVariables false

/-- Is the place j an end? -/
def endAt (L : List (List Int)) (j : Nat) : Bool := endB (L.getD j []) j
theorem endAt_row {rs : List Rw} {a c : Nat} {A : Option Addr} {l : List Int} (h : rs[a]? = some ⟨A, c, l⟩) : endAt (rowsL rs) a = endB l a := by
  unfold endAt rowsL
  rw [List.getD_eq_getElem?_getD, List.getElem?_map, h]
  rfl
theorem isEnd_at (A : Option Addr) (rs : List Rw) (c i : Nat) (h100 : rs.length ≤ 100) (hlen : ∀ r ∈ rs, r.l.length = rs.length) (hi : i < rs.length) (w : World) (hr : RdR w w.heap.size A rs) :
    Calls Try.prog 62 #[.slice A rs.length c, .int .i64 i] w fun e w' => e = .returned (.bool (endAt (rowsL rs) i)) ∧ Below w.heap.size w w' := by
  obtain ⟨⟨A', c', l⟩, hrow⟩ : ∃ r, rs[i]? = some r := ⟨_, List.getElem?_eq_getElem hi⟩
  have hll : l.length = rs.length := hlen _ (List.mem_of_getElem? hrow)
  rw [endAt_row hrow]
  exact isEnd_any A rs c i A' c' l (by omega) w hr hrow
theorem any_take {q : List Nat} {P : Nat → Bool} {k j : Nat} (h : q[k]? = some j) : (q.take (k + 1)).any P = ((q.take k).any P || P j) := by
  rw [List.take_add_one, h, List.any_append]
  simp
theorem nats_get {q : List Nat} {k : Nat} (h : k < q.length) : ∃ j, q[k]? = some j ∧ (nats q)[k]? = some (j : Int) := ⟨q[k], List.getElem?_eq_getElem h, by simp [nats, h]⟩
set_option maxRecDepth 8000 in
set_option maxHeartbeats 2000000 in
theorem IndexEnd_any (A : Option Addr) (rs : List Rw) (c : Nat) (h100 : rs.length ≤ 100) (hlen : ∀ r ∈ rs, r.l.length = rs.length) (Aq : Option Addr) (cq : Nat) (q : List Nat) (hq : ∀ j ∈ q, j < rs.length) (hql : q.length ≤ 100) (w : World) (hr : RdR w w.heap.size A rs) (hrq : Rd w w.heap.size Aq (ints (nats q))) :
    Calls Try.prog 105 #[.slice Aq q.length cq, .func (.func 62) #[.slice A rs.length c] #[]] w fun e w' => ∃ d : Int, e = .returned (.int .i64 d) ∧ (q.any (endAt (rowsL rs)) = decide (0 ≤ d)) ∧ Below w.heap.size w w' := by
  have HR := Lib.hid hr
  have HRQ := Lib.hid hrq
  have HQ := Lib.hid hq
  have HE := Lib.hid (fun i hi w h => isEnd_at A rs c i h100 hlen hi w h)
  generalize rowsL rs = L at *
  obtain ⟨m, hm⟩ : ∃ m, rs.length = m := ⟨_, rfl⟩
  have HN := Lib.hid hm
  rw [hm] at HE HQ ⊢
  clear hr hrq hq hlen hm h100
  go_enter Try.func105, Try.ntmps105
  go_wp2_with fail
  go_loopw [8] (fun z wr => ∃ k : Nat, k ≤ q.length ∧ z = .int .i64 k ∧ (q.take k).any (endAt L) = false ∧ Below w.heap.size w wr) (fun z _ => q.length - (intOf z).toNat)
  case atStart => exact ⟨0, by omega, rfl, by simp, Below.refl _ _⟩
  case round =>
    obtain ⟨k, hk, rfl, hany, hb⟩ := hrel
    have HB := Lib.hid hb
    have HAny := Lib.hid hany
    by_cases hlt : k < q.length
    · obtain ⟨j, hj, hjn⟩ := nats_get hlt
      obtain ⟨b, o, d, rfl, hd, hc⟩ := (HRQ.out.below hb (Nat.le_refl _)).int k (by rw [nats_len]; exact hlt)
      have hd2 : d = (j : Int) := by
        have h3 := hd.out
        rw [hjn] at h3
        injection h3 with h3
        exact h3.symm
      subst hd2
      have HJ := Lib.hid hj
      have HC := Lib.hid (HE.out j (HQ.out j (List.mem_of_getElem? hj)) wr ((HR.out.below hb (Nat.le_refl _)).more hb.size))
      have b0 : (0 : Int) ≤ (k : Int) := by omega
      have b1 : (k : Int) < (q.length : Int) := by omega
      clear hd hj hjn hb hany
      obtain ⟨x, hx⟩ : ∃ x, endAt L j = x := ⟨_, rfl⟩
      have HX := Lib.hid hx
      rw [hx] at HC
      clear hx
      go_wp2_with fail
      refine HC.out.mono ?_
      rintro e w2 ⟨rfl, hb2⟩
      have HB2 := Lib.hid (HB.out.trans (hb2.mono HB.out.size))
      clear hb2
      cases x
      · go_wp2_with fail
        go_roundw
        case rel => exact ⟨k + 1, by omega, by go_num, by rw [any_take HJ.out, HAny.out, HX.out]; rfl, HB2.out⟩
        case measure => simp [intOf]; omega
      · go_wp2_with fail
        go_ret
        refine ⟨(k : Int), rfl, ?_, HB2.out⟩
        rw [decide_eq_true b0]
        exact List.any_eq_true.2 ⟨j, List.mem_of_getElem? HJ.out, HX.out⟩
    · have hkn : k = q.length := by omega
      subst hkn
      clear hlt hb
      go_wp2_with fail
      go_ret
      refine ⟨-1, rfl, ?_, HB.out⟩
      rw [List.take_length] at hany
      rw [hany]
      rfl
theorem ContainsEnd_any (A : Option Addr) (rs : List Rw) (c : Nat) (h100 : rs.length ≤ 100) (hlen : ∀ r ∈ rs, r.l.length = rs.length) (Aq : Option Addr) (cq : Nat) (q : List Nat) (hq : ∀ j ∈ q, j < rs.length) (hql : q.length ≤ 100) (w : World) (hr : RdR w w.heap.size A rs) (hrq : Rd w w.heap.size Aq (ints (nats q))) :
    Calls Try.prog 97 #[.slice Aq q.length cq, .func (.func 62) #[.slice A rs.length c] #[]] w fun e w' => e = .returned (.bool (q.any (endAt (rowsL rs)))) ∧ Below w.heap.size w w' := by
  have H := Lib.hid (IndexEnd_any A rs c h100 hlen Aq cq q hq hql w hr hrq)
  generalize q.any (endAt (rowsL rs)) = x at *
  generalize rs.length = m at *
  generalize q.length = k at *
  clear hr hrq hq hlen
  go_enter Try.func97, Try.ntmps97
  go_wp2_with fail
  refine H.out.mono ?_
  rintro e w2 ⟨d, rfl, hx, hb⟩
  subst hx
  go_wp2_with fail
  go_ret
  exact ⟨rfl, hb⟩
theorem ldL_lt {L : List (List Int)} {n i j : Nat} (h : j ∈ ldL L n i) : j < n := by
  unfold ldL at h
  exact List.mem_range.1 (List.mem_filter.1 h).1
/-- Does each place to which i leads lead to an end? -/
def sureB (L : List (List Int)) (n i : Nat) : Bool := (ldL L n i).all fun j => (ldL L n j).any (endAt L)
theorem all_take {q : List Nat} {P : Nat → Bool} {k j : Nat} (h : q[k]? = some j) : (q.take (k + 1)).all P = ((q.take k).all P && P j) := by
  rw [List.take_add_one, h, List.all_append]
  simp
set_option maxRecDepth 8000 in
set_option maxHeartbeats 2000000 in
theorem isSure_any (A : Option Addr) (rs : List Rw) (c i : Nat) (h100 : rs.length ≤ 100) (hlen : ∀ r ∈ rs, r.l.length = rs.length) (hi : i < rs.length) (w : World) (hr : RdR w w.heap.size A rs) :
    Calls Try.prog 66 #[.slice A rs.length c, .int .i64 i] w fun e w' => e = .returned (.bool (sureB (rowsL rs) rs.length i)) ∧ Below w.heap.size w w' := by
  have HR := Lib.hid hr
  have HLd := Lib.hid (fun i hi w h => leads_any A rs c i h100 hlen hi w h)
  have HCo := Lib.hid (fun Aq cq q hq hql w h1 h2 => ContainsEnd_any A rs c h100 hlen Aq cq q hq hql w h1 h2)
  unfold LdPost at HLd
  unfold sureB
  generalize rowsL rs = L at *
  obtain ⟨m, hm⟩ : ∃ m, rs.length = m := ⟨_, rfl⟩
  rw [hm] at HLd HCo hi h100 ⊢
  have HLL := Lib.hid (fun i => ldL_len L m i)
  obtain ⟨q, hq⟩ : ∃ q, ldL L m i = q := ⟨_, rfl⟩
  have HQ := Lib.hid (show ∀ j ∈ q, j < m from fun j hj => ldL_lt (by rw [hq]; exact hj))
  have hqm : q.length ≤ m := by rw [← hq]; exact ldL_len L m i
  have HL1 := Lib.hid (HLd.out i hi w HR.out)
  rw [hq] at HL1 ⊢
  clear hr hlen hm hq hi
  go_enter Try.func66, Try.ntmps66
  go_wp2_with fail
  refine HL1.out.mono ?_
  rintro e w1 ⟨A1, c1, rfl, hrd, hb⟩
  have B1 := Lib.hid hb
  have R1 := Lib.hid hrd
  have HR1 := Lib.hid (HR.out.up hb)
  clear hb hrd
  go_wp2_with fail
  go_loopw [11] (fun z wr => ∃ k : Nat, k ≤ q.length ∧ z = .int .i64 k ∧ (q.take k).all (fun j => (ldL L m j).any (endAt L)) = true ∧ Below w1.heap.size w1 wr) (fun z _ => q.length - (intOf z).toNat)
  case atStart => exact ⟨0, by omega, rfl, by simp, Below.refl _ _⟩
  case round =>
    obtain ⟨k, hk, rfl, hall, hb⟩ := hrel
    have HB := Lib.hid hb
    have HAll := Lib.hid hall
    by_cases hlt : k < q.length
    · obtain ⟨j, hj, hjn⟩ := nats_get hlt
      obtain ⟨b, o, d, rfl, hd, hc⟩ := (R1.out.below hb (Nat.le_refl _)).int k (by rw [nats_len]; exact hlt)
      have hd2 : d = (j : Int) := by
        have h3 := hd.out
        rw [hjn] at h3
        injection h3 with h3
        exact h3.symm
      subst hd2
      have HJ := Lib.hid hj
      have HR2 := Lib.hid (HR1.out.up hb)
      have HC := Lib.hid (HLd.out j (HQ.out j (List.mem_of_getElem? hj)) wr HR2.out)
      have b0 : (0 : Int) ≤ (k : Int) := by omega
      have b1 : (k : Int) < (q.length : Int) := by omega
      have hp := HLL.out j
      have HP := Lib.hid (show ∀ p ∈ ldL L m j, p < m from fun p hp => ldL_lt hp)
      obtain ⟨p, hpe⟩ : ∃ p, ldL L m j = p := ⟨_, rfl⟩
      have HPE := Lib.hid hpe
      rw [hpe] at HC hp HP
      obtain ⟨x, hx⟩ : ∃ x, p.any (endAt L) = x := ⟨_, rfl⟩
      have HX := Lib.hid (show (ldL L m j).any (endAt L) = x by rw [hpe]; exact hx)
      have HXX := Lib.hid hx
      clear hd hj hjn hb hall hpe hx
      go_wp2_with fail
      refine HC.out.mono ?_
      rintro e w2 ⟨A2, c2, rfl, hr2, hb2⟩
      have B2 := Lib.hid (HB.out.trans (hb2.mono HB.out.size))
      have HC2 := Lib.hid (HCo.out A2 c2 p HP.out (by omega) w2 (HR2.out.up hb2) hr2)
      rw [HXX.out] at HC2
      clear hr2 hb2
      go_wp2_with fail
      refine HC2.out.mono ?_
      rintro e w3 ⟨rfl, hb3⟩
      have B3 := Lib.hid (B2.out.trans (hb3.mono B2.out.size))
      clear hb3
      cases x
      · go_wp2_with fail
        go_ret
        refine ⟨?_, B1.out.trans (B3.out.mono B1.out.size)⟩
        congr 2
        cases hc : q.all (fun j => (ldL L m j).any (endAt L))
        · rfl
        · have := List.all_eq_true.1 hc j (List.mem_of_getElem? HJ.out)
          rw [HX.out] at this
          cases this
      · go_wp2_with fail
        go_roundw
        case rel => exact ⟨k + 1, by omega, by go_num, by rw [all_take HJ.out, HAll.out, HX.out]; rfl, B3.out⟩
        case measure => simp [intOf]; omega
    · have hkn : k = q.length := by omega
      subst hkn
      clear hlt hb
      go_wp2_with fail
      go_ret
      rw [List.take_length] at hall
      exact ⟨congrArg (fun b => Ending.returned (Value.bool b)) hall.symm, B1.out.trans (HB.out.mono B1.out.size)⟩
end Go.Proofs.Ytegehfcnclpdeaa
