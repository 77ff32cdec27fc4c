/-
  The walks of ValidateBlocks of package ring and of the reference. No condition.
-/
import Derived.Test.YtojieiplomojnaaDoorVbl
import Derived.Outline
namespace Go.Proofs.YtojieiplomojnaaDoor
open Go.RowKit
set_option linter.unusedVariables false

def firstE : List Blk → Int
  | [] => 0
  | x :: r => if blkE x = 0 then firstE r else blkE x
def twiceB (l : List Blk) : Bool := (List.range l.length).any fun i => (List.range i).any fun k => match l[i]?, l[k]? with
  | some x, some y => meetB x y
  | _, _ => false
def blocksE (l : List Blk) : Int := if 8 < l.length then 3 else if firstE l = 0 then (if twiceB l then 5 else 0) else firstE l
def AllOk (l : List Blk) (k : Nat) : Prop := ∀ j x, j < k → l[j]? = some x → blkE x = 0
def NoTwice (l : List Blk) (n : Nat) : Prop := ∀ i k x y, i < n → k < i → l[i]? = some x → l[k]? = some y → meetB x y = false
theorem AllOk.next {l : List Blk} {k : Nat} {x : Blk} (h : AllOk l k) (hx : l[k]? = some x) (h0 : blkE x = 0) : AllOk l (k + 1) := by
  intro j y hj hy
  rcases Nat.lt_or_ge j k with h1 | h1
  · exact h j y h1 hy
  · obtain rfl : j = k := by omega
    rw [hx] at hy
    cases hy
    exact h0
theorem firstE_ok {l : List Blk} (h : AllOk l l.length) : firstE l = 0 := by
  induction l with
  | nil => rfl
  | cons x r ih =>
    rw [firstE, if_pos (h 0 x (by simp) rfl)]
    exact ih fun j y hj hy => h (j + 1) y (by simp; omega) (by simpa using hy)
theorem firstE_bad {l : List Blk} {k : Nat} {x : Blk} (h : AllOk l k) (hx : l[k]? = some x) (h0 : blkE x ≠ 0) : firstE l = blkE x := by
  induction l generalizing k with
  | nil => simp at hx
  | cons y r ih =>
    cases k with
    | zero =>
      simp at hx
      subst hx
      rw [firstE, if_neg h0]
    | succ k =>
      rw [firstE, if_pos (h 0 y (by omega) rfl)]
      exact ih (k := k) (fun j z hj hz => h (j + 1) z (by omega) (by simpa using hz)) (by simpa using hx)
theorem twice_no {l : List Blk} (h : NoTwice l l.length) : twiceB l = false := by
  unfold twiceB
  rw [List.any_eq_false]
  intro i hi
  have hi := List.mem_range.1 hi
  rw [Bool.not_eq_true, List.any_eq_false]
  intro k hk
  have hk := List.mem_range.1 hk
  have e1 : l[i]? = some l[i] := List.getElem?_eq_getElem hi
  have e2 : l[k]? = some (l[k]'(by omega)) := List.getElem?_eq_getElem (by omega)
  rw [e1, e2]
  simp only [Bool.not_eq_true]
  exact h i k _ _ hi hk e1 e2
theorem twice_yes {l : List Blk} {i k : Nat} {x y : Blk} (hk : k < i) (hx : l[i]? = some x) (hy : l[k]? = some y) (h : meetB x y = true) : twiceB l = true := by
  unfold twiceB
  rw [List.any_eq_true]
  refine ⟨i, List.mem_range.2 (List.getElem?_eq_some_iff.1 hx).1, ?_⟩
  rw [List.any_eq_true]
  refine ⟨k, List.mem_range.2 hk, ?_⟩
  rw [hx, hy]
  exact h
theorem blks_length (l : List Blk) : (blks l).length = l.length * 3 := by
  induction l with
  | nil => rfl
  | cons x r ih => simp [blks] at *; omega
theorem blks_at (l : List Blk) (k : Nat) (x : Blk) (h : l[k]? = some x) : (blks l)[k * 3]? = some (.string x.s) ∧ (blks l)[k * 3 + 1]? = some (.int .i64 x.f) ∧ (blks l)[k * 3 + 2]? = some (.int .i64 x.t) := by
  induction l generalizing k with
  | nil => simp at h
  | cons y r ih =>
    cases k with
    | zero =>
      simp at h
      subst h
      simp [blks]
    | succ k =>
      have := ih k (by simpa using h)
      have e : (k + 1) * 3 = k * 3 + 3 := by omega
      rw [e]
      simpa [blks] using this
theorem Rd.blk {w : World} {B : Nat} {A : Option Addr} {l : List Blk} (h : Rd w B A (blks l)) (k : Nat) (hk : k < l.length) :
    ∃ b o x, A = some ⟨b, o, none⟩ ∧ Hid (l[k]? = some x) ∧ w.cell? ⟨b, o + k * 3, none⟩ = some (.string x.s) ∧ w.cell? ⟨b, o + k * 3 + 1, none⟩ = some (.int .i64 x.f) ∧ w.cell? ⟨b, o + k * 3 + 2, none⟩ = some (.int .i64 x.t) := by
  have hx : l[k]? = some l[k] := List.getElem?_eq_getElem hk
  obtain ⟨e0, e1, e2⟩ := blks_at l k _ hx
  obtain ⟨b, o, ha, _, hc⟩ := h.at_ e0
  rcases h with h0 | ⟨b', o', ha', _, hc'⟩
  · rw [h0] at e0; simp at e0
  · rw [ha] at ha'
    cases ha'
    exact ⟨b, o, _, ha, hx, hc' _ _ e0, hc' _ _ e1, hc' _ _ e2⟩
theorem mem_size {l : List Blk} {k : Nat} {x : Blk} (h : ∀ x ∈ l, x.s.size ≤ 9223372036854775807) (hx : l[k]? = some x) : x.s.size ≤ 9223372036854775807 := h x (List.mem_of_getElem? hx)
set_option maxHeartbeats 4000000 in
theorem ValidateBlocks_any (A : Option Addr) (c : Nat) (l : List Blk) (w : World) (hr : Rd w w.heap.size A (blks l)) (hsz : ∀ x ∈ l, x.s.size ≤ 9223372036854775807) (hn : l.length ≤ c) (hc : c ≤ 9223372036854775807) :
    Calls Tryd.prog 50 #[.slice A l.length c] w fun e w' => e = .returned (.int .i64 (blocksE l)) ∧ Below w.heap.size w w' := by
  have HR := Lib.hid hr
  have HZ := Lib.hid hsz
  clear hr hsz
  by_cases h8 : 8 < l.length
  · have hE : blocksE l = 3 := if_pos h8
    rw [hE]
    have h8' : (8 : Int) < (l.length : Int) := by omega
    clear hE h8
    go_enter Tryd.func50, Tryd.ntmps50
    go_wp2
    go_ret
    exact ⟨rfl, Below.refl _ _⟩
  · have H8 := Lib.hid h8
    have h8' : ¬ (8 : Int) < (l.length : Int) := by omega
    go_enter Tryd.func50, Tryd.ntmps50
    go_wp2
    clear h8'
    go_loopw [15] (fun i wr => ∃ k : Nat, k ≤ l.length ∧ i = .int .i64 k ∧ AllOk l k ∧ Below w.heap.size w wr) (fun i _ => l.length - (intOf i).toNat)
    case atStart => exact ⟨0, by omega, rfl, fun j x hj => by omega, Below.refl _ _⟩
    case round =>
      obtain ⟨k, hk, rfl, hall, hb⟩ := hrel
      have HA := Lib.hid hall
      have B := Lib.hid hb
      clear hall hb
      by_cases hlt : k < l.length
      · obtain ⟨b, o, x, rfl, hx, c0, c1, c2⟩ := (HR.out.below B.out (Nat.le_refl _)).blk k hlt
        have HV := Lib.hid (fun w => validateBlock_any x w (mem_size HZ.out hx.out))
        unfold Blk.v at HV
        by_cases h0 : blkE x = 0
        · have H0 := Lib.hid h0
          rw [h0] at HV
          clear h0
          go_wp2_with fail
          refine (HV.out _).mono ?_
          rintro e w1 ⟨rfl, hb⟩
          have B1 := Lib.hid (B.out.trans (((Below.refl wr.heap.size wr).alloc (Nat.le_refl _) (.cells #[.string x.s, .int .i64 x.f, .int .i64 x.t] 84)).trans (hb.mono (by simp)) |>.mono B.out.size))
          clear hb
          go_wp2_with fail
          go_roundw
          case rel => exact ⟨k + 1, by omega, by go_num, HA.out.next hx.out H0.out, B1.out⟩
          case measure => simp [intOf]; omega
        · have H0 := Lib.hid h0
          obtain ⟨E, hE⟩ : ∃ E, blkE x = E := ⟨_, rfl⟩
          rw [hE] at HV h0
          have HE := Lib.hid hE
          have hE1 : (E != 0) = true := by simpa using h0
          clear h0 hE
          go_wp2_with fail
          refine (HV.out _).mono ?_
          rintro e w1 ⟨rfl, hb⟩
          have B1 := Lib.hid (B.out.trans (((Below.refl wr.heap.size wr).alloc (Nat.le_refl _) (.cells #[.string x.s, .int .i64 x.f, .int .i64 x.t] 84)).trans (hb.mono (by simp)) |>.mono B.out.size))
          clear hb
          go_wp2_with fail
          go_ret
          exact ⟨by rw [blocksE, if_neg H8.out, firstE_bad HA.out hx.out H0.out, if_neg H0.out, HE.out]; rfl, B1.out⟩
      · have hks : k = l.length := by omega
        have HK := Lib.hid hks
        obtain ⟨wa, rfl⟩ : ∃ wa, wr = wa := ⟨_, rfl⟩
        have HF := Lib.hid (firstE_ok (show AllOk l l.length by rw [← hks]; exact HA.out))
        clear hks
        go_wp2_with fail
        go_loopw [27] (fun i wr => ∃ k : Nat, k ≤ l.length ∧ i = .int .i64 k ∧ NoTwice l k ∧ Below w.heap.size w wr) (fun i _ => l.length - (intOf i).toNat)
        case atStart => exact ⟨0, by omega, rfl, fun i k x y hi => by omega, B.out⟩
        case round =>
          obtain ⟨i, hi, rfl, hno, hb⟩ := hrel
          have HN := Lib.hid hno
          have B2 := Lib.hid hb
          clear hno hb
          by_cases hlt2 : i < l.length
          · obtain ⟨wo, rfl⟩ : ∃ wo : World, wo = wr := ⟨_, rfl⟩
            obtain ⟨b, o, x, rfl, hx, c0, c1, c2⟩ := (HR.out.below B2.out (Nat.le_refl _)).blk i hlt2
            have hic : i ≤ c := by omega
            obtain ⟨W0, hW0⟩ : ∃ W0, wo.alloc (.cells #[.string x.s, .int .i64 x.f, .int .i64 x.t] 84) = W0 := ⟨_, rfl⟩
            have d0 : W0.cell? ⟨wo.heap.size, 0, none⟩ = some (.string x.s) := by rw [← hW0]; simp
            have d1 : W0.cell? ⟨wo.heap.size, 1, none⟩ = some (.int .i64 x.f) := by rw [← hW0]; simp
            have d2 : W0.cell? ⟨wo.heap.size, 2, none⟩ = some (.int .i64 x.t) := by rw [← hW0]; simp
            have B3 := Lib.hid (show Below w.heap.size w W0 by rw [← hW0]; exact B2.out.alloc B2.out.size _)
            have S3 := Lib.hid (show W0.heap.size = wo.heap.size + 1 by rw [← hW0]; simp)
            have D := Lib.hid (And.intro d0 (And.intro d1 d2))
            have SW := Lib.hid B2.out.size
            clear d0 d1 d2
            go_wp2_with fail
            clear hW0 c0 c1 c2
            go_loopw [36] (fun j wr => ∃ k : Nat, k ≤ i ∧ j = .int .i64 k ∧ (∀ k' y, k' < k → l[k']? = some y → meetB x y = false) ∧ Below (wo.heap.size + 1) W0 wr) (fun j _ => i - (intOf j).toNat)
            case atStart => exact ⟨0, by omega, rfl, fun k' y h => by omega, Below.refl _ _⟩
            case round =>
              obtain ⟨k', hk', rfl, hnm, hb⟩ := hrel
              have HM := Lib.hid hnm
              have B4 := Lib.hid hb
              have B5 := Lib.hid (B3.out.trans (hb.mono (by have := SW.out; omega)))
              have e0 := (hb.cell (p := ⟨wo.heap.size, 0, none⟩) (by simp)).trans D.out.1
              have e1 := (hb.cell (p := ⟨wo.heap.size, 1, none⟩) (by simp)).trans D.out.2.1
              have e2 := (hb.cell (p := ⟨wo.heap.size, 2, none⟩) (by simp)).trans D.out.2.2
              have S5 := hb.size
              rw [S3.out] at S5
              have S6 : wo.heap.size < wr.heap.size := by omega
              clear hnm hb
              by_cases hlt3 : k' < i
              · obtain ⟨b', o', y, hbo, hy, f0, f1, f2⟩ := (HR.out.below B5.out (Nat.le_refl _)).blk k' (by omega)
                cases hbo
                have HV := Lib.hid (fun w => meet_any x y w)
                unfold Blk.v at HV
                cases hm : meetB x y
                · rw [hm] at HV
                  have HMM := Lib.hid hm
                  clear hm
                  go_wp2_with fail
                  refine (HV.out _).mono ?_
                  rintro e w1 ⟨rfl, hb⟩
                  have B6 := Lib.hid (B4.out.trans (((Below.refl wr.heap.size wr).alloc (Nat.le_refl _) (.cells #[.string y.s, .int .i64 y.f, .int .i64 y.t] 84)).trans (hb.mono (by simp)) |>.mono S5))
                  clear hb
                  go_wp2_with fail
                  go_roundw
                  case rel => exact ⟨k' + 1, by omega, by go_num, fun k2 z h2 hz => by
                    rcases Nat.lt_or_ge k2 k' with h3 | h3
                    · exact HM.out k2 z h3 hz
                    · obtain rfl : k2 = k' := by omega
                      rw [hy.out] at hz
                      cases hz
                      exact HMM.out, B6.out⟩
                  case measure => simp [intOf]; omega
                · rw [hm] at HV
                  have HMM := Lib.hid hm
                  clear hm
                  go_wp2_with fail
                  refine (HV.out _).mono ?_
                  rintro e w1 ⟨rfl, hb⟩
                  have B6 := Lib.hid (B5.out.trans (((Below.refl wr.heap.size wr).alloc (Nat.le_refl _) (.cells #[.string y.s, .int .i64 y.f, .int .i64 y.t] 84)).trans (hb.mono (by simp)) |>.mono B5.out.size))
                  clear hb
                  go_wp2_with fail
                  go_ret
                  exact ⟨by rw [blocksE, if_neg H8.out, if_pos HF.out, if_pos (twice_yes hlt3 hx.out hy.out HMM.out)]; rfl, B6.out⟩
              · have hki : k' = i := by omega
                have HKI := Lib.hid hki
                clear hki
                go_wp2_with fail
                go_roundw
                case rel => exact ⟨i + 1, by omega, by go_num, fun i' k2 u v h1 h2 hu hv => by
                  rcases Nat.lt_or_ge i' i with h3 | h3
                  · exact HN.out i' k2 u v h3 h2 hu hv
                  · obtain rfl : i' = i := by omega
                    rw [hx.out] at hu
                    cases hu
                    exact HM.out k2 v (by rw [HKI.out]; exact h2) hv, B5.out⟩
                case measure => simp [intOf]; omega
          · have hki : i = l.length := by omega
            have HKI := Lib.hid hki
            clear hki
            go_wp2_with fail
            go_ret
            exact ⟨by rw [blocksE, if_neg H8.out, if_pos HF.out, twice_no (by have := HN.out; rw [HKI.out] at this; exact this)]; rfl, B2.out⟩
end Go.Proofs.YtojieiplomojnaaDoor
