/-
  Days: which are valid, and sums over them: the walks. Condition: the list can be read.
-/
import Derived.Test.YtegehfcnclpdeabDoorCc7
import Derived.Test.YtegehfcnclpdeabDoorLayC
import Derived.Deep.RegionHeld3
namespace Go.Proofs.YtegehfcnclpdeabDoor
open Go.RowKit
set_option linter.unusedVariables false

def dvF : List C3 → Int
  | [] => 0
  | q :: r => if cpE q.m q.c q.a = 0 then dvF r else cpE q.m q.c q.a
def dvE (L : List C3) : Int := if 8 < L.length then 3 else dvF L
def okD (L : List C3) : Prop := ∀ q ∈ L, cpE q.m q.c q.a = 0
theorem dvF_hit : ∀ {L : List C3} {k : Nat} {q : C3}, okD (L.take k) → L[k]? = some q → cpE q.m q.c q.a ≠ 0 → dvF L = cpE q.m q.c q.a
  | [], _, _, _, h, _ => by simp at h
  | x :: r, 0, q, _, h, hq => by
    simp at h
    subst h
    exact if_neg hq
  | x :: r, k + 1, q, ho, h, hq => by
    rw [List.take_succ_cons] at ho
    unfold dvF
    rw [if_pos (ho x (by simp))]
    exact dvF_hit (k := k) (fun y hy => ho y (List.mem_cons_of_mem _ hy)) (by simpa using h) hq
theorem dvF_ok : ∀ {L : List C3}, okD L → dvF L = 0
  | [], _ => rfl
  | x :: r, h => by
    unfold dvF
    rw [if_pos (h x (by simp))]
    exact dvF_ok fun y hy => h y (by simp [hy])
theorem okD_of : ∀ {L : List C3}, dvF L = 0 → okD L
  | [], _ => fun q hq => by simp at hq
  | x :: r, h => by
    unfold dvF at h
    split at h
    · rename_i h1
      intro q hq
      rcases List.mem_cons.1 hq with rfl | hq
      · exact h1
      · exact okD_of h q hq
    · rename_i h1
      exact absurd h h1
theorem okD_next {L : List C3} {k : Nat} {q : C3} (h : okD (L.take k)) (hk : L[k]? = some q) (hq : cpE q.m q.c q.a = 0) : okD (L.take (k + 1)) := by
  intro x hx
  rw [List.take_add_one, hk] at hx
  rcases List.mem_append.1 hx with h1 | h1
  · exact h x h1
  · simp at h1
    rw [h1]; exact hq
theorem cp_ok {m c a : Int} (h : cpE m c a = 0) : (0 ≤ m ∧ m ≤ 60) ∧ (0 ≤ c ∧ c ≤ 60) ∧ (0 ≤ a ∧ a ≤ 60) ∧ a ≤ m ∧ a ≤ c := by
  unfold cpE at h
  split at h
  · rename_i hv
    obtain ⟨h1, h2, h3⟩ := allB3 hv
    split at h
    · rename_i hf
      have hf2 : a ≤ m ∧ a ≤ c := by unfold fitB at hf; simpa using hf
      exact ⟨h1, h2, h3, hf2.1, hf2.2⟩
    · cases h
  · cases h
theorem Rd.ct {w : World} {B : Nat} {A : Option Addr} {L : List C3} (h : Rd w B A (L.flatMap C3.cells)) (k : Nat) (hk : k < L.length) :
    ∃ b o q, A = some ⟨b, o, none⟩ ∧ b < B ∧ Hid (L[k]? = some q) ∧ w.cell? ⟨b, o + k * 3, none⟩ = some (.int .i64 q.m) ∧ w.cell? ⟨b, o + k * 3 + 1, none⟩ = some (.int .i64 q.c) ∧ w.cell? ⟨b, o + k * 3 + 2, none⟩ = some (.int .i64 q.a) := by
  obtain ⟨b, o, p, ha, hb, hx, hc⟩ := h.rec c3Len (by decide) k hk
  exact ⟨b, o, p, ha, hb, hx, hc 0 _ rfl, hc 1 _ rfl, hc 2 _ rfl⟩
theorem len8 (n : Nat) : decide ((8 : Int) < (n : Int)) = decide (8 < n) := by rw [decide_eq_decide]; omega
set_option maxRecDepth 8000 in
set_option maxHeartbeats 2000000 in
theorem ValidateDays_any (A : Option Addr) (cp : Nat) (L : List C3) (hl : L.length ≤ 9223372036854775807) (w : World) (hr : Rd w w.heap.size A (L.flatMap C3.cells)) :
    Calls Tryd.prog 11 #[.slice A L.length cp] w fun e w' => e = .returned (.int .i64 (dvE L)) ∧ Below w.heap.size w w' := by
  have HR := Lib.hid hr
  clear hr
  have h8 := len8 L.length
  by_cases hl8 : 8 < L.length
  · have HE := Lib.hid (show dvE L = 3 from if_pos hl8)
    rw [decide_eq_true hl8] at h8
    have h8' : decide (8 < L.length) = true := decide_eq_true hl8
    clear hl8
    go_enter Tryd.func11, Tryd.ntmps11
    go_wp2_with fail
    go_ret
    exact ⟨by rw [HE.out]; rfl, Below.refl _ _⟩
  · have HE := Lib.hid (show dvE L = dvF L from if_neg hl8)
    rw [decide_eq_false hl8] at h8
    have h8' : decide (8 < L.length) = false := decide_eq_false hl8
    have h8l : L.length ≤ 8 := by omega
    clear hl8
    go_enter Tryd.func11, Tryd.ntmps11
    go_wp2_with fail
    go_loopw [10] (fun i wr => ∃ k : Nat, k ≤ L.length ∧ i = .int .i64 k ∧ okD (L.take k) ∧ Below w.heap.size w wr) (fun i _ => L.length - (intOf i).toNat)
    case atStart => exact ⟨0, by omega, rfl, fun q hq => by simp at hq, Below.refl _ _⟩
    case round =>
      obtain ⟨k, hk, rfl, ho, hb⟩ := hrel
      have HO := Lib.hid ho
      have B1 := Lib.hid hb
      by_cases hlt : k < L.length
      · obtain ⟨b, o, q, rfl, hbb, hq, c0, c1, c2⟩ := (HR.out.below hb (Nat.le_refl _)).ct k hlt
        have HHit := Lib.hid (fun h => dvF_hit HO.out hq.out h)
        have HNx := Lib.hid (fun h => okD_next HO.out hq.out h)
        obtain ⟨m, c, a⟩ := q
        simp only at c0 c1 c2 HHit HNx
        have b0 : (0 : Int) ≤ (k : Int) := by omega
        have b1 : (k : Int) < (L.length : Int) := by omega
        have hcp : cpE m c a = if allB [m, c, a] = true then (if fitB m c a = true then 0 else 8) else 1 := rfl
        obtain ⟨X, hX⟩ : ∃ X, wr.alloc (.cells #[.int .i64 m, .int .i64 c, .int .i64 a] 42) = X := ⟨_, rfl⟩
        have hgX := heap_alloc_new wr (.cells #[.int .i64 m, .int .i64 c, .int .i64 a] 42)
        have hbX := (Below.refl wr.heap.size wr).alloc (Nat.le_refl _) (.cells #[.int .i64 m, .int .i64 c, .int .i64 a] 42)
        have hsX : X.heap.size = wr.heap.size + 1 := by rw [← hX]; simp
        rw [hX] at hgX hbX
        have HN := nums3 m c a X
        rw [hsX] at HN
        have HNN := Lib.hid HN
        have HX := Lib.hid hX
        have x0 := (blk_cell (j := 0) hgX).trans (show _ = some (.int .i64 m) from rfl)
        have x1 := (blk_cell (j := 1) hgX).trans (show _ = some (.int .i64 c) from rfl)
        have x2 := (blk_cell (j := 2) hgX).trans (show _ = some (.int .i64 a) from rfl)
        have BX := Lib.hid (hb.trans (hbX.mono hb.size))
        clear ho hb HN hX hgX hbX hq hbb
        cases hv : allB [m, c, a]
        · rw [hv] at HNN hcp
          have hcp := hcp.trans (if_neg (by decide))
          have HV := Lib.hid (show dvF L = 1 from (HHit.out (by rw [hcp]; decide)).trans hcp)
          clear hv hcp hlt
          go_wp2_with fail
          rw [HX.out]
          refine HNN.out.mono ?_
          rintro e w3 ⟨rfl, hb⟩
          have B3 := Lib.hid (BX.out.trans (hb.mono (by have := BX.out.size; omega)))
          clear hb x0 x1 x2
          go_wp2_with fail
          go_ret
          exact ⟨by rw [HE.out, HV.out]; rfl, B3.out⟩
        · rw [hv] at HNN hcp
          have hcp := hcp.trans (if_pos rfl)
          have hf : fitB m c a = (decide (a ≤ m) && decide (a ≤ c)) := rfl
          cases e1 : decide (m < a)
          · cases e2 : decide (c < a)
            · have k1 := of_decide_eq_false e1
              have k2 := of_decide_eq_false e2
              have HV := Lib.hid (HNx.out (by rw [hcp, hf, decide_eq_true (show a ≤ m by omega), decide_eq_true (show a ≤ c by omega)]; rfl))
              clear hv hcp hf k1 k2
              go_wp2_with fail
              rw [HX.out]
              refine HNN.out.mono ?_
              rintro e w3 ⟨rfl, hb⟩
              have B3 := Lib.hid (BX.out.trans (hb.mono (by have := BX.out.size; omega)))
              have y0 := cell_keep x0 hb (Nat.lt_succ_self _)
              have y1 := cell_keep x1 hb (Nat.lt_succ_self _)
              have y2 := cell_keep x2 hb (Nat.lt_succ_self _)
              clear hb x0 x1 x2
              go_wp2_with fail
              go_roundw
              case rel => exact ⟨k + 1, by omega, by go_num, HV.out, B3.out⟩
              case measure => simp [intOf]; omega
            · have k2 := of_decide_eq_true e2
              have HV := Lib.hid (show dvF L = 8 from by
                have hz : cpE m c a = 8 := by rw [hcp, hf, decide_eq_false (show ¬ a ≤ c by omega), Bool.and_false]; rfl
                exact (HHit.out (by rw [hz]; decide)).trans hz)
              clear hv hcp hf k2 hlt
              go_wp2_with fail
              rw [HX.out]
              refine HNN.out.mono ?_
              rintro e w3 ⟨rfl, hb⟩
              have B3 := Lib.hid (BX.out.trans (hb.mono (by have := BX.out.size; omega)))
              have y0 := cell_keep x0 hb (Nat.lt_succ_self _)
              have y1 := cell_keep x1 hb (Nat.lt_succ_self _)
              have y2 := cell_keep x2 hb (Nat.lt_succ_self _)
              clear hb x0 x1 x2
              go_wp2_with fail
              go_ret
              exact ⟨by rw [HE.out, HV.out]; rfl, B3.out⟩
          · have k1 := of_decide_eq_true e1
            have HV := Lib.hid (show dvF L = 8 from by
              have hz : cpE m c a = 8 := by rw [hcp, hf, decide_eq_false (show ¬ a ≤ m by omega), Bool.false_and]; rfl
              exact (HHit.out (by rw [hz]; decide)).trans hz)
            clear hv hcp hf k1 hlt
            go_wp2_with fail
            rw [HX.out]
            refine HNN.out.mono ?_
            rintro e w3 ⟨rfl, hb⟩
            have B3 := Lib.hid (BX.out.trans (hb.mono (by have := BX.out.size; omega)))
            have y0 := cell_keep x0 hb (Nat.lt_succ_self _)
            have y1 := cell_keep x1 hb (Nat.lt_succ_self _)
            have y2 := cell_keep x2 hb (Nat.lt_succ_self _)
            clear hb x0 x1 x2
            go_wp2_with fail
            go_ret
            exact ⟨by rw [HE.out, HV.out]; rfl, B3.out⟩
      · have hkL : k = L.length := by omega
        have HV := Lib.hid (show dvF L = 0 from dvF_ok (by have := HO.out; rwa [hkL, List.take_length] at this))
        subst hkL
        clear ho hb hlt
        go_wp2_with fail
        go_ret
        exact ⟨by rw [HE.out, HV.out]; rfl, B1.out⟩
end Go.Proofs.YtegehfcnclpdeabDoor
