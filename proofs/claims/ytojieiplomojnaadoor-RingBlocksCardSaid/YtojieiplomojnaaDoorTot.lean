/-
  The walks of Total and Owner of package ring and of the reference. Condition: 'Tabs' where package ring reads its tables.
-/
import Derived.Test.YtojieiplomojnaaDoorVbr
import Derived.Test.YtojieiplomojnaaDoorSpl
namespace Go.Proofs.YtojieiplomojnaaDoor
open Go.RowKit
set_option linter.unusedVariables false

theorem firstE_zero {l : List Blk} (h : firstE l = 0) : AllOk l l.length := by
  induction l with
  | nil => intro j x hj; simp at hj
  | cons y r ih =>
    rw [firstE] at h
    split at h
    · intro j x hj hx
      cases j with
      | zero => simp at hx; subst hx; assumption
      | succ j => exact ih h j x (by simpa using hj) (by simpa using hx)
    · contradiction
theorem blocks_zero {l : List Blk} (h : blocksE l = 0) : l.length ≤ 8 ∧ AllOk l l.length := by
  unfold blocksE at h
  split at h
  · cases h
  · split at h
    · exact ⟨by omega, firstE_zero ‹_›⟩
    · contradiction
theorem blkE_zero {x : Blk} (h : blkE x = 0) : 0 ≤ x.f ∧ x.f ≤ x.t ∧ x.t ≤ 99999 := by
  unfold blkE at h
  split at h
  · split at h
    · rename_i hh
      simp only [Bool.and_eq_true, decide_eq_true_eq] at hh
      exact ⟨hh.1.1, hh.1.2, hh.2⟩
    · cases h
  · cases h
def totK (l : List Blk) : Nat → Int
  | 0 => 0
  | k + 1 => totK l k + (match l[k]? with
    | some x => x.t - x.f + 1
    | none => 0)
theorem totK_le {l : List Blk} (h : AllOk l l.length) : ∀ k, k ≤ l.length → 0 ≤ totK l k ∧ totK l k ≤ 100000 * k
  | 0, _ => by simp [totK]
  | k + 1, hk => by
    have ih := totK_le h k (by omega)
    obtain ⟨x, hx⟩ : ∃ x, l[k]? = some x := ⟨_, List.getElem?_eq_getElem (by omega)⟩
    have := blkE_zero (h k _ (by omega) hx)
    have e : totK l (k + 1) = totK l k + (x.t - x.f + 1) := by simp only [totK, hx]
    rw [e]
    omega
def totV (l : List Blk) : Int := if blocksE l = 0 then totK l l.length else 0
set_option maxHeartbeats 400000 in
theorem Total_any (A : Option Addr) (c : Nat) (l : List Blk) (w : World) (hr : Rd w w.heap.size A (blks l)) (hsz : ∀ x ∈ l, x.s.size ≤ 9223372036854775807) (hn : l.length ≤ c) (hc : c ≤ 9223372036854775807) :
    Calls Tryd.prog 46 #[.slice A l.length c] w fun e w' => e = .returned (.tuple #[.int .i64 (totV l), .int .i64 (blocksE l)]) ∧ Below w.heap.size w w' := by
  have HR := Lib.hid hr
  have HV := Lib.hid (ValidateBlocks_any A c l w hr hsz hn hc)
  clear hr
  unfold totV
  by_cases h0 : blocksE l = 0
  · obtain ⟨h8, hall⟩ := blocks_zero h0
    have HA := Lib.hid hall
    rw [if_pos h0]
    rw [h0] at HV ⊢
    clear h0 hall
    go_enter Tryd.func46, Tryd.ntmps46
    go_wp2_with fail
    refine HV.out.mono ?_
    rintro e w1 ⟨rfl, hb⟩
    have B1 := Lib.hid hb
    clear hb
    go_wp2_with fail
    go_loopw [5, 15] (fun v i wr => ∃ k : Nat, k ≤ l.length ∧ i = .int .i64 k ∧ v = .int .i64 (totK l k) ∧ Below w.heap.size w wr) (fun _ i _ => l.length - (intOf i).toNat)
    case atStart => exact ⟨0, by omega, rfl, rfl, B1.out⟩
    case round =>
      obtain ⟨k, hk, rfl, rfl, hb⟩ := hrel
      have B := Lib.hid hb
      clear hb
      by_cases hlt : k < l.length
      · obtain ⟨b, o, x, rfl, hx, c0, c1, c2⟩ := (HR.out.below B.out (Nat.le_refl _)).blk k hlt
        obtain ⟨x1, x2, x3⟩ := blkE_zero (HA.out k x hlt hx.out)
        obtain ⟨m1, m2⟩ := totK_le HA.out k hk
        have HS := Lib.hid (show totK l (k + 1) = totK l k + (x.t - x.f + 1) by simp only [totK, hx.out])
        obtain ⟨T, hT⟩ : ∃ T, totK l k = T := ⟨_, rfl⟩
        have HN := Lib.hid hT
        rw [hT] at m1 m2
        rw [hT]
        have m3 : T ≤ 800000 := by omega
        clear hT m2
        go_wp2_with fail
        go_roundw
        case rel => exact ⟨k + 1, by omega, by go_num, by rw [HS.out, HN.out], B.out.alloc B.out.size _⟩
        case measure => simp [intOf]; omega
      · have hks : k = l.length := by omega
        have HK := Lib.hid hks
        clear hks
        go_wp2_with fail
        go_ret2
        exact ⟨by rw [HK.out]; rfl, B.out⟩
  · rw [if_neg h0]
    generalize blocksE l = E at *
    have hE : (E == 0) = false := by simpa using h0
    have hE' : (E != 0) = true := by simpa using h0
    clear h0
    go_enter Tryd.func46, Tryd.ntmps46
    go_wp2_with fail
    refine HV.out.mono ?_
    rintro e w1 ⟨rfl, hb⟩
    go_wp2_with fail
    go_ret2
    exact ⟨rfl, hb⟩
set_option maxHeartbeats 400000 in
theorem rTotal_any (A : Option Addr) (c : Nat) (l : List Blk) (w : World) (hr : Rd w w.heap.size A (blks l)) (hsz : ∀ x ∈ l, x.s.size ≤ 9223372036854775807) (hn : l.length ≤ c) (hc : c ≤ 9223372036854775807) :
    Calls Tryd.prog 47 #[.slice A l.length c] w fun e w' => e = .returned (.tuple #[.int .i64 (totV l), .int .i64 (blocksE l)]) ∧ ∃ n, w' = w.drewN n := by
  have HR := Lib.hid hr
  have HV := Lib.hid (rValidateBlocks_any A c l w hr hsz hn hc)
  clear hr
  unfold totV
  by_cases h0 : blocksE l = 0
  · obtain ⟨h8, hall⟩ := blocks_zero h0
    have HA := Lib.hid hall
    rw [if_pos h0]
    rw [h0] at HV ⊢
    clear h0 hall
    go_enter Tryd.func47, Tryd.ntmps47
    go_wp2_with fail
    refine HV.out.mono ?_
    rintro e w1 ⟨rfl, m, rfl⟩
    go_wp2_with fail
    go_loopw [5, 6] (fun v i wr => ∃ k : Nat, k ≤ l.length ∧ i = .int .i64 k ∧ v = .int .i64 (totK l k) ∧ ∃ n, wr = w.drewN n) (fun _ i _ => l.length - (intOf i).toNat)
    case atStart => exact ⟨0, by omega, rfl, rfl, m, rfl⟩
    case round =>
      obtain ⟨k, hk, rfl, rfl, n, rfl⟩ := hrel
      by_cases hlt : k < l.length
      · obtain ⟨b, o, x, rfl, hx, c0, c1, c2⟩ := HR.out.blk k hlt
        obtain ⟨x1, x2, x3⟩ := blkE_zero (HA.out k x hlt hx.out)
        obtain ⟨m1, m2⟩ := totK_le HA.out k hk
        have HS := Lib.hid (show totK l (k + 1) = totK l k + (x.t - x.f + 1) by simp only [totK, hx.out])
        obtain ⟨T, hT⟩ : ∃ T, totK l k = T := ⟨_, rfl⟩
        have HN := Lib.hid hT
        rw [hT] at m1 m2
        rw [hT]
        have m3 : T ≤ 800000 := by omega
        clear hT m2
        have ew1 : IntKind.i64.wrap (x.t - x.f) = x.t - x.f := IntWalk.i64_in _ (by omega)
        have ew2 : IntKind.i64.wrap (x.t - x.f + 1) = x.t - x.f + 1 := IntWalk.i64_in _ (by omega)
        have ew3 : IntKind.i64.wrap (T + (x.t - x.f + 1)) = T + (x.t - x.f + 1) := IntWalk.i64_in _ (by omega)
        go_wp2_with fail
        go_quiet (fail)
        clear ew1 ew2 ew3
        go_wp2
        go_roundw
        case rel => exact ⟨k + 1, by omega, by go_num, by rw [HS.out, HN.out], _, rfl⟩
        case measure => simp [intOf]; omega
      · have hks : k = l.length := by omega
        have HK := Lib.hid hks
        clear hks
        go_wp2_with fail
        go_ret2
        exact ⟨by rw [HK.out]; rfl, _, rfl⟩
  · rw [if_neg h0]
    generalize blocksE l = E at *
    have hE : (E == 0) = false := by simpa using h0
    have hE' : (E != 0) = true := by simpa using h0
    clear h0
    go_enter Tryd.func47, Tryd.ntmps47
    go_wp2_with fail
    refine HV.out.mono ?_
    rintro e w1 ⟨rfl, m, rfl⟩
    go_wp2_with fail
    go_ret2
    exact ⟨rfl, m, rfl⟩

/-! ### Owner -/
def inB (s : ByteArray) (x : Blk) : Bool := decide (x.s = headB s) && (decide (x.f ≤ numB s) && decide (numB s ≤ x.t))
def ownE (l : List Blk) (s : ByteArray) : Int := if blocksE l = 0 then validE s else blocksE l
def ownO (l : List Blk) (s : ByteArray) : Option Nat := if blocksE l = 0 ∧ validE s = 0 then l.findIdx? (inB s) else none
def ownI (l : List Blk) (s : ByteArray) : Int := match ownO l s with
  | some k => (k : Int)
  | none => 0
def ownB (l : List Blk) (s : ByteArray) : Bool := (ownO l s).isSome
def NoneIn (l : List Blk) (s : ByteArray) (k : Nat) : Prop := ∀ j x, j < k → l[j]? = some x → inB s x = false
theorem NoneIn.next {l : List Blk} {s : ByteArray} {k : Nat} {x : Blk} (h : NoneIn l s k) (hx : l[k]? = some x) (h0 : inB s x = false) : NoneIn l s (k + 1) := by
  intro j y hj hy
  rcases Nat.lt_or_ge j k with h1 | h1
  · exact h j y h1 hy
  · obtain rfl : j = k := by omega
    rw [hx] at hy
    cases hy
    exact h0
theorem own_yes {l : List Blk} {s : ByteArray} {k : Nat} {x : Blk} (hb : blocksE l = 0) (hv : validE s = 0) (h : NoneIn l s k) (hx : l[k]? = some x) (h1 : inB s x = true) : ownI l s = k ∧ ownB l s = true := by
  obtain ⟨hk, he⟩ := List.getElem?_eq_some_iff.1 hx
  have e : l.findIdx? (inB s) = some k := by
    rw [List.findIdx?_eq_some_iff_getElem]
    refine ⟨hk, by rw [he]; exact h1, fun j hj => ?_⟩
    have := h j _ hj (List.getElem?_eq_getElem (by omega))
    simpa using this
  unfold ownI ownB ownO
  rw [if_pos ⟨hb, hv⟩, e]
  exact ⟨rfl, rfl⟩
theorem own_no {l : List Blk} {s : ByteArray} (hb : blocksE l = 0) (hv : validE s = 0) (h : NoneIn l s l.length) : ownI l s = 0 ∧ ownB l s = false := by
  have e : l.findIdx? (inB s) = none := by
    rw [List.findIdx?_eq_none_iff]
    intro x hx
    obtain ⟨j, hj, he⟩ := List.getElem_of_mem hx
    exact h j x hj (by rw [← he]; exact List.getElem?_eq_getElem hj)
  unfold ownI ownB ownO
  rw [if_pos ⟨hb, hv⟩, e]
  exact ⟨rfl, rfl⟩
theorem own_bad {l : List Blk} {s : ByteArray} (h : ¬ (blocksE l = 0 ∧ validE s = 0)) : ownI l s = 0 ∧ ownB l s = false := by
  unfold ownI ownB ownO
  rw [if_neg h]
  exact ⟨rfl, rfl⟩
theorem in_cases (H : ByteArray) (N : Int) (x : Blk) : ((x.s.toList == H.toList) = false ∧ (decide (x.s = H) && (decide (x.f ≤ N) && decide (N ≤ x.t))) = false) ∨ ((x.s.toList == H.toList) = true ∧ decide (x.f ≤ N) = false ∧ (decide (x.s = H) && (decide (x.f ≤ N) && decide (N ≤ x.t))) = false) ∨
    ((x.s.toList == H.toList) = true ∧ decide (x.f ≤ N) = true ∧ decide (N ≤ x.t) = false ∧ (decide (x.s = H) && (decide (x.f ≤ N) && decide (N ≤ x.t))) = false) ∨ ((x.s.toList == H.toList) = true ∧ decide (x.f ≤ N) = true ∧ decide (N ≤ x.t) = true ∧ (decide (x.s = H) && (decide (x.f ≤ N) && decide (N ≤ x.t))) = true) := by
  by_cases hs : x.s = H
  · subst hs
    cases h1 : decide (x.f ≤ N) <;> cases h2 : decide (N ≤ x.t) <;> simp
  · have : ¬ x.s.toList = H.toList := fun h => hs (toList_inj h)
    simp [hs, this]
end Go.Proofs.YtojieiplomojnaaDoor
