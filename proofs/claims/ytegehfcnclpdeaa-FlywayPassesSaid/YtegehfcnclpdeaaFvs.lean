/-
  The visits from all places: the walks of the functions that count, of chain.visits and chain.endChances. Condition: a chain of at most five places that can be read; the equations go well (SOK).
-/
import Derived.Test.YtegehfcnclpdeaaFwx
import Derived.Test.YtegehfcnclpdeaaFwq
import Derived.Laws.EntriesVeiled
namespace Go.Proofs.Ytegehfcnclpdeaa
open Go.RowKit
set_option linter.unusedVariables false

/-- The equations of the visits of places that count. -/
def visM (L : List (List Int)) (n : Nat) (cb : Nat → Bool) : Nat → Nat → Int := fun k p => if n < p then 0 else vF L n k (b2i (cb k)) p
def RatsPost (n : Nat) (F : Nat → Int) (w : World) (e : Ending) (w' : World) : Prop := ∃ A' c', e = .returned (.slice A' n c') ∧ Rd w' w'.heap.size A' (ints (rowF F (n * 2))) ∧ Below w.heap.size w w'
theorem eEqns : Elem Try.prog 95 96 (.slice none 0 0) 1 24 := ⟨Try.underlying95, by kernel_rfl, rfl, by decide, by decide⟩
/-- A chain that is valid, as it lies. -/
structure Chn (rs : List Rw) : Prop where
  n5 : rs.length ≤ 5
  len : ∀ r ∈ rs, r.l.length = rs.length
  ok : ∀ r ∈ rs, Okr r.l
def rowVs (n : Nat) (G C : Nat → Nat) (j : Nat) : List Value := (List.range j).map fun k => .slice (some ⟨G k, 0, none⟩) (n + 1) (C k)
theorem rowVs_len (n : Nat) (G C : Nat → Nat) (j : Nat) : (rowVs n G C j).length = j := by simp [rowVs]
theorem rowVs_snoc (n : Nat) (G C : Nat → Nat) (j g c : Nat) : rowVs n (fun k => if k = j then g else G k) (fun k => if k = j then c else C k) (j + 1) = rowVs n G C j ++ [.slice (some ⟨g, 0, none⟩) (n + 1) c] := by
  unfold rowVs
  rw [List.range_succ, List.map_append]
  congr 1
  · refine List.map_congr_left fun k hk => ?_
    have := List.mem_range.1 hk
    show Value.slice (some ⟨if k = j then g else G k, 0, none⟩) (n + 1) (if k = j then c else C k) = _
    rw [if_neg (by omega), if_neg (by omega)]
  · simp
/-- The first j equations lie, each in a block of its own. -/
def EqU (w : World) (s n : Nat) (M : Nat → Nat → Int) (v : Value) (j : Nat) : Prop :=
  ∃ G C : Nat → Nat, w.ownsRow s 96 1 v j (rowVs n G C j) ∧ ∀ k, k < j → w.heap[G k]? = some (.cells (ints (rowF (M k) (n + 1))).toArray 3 (0, 0))
theorem EqU.start (w : World) (s n : Nat) (M : Nat → Nat → Int) : EqU w s n M (.slice none 0 0) 0 := ⟨fun _ => 0, fun _ => 0, ⟨rfl, .inl ⟨rfl, rfl⟩⟩, fun k hk => by omega⟩
theorem EqU.up {w w' : World} {s n : Nat} {M : Nat → Nat → Int} {v : Value} {j : Nat} (h : EqU w s n M v j) (hb : Below w.heap.size w w') : EqU w' s n M v j := by
  obtain ⟨G, C, h1, h2⟩ := h
  exact ⟨G, C, own_below h1 hb, fun k hk => (hb.block _ (lt_of_block' (h2 k hk))).trans (h2 k hk)⟩
theorem ne_own {w : World} {base n size g : Nat} {e t : TypeId} {cs : Array Value} {v : Value} {xs : List Value} (h : w.ownsRow base e size v n xs) (hg : w.heap[g]? = some (.cells cs t (0, 0))) (hne : t ≠ e) : some g ≠ v.ownBlock := by
  rcases h.2 with ⟨rfl, _⟩ | ⟨g', cap, cur, rfl, _, hgb, _⟩
  · simp [Value.ownBlock]
  · intro e'
    simp [Value.ownBlock] at e'
    subst e'
    rw [hg] at hgb
    injection hgb with hgb
    injection hgb with _ h2
    exact hne h2
theorem EqU.grow {w w1 : World} {s n : Nat} {M : Nat → Nat → Int} {v v' : Value} {j g c : Nat} {tmp : Obj} (G C : Nat → Nat) (hown : w.ownsRow s 96 1 v j (rowVs n G C j)) (hrow : ∀ k, k < j → w.heap[G k]? = some (.cells (ints (rowF (M k) (n + 1))).toArray 3 (0, 0)))
    (hg : w.heap[g]? = some (.cells (ints (rowF (M j) (n + 1))).toArray 3 (0, 0))) (hown' : w1.ownsRow s 96 1 v' (j + 1) (rowVs n G C j ++ [.slice (some ⟨g, 0, none⟩) (n + 1) c])) (hgr : (w.alloc tmp).grownBy w1 v.ownBlock) : EqU w1 s n M v' (j + 1) := by
  have keep : ∀ (g' : Nat) (f : Nat → Int), w.heap[g']? = some (.cells (ints (rowF f (n + 1))).toArray 3 (0, 0)) → w1.heap[g']? = some (.cells (ints (rowF f (n + 1))).toArray 3 (0, 0)) := fun g' f h =>
    (hgr.block g' (by have := lt_of_block' h; simp; omega) (ne_own hown h (by decide))).trans (blk_alloc' h)
  refine ⟨fun k => if k = j then g else G k, fun k => if k = j then c else C k, by rw [rowVs_snoc]; exact hown', fun k hk => ?_⟩
  by_cases e : k = j
  · subst e
    show w1.heap[if k = k then g else G k]? = _
    rw [if_pos rfl]
    exact keep g _ hg
  · show w1.heap[if k = j then g else G k]? = _
    rw [if_neg e]
    exact keep _ _ (hrow k (by omega))
theorem EqU.all {w : World} {s n : Nat} {M : Nat → Nat → Int} {A : Option Addr} {c : Nat} (h : EqU w s n M (.slice A n c) n) (hn : 0 < n) : ∃ g0, A = some ⟨g0, 0, none⟩ ∧ s ≤ g0 ∧ EqM w g0 n M := by
  obtain ⟨G, C, h1, h2⟩ := h
  have hne := fun k hk => ne_own h1 (h2 k hk) (by decide)
  rcases h1.2 with ⟨_, h0⟩ | ⟨g, cap, cur, hv, hs, hg, _, _, hcs, ht⟩
  · omega
  · injection hv with hv1 hv2 hv3
    subst hv1
    refine ⟨g, rfl, hs, G, C, cur, hg, fun k hk => ?_, fun k hk => ⟨h2 k hk, fun e => ?_⟩⟩
    · have h3 : (rowVs n G C n)[k]? = some (.slice (some ⟨G k, 0, none⟩) (n + 1) (C k)) := by simp [rowVs, hk]
      rw [← ht, List.getElem?_take_of_lt (by omega)] at h3
      simpa using h3
    · have := hne k hk
      rw [e] at this
      simp [Value.ownBlock] at this
set_option maxRecDepth 8000 in
set_option maxHeartbeats 4000000 in
/-- Visits, where a function with one captured variable counts. -/
theorem visits_one (A : Option Addr) (rs : List Rw) (c : Nat) (hch : Chn rs) (h0 : 0 < rs.length) (p : Addr) (cb : Nat → Bool) (hsok : SOK (visM (rowsL rs) rs.length cb) rs.length) (w : World) (hr : RdR w w.heap.size A rs)
    (hcb : ∀ k, k < rs.length → ∀ W, Below w.heap.size w W → Calls Try.prog 72 #[.int .i64 (k : Int), .pointer (some p)] W fun e w' => e = .returned (.bool (cb k)) ∧ Below W.heap.size W w') :
    Calls Try.prog 71 #[.slice A rs.length c, .func (.func 72) #[] #[.pointer (some p)]] w fun e w' => RatsPost rs.length (solF (visM (rowsL rs) rs.length cb) rs.length) w e w' := by
  have HR := Lib.hid hr
  have HCb := Lib.hid hcb
  have HVf := Lib.hid (fun i (hi : i < rs.length) b w h => visitsFrom_any A rs c i hch.n5 hch.len hch.ok hi b w h)
  have HSo := Lib.hid (fun B g0 c0 w hE hB => solve_any B g0 c0 rs.length _ (by have := hch.n5; omega) h0 hsok w hE hB)
  have h5 := hch.n5
  unfold RatsPost
  obtain ⟨n, hn⟩ : ∃ n, rs.length = n := ⟨_, rfl⟩
  have HM := Lib.hid (show ∀ k, rowF (visM (rowsL rs) n cb k) (n + 1) = rowF (vF (rowsL rs) n k (b2i (cb k))) (n + 1) from fun k => rowF_congr fun p hp => if_neg (by omega))
  rw [hn] at HCb HVf HSo h0 h5 ⊢
  generalize visM (rowsL rs) n cb = M at *
  generalize rowsL rs = L at *
  obtain ⟨s, hs⟩ : ∃ s, w.heap.size = s := ⟨_, rfl⟩
  have HS := Lib.hid hs
  clear hr hcb hch hsok hn hs
  go_enter Try.func71, Try.ntmps71
  go_wp2_with fail
  go_loopw [5, 9] (fun v z wr => ∃ (j : Nat) (Aq : Option Addr) (cq : Nat), j ≤ n ∧ v = .slice Aq j cq ∧ z = .int .i64 j ∧ EqU wr s n M (.slice Aq j cq) j ∧ Below s w wr) (fun _ z _ => n - (intOf z).toNat)
  case atStart => exact ⟨0, none, 0, by omega, rfl, rfl, EqU.start _ _ _ _, by rw [← HS.out]; exact Below.refl _ _⟩
  case round =>
    obtain ⟨j, Aq, cq, hj, rfl, rfl, hE, hb⟩ := hrel
    have HE := Lib.hid hE
    have HB := Lib.hid hb
    by_cases hlt : j < n
    · have HC1 := Lib.hid (HCb.out j hlt wr (by rw [HS.out]; exact hb))
      have b0 : (0 : Int) ≤ (j : Int) := by omega
      have b1 : (j : Int) < (n : Int) := by omega
      have HMj := HM.out j
      clear hE hb
      generalize cb j = bb at *
      go_wp2_with fail
      refine HC1.out.mono ?_
      rintro e w2 ⟨rfl, hb2⟩
      have hsw : s ≤ wr.heap.size := by have := HB.out.size; have := HS.out; omega
      have HB2 := Lib.hid (HB.out.trans (hb2.mono hsw))
      have HE2 := Lib.hid (HE.out.up hb2)
      have HR2 := Lib.hid (show RdR w2 w2.heap.size A rs from (HR.out.below (by rw [HS.out]; exact HB2.out) (Nat.le_refl _)).more (by have := HB2.out.size; exact this))
      have HV := Lib.hid (HVf.out j hlt bb w2 HR2.out)
      have hsw2 := hb2.size
      clear hb2
      go_wp2_with fail
      refine HV.out.mono ?_
      rintro e w3 ⟨g, c3, rfl, hgs, hg3, hb3⟩
      rw [← HMj] at hg3
      have HB3 := Lib.hid (HB2.out.trans (hb3.mono (by omega)))
      obtain ⟨G, C, hown, hrow⟩ := HE2.out.up hb3
      have hsw3 := hb3.size
      have OW := Lib.hid hown
      have RW := Lib.hid hrow
      have G3 := Lib.hid hg3
      clear hown hrow hg3 hb3 hgs
      go_wp2_with ((with_reducible show wpList _ _ _ (⟨some 20, _, _, _, _, _⟩ :: _) _ _); refine app eEqns rfl (.tmp 12) (.tmp 19) rfl rfl (OW.out.alloc _) (HB3.out.alloc (by omega) (.cells #[.slice (some ⟨g, 0, none⟩) (n + 1) c3] 96)) (by simp; omega) rfl (Rd.one w3 (.slice (some ⟨g, 0, none⟩) (n + 1) c3) 96 (Nat.lt_succ_self _)) (by simp) (by simp [Value.oneCell']) (j + 1) rfl (by omega) ?_; intro A2 c2 w11 o2 b2 g2 _; have HE4 := Lib.hid (EqU.grow (M := M) G C OW.out RW.out G3.out o2 g2); have B11 := Lib.hid b2; clear o2 b2 g2)
      go_roundw
      case rel => exact ⟨j + 1, A2, c2, by omega, rfl, by go_num, HE4.out, B11.out⟩
      case measure => simp [intOf]; omega
    · have hjn : j = n := by omega
      subst hjn
      obtain ⟨g0, rfl, hsg, hM⟩ := hE.all h0
      have HSl := Lib.hid (HSo.out s g0 cq wr hM hsg)
      clear hE hb hlt hM
      go_wp2_with fail
      refine HSl.out.mono ?_
      rintro e w3 ⟨A3, c3, rfl, hr3, hb3⟩
      have R3 := Lib.hid hr3
      have B3 := Lib.hid (HB.out.trans hb3)
      clear hr3 hb3
      go_wp2_with fail
      go_ret
      exact ⟨A3, c3, rfl, R3.out, by rw [HS.out]; exact B3.out⟩
set_option maxRecDepth 8000 in
set_option maxHeartbeats 4000000 in
/-- Visits, where a function with two captured variables counts. -/
theorem visits_two (A : Option Addr) (rs : List Rw) (c : Nat) (hch : Chn rs) (h0 : 0 < rs.length) (p q : Addr) (cb : Nat → Bool) (hsok : SOK (visM (rowsL rs) rs.length cb) rs.length) (w : World) (hr : RdR w w.heap.size A rs)
    (hcb : ∀ k, k < rs.length → ∀ W, Below w.heap.size w W → Calls Try.prog 98 #[.int .i64 (k : Int), .pointer (some p), .pointer (some q)] W fun e w' => e = .returned (.bool (cb k)) ∧ Below W.heap.size W w') :
    Calls Try.prog 71 #[.slice A rs.length c, .func (.func 98) #[] #[.pointer (some p), .pointer (some q)]] w fun e w' => RatsPost rs.length (solF (visM (rowsL rs) rs.length cb) rs.length) w e w' := by
  have HR := Lib.hid hr
  have HCb := Lib.hid hcb
  have HVf := Lib.hid (fun i (hi : i < rs.length) b w h => visitsFrom_any A rs c i hch.n5 hch.len hch.ok hi b w h)
  have HSo := Lib.hid (fun B g0 c0 w hE hB => solve_any B g0 c0 rs.length _ (by have := hch.n5; omega) h0 hsok w hE hB)
  have h5 := hch.n5
  unfold RatsPost
  obtain ⟨n, hn⟩ : ∃ n, rs.length = n := ⟨_, rfl⟩
  have HM := Lib.hid (show ∀ k, rowF (visM (rowsL rs) n cb k) (n + 1) = rowF (vF (rowsL rs) n k (b2i (cb k))) (n + 1) from fun k => rowF_congr fun p hp => if_neg (by omega))
  rw [hn] at HCb HVf HSo h0 h5 ⊢
  generalize visM (rowsL rs) n cb = M at *
  generalize rowsL rs = L at *
  obtain ⟨s, hs⟩ : ∃ s, w.heap.size = s := ⟨_, rfl⟩
  have HS := Lib.hid hs
  clear hr hcb hch hsok hn hs
  go_enter Try.func71, Try.ntmps71
  go_wp2_with fail
  go_loopw [5, 9] (fun v z wr => ∃ (j : Nat) (Aq : Option Addr) (cq : Nat), j ≤ n ∧ v = .slice Aq j cq ∧ z = .int .i64 j ∧ EqU wr s n M (.slice Aq j cq) j ∧ Below s w wr) (fun _ z _ => n - (intOf z).toNat)
  case atStart => exact ⟨0, none, 0, by omega, rfl, rfl, EqU.start _ _ _ _, by rw [← HS.out]; exact Below.refl _ _⟩
  case round =>
    obtain ⟨j, Aq, cq, hj, rfl, rfl, hE, hb⟩ := hrel
    have HE := Lib.hid hE
    have HB := Lib.hid hb
    by_cases hlt : j < n
    · have HC1 := Lib.hid (HCb.out j hlt wr (by rw [HS.out]; exact hb))
      have b0 : (0 : Int) ≤ (j : Int) := by omega
      have b1 : (j : Int) < (n : Int) := by omega
      have HMj := HM.out j
      clear hE hb
      generalize cb j = bb at *
      go_wp2_with fail
      refine HC1.out.mono ?_
      rintro e w2 ⟨rfl, hb2⟩
      have hsw : s ≤ wr.heap.size := by have := HB.out.size; have := HS.out; omega
      have HB2 := Lib.hid (HB.out.trans (hb2.mono hsw))
      have HE2 := Lib.hid (HE.out.up hb2)
      have HR2 := Lib.hid (show RdR w2 w2.heap.size A rs from (HR.out.below (by rw [HS.out]; exact HB2.out) (Nat.le_refl _)).more (by have := HB2.out.size; exact this))
      have HV := Lib.hid (HVf.out j hlt bb w2 HR2.out)
      have hsw2 := hb2.size
      clear hb2
      go_wp2_with fail
      refine HV.out.mono ?_
      rintro e w3 ⟨g, c3, rfl, hgs, hg3, hb3⟩
      rw [← HMj] at hg3
      have HB3 := Lib.hid (HB2.out.trans (hb3.mono (by omega)))
      obtain ⟨G, C, hown, hrow⟩ := HE2.out.up hb3
      have hsw3 := hb3.size
      have OW := Lib.hid hown
      have RW := Lib.hid hrow
      have G3 := Lib.hid hg3
      clear hown hrow hg3 hb3 hgs
      go_wp2_with ((with_reducible show wpList _ _ _ (⟨some 20, _, _, _, _, _⟩ :: _) _ _); refine app eEqns rfl (.tmp 12) (.tmp 19) rfl rfl (OW.out.alloc _) (HB3.out.alloc (by omega) (.cells #[.slice (some ⟨g, 0, none⟩) (n + 1) c3] 96)) (by simp; omega) rfl (Rd.one w3 (.slice (some ⟨g, 0, none⟩) (n + 1) c3) 96 (Nat.lt_succ_self _)) (by simp) (by simp [Value.oneCell']) (j + 1) rfl (by omega) ?_; intro A2 c2 w11 o2 b2 g2 _; have HE4 := Lib.hid (EqU.grow (M := M) G C OW.out RW.out G3.out o2 g2); have B11 := Lib.hid b2; clear o2 b2 g2)
      go_roundw
      case rel => exact ⟨j + 1, A2, c2, by omega, rfl, by go_num, HE4.out, B11.out⟩
      case measure => simp [intOf]; omega
    · have hjn : j = n := by omega
      subst hjn
      obtain ⟨g0, rfl, hsg, hM⟩ := hE.all h0
      have HSl := Lib.hid (HSo.out s g0 cq wr hM hsg)
      clear hE hb hlt hM
      go_wp2_with fail
      refine HSl.out.mono ?_
      rintro e w3 ⟨A3, c3, rfl, hr3, hb3⟩
      have R3 := Lib.hid hr3
      have B3 := Lib.hid (HB.out.trans hb3)
      clear hr3 hb3
      go_wp2_with fail
      go_ret
      exact ⟨A3, c3, rfl, R3.out, by rw [HS.out]; exact B3.out⟩
end Go.Proofs.Ytegehfcnclpdeaa
