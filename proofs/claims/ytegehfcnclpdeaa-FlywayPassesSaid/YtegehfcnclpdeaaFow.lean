/-
  A slice of slices that the call makes, row by row: what is known of it. SameInts, SameRows, CopyRows of the reference, Large. Condition: the lists can be read.
-/
import Derived.Test.YtegehfcnclpdeaaFrp
import Derived.Deep.AppendLies
namespace Go.Proofs.Ytegehfcnclpdeaa
open Go.RowKit
set_option linter.unusedVariables false

theorem lt_of_block {w : World} {g : Nat} {x : Obj} (h : w.heap[g]? = some x) : g < w.heap.size := (Array.getElem?_eq_some_iff.1 h).1
theorem own_drew {w : World} {B n : Nat} {e : TypeId} {size : Nat} {v : Value} {xs : List Value} (h : w.ownsRow B e size v n xs) : w.drew.ownsRow B e size v n xs := own_below h (Below.refl _ _).drew
theorem rd_drew {w : World} {B : Nat} {A : Option Addr} {xs : List Value} (h : Rd w B A xs) : Rd w.drew B A xs := h
/-- A block that can be written to. -/
def Soft (w : World) (b : Nat) : Prop := ∃ cs t, w.heap[b]? = some (.cells cs t (0, 0))
theorem Soft.lt {w : World} {b : Nat} (h : Soft w b) : b < w.heap.size := by
  obtain ⟨cs, t, h⟩ := h
  exact lt_of_block h
theorem Soft.of {w w' : World} {b : Nat} (h : Soft w b) (e : w'.heap[b]? = w.heap[b]?) : Soft w' b := by
  obtain ⟨cs, t, h⟩ := h
  exact ⟨cs, t, e.trans h⟩
theorem Soft.free {w : World} {b : Nat} (h : Soft w b) (i : Nat) : w.frozen? ⟨b, i, none⟩ = false := by
  obtain ⟨cs, t, h⟩ := h
  exact blk_free h i
theorem heap_set_off {w : World} {g b : Nat} (h : b ≠ g) (i : Nat) (u : Value) : (w.setCell ⟨g, i, none⟩ u).heap[b]? = w.heap[b]? := by
  simp [World.setCell, Array.getElem?_modify, Ne.symm h]
theorem Soft.set {w : World} {b : Nat} (h : Soft w b) (b' i : Nat) (u : Value) : Soft (w.setCell ⟨b', i, none⟩ u) b := by
  by_cases e : b = b'
  · subst e
    obtain ⟨cs, t, h⟩ := h
    exact ⟨_, _, blk_set h i u⟩
  · exact h.of (heap_set_off e _ _)
theorem own_soft {w : World} {B n : Nat} {e : TypeId} {size : Nat} {v : Value} {xs : List Value} (h : w.ownsRow B e size v n xs) {g : Nat} (hg : v.ownBlock = some g) : B ≤ g ∧ Soft w g := by
  rcases h.2 with ⟨rfl, _⟩ | ⟨g', cap, cur, rfl, hb, hg', _⟩
  · simp [Value.ownBlock] at hg
  · have : g' = g := by simpa [Value.ownBlock] using hg
    subst this
    exact ⟨hb, _, _, hg'⟩
/-- Rows in memory of the call's own: a slice of theirs that is owned, each row in a block from B on that is not that slice's. -/
structure OwnR (w : World) (B : Nat) (e : TypeId) (v : Value) (rs : List Rw) : Prop where
  own : w.ownsRow B e 1 v rs.length (rs.map Rw.v)
  row : ∀ r ∈ rs, Rd w w.heap.size r.A (ints r.l) ∧ r.l.length ≤ r.c ∧ r.c ≤ maxLen ∧ (∀ ad, r.A = some ad → B ≤ ad.block ∧ Soft w ad.block ∧ v.ownBlock ≠ some ad.block)
theorem OwnR.nil (w : World) (B : Nat) (e : TypeId) : OwnR w B e (.slice none 0 0) [] := ⟨World.ownsRow_nil _ _ _ _, by simp⟩
theorem OwnR.up {w w' : World} {B : Nat} {e : TypeId} {v : Value} {rs : List Rw} (h : OwnR w B e v rs) (hb : Below w.heap.size w w') : OwnR w' B e v rs :=
  ⟨own_below h.own hb, fun r hr => by
    obtain ⟨h1, h2, h3, h4⟩ := h.row r hr
    exact ⟨h1.up hb, h2, h3, fun ad ha => by
      obtain ⟨h5, h6, h7⟩ := h4 ad ha
      exact ⟨h5, h6.of (hb.block _ h6.lt), h7⟩⟩⟩
/-- A cell of a block that is not the row that grew. -/
theorem rd_far {w w' : World} {row : Option Nat} {B : Nat} {A : Option Addr} {xs : List Value} (h : Rd w B A xs) (hB : B ≤ w.heap.size) (hg : w.grownBy w' row) (hne : ∀ ad, A = some ad → row ≠ some ad.block) : Rd w' B A xs := by
  rcases h with rfl | ⟨b, o, ha, hb, hc⟩
  · exact .inl rfl
  · exact .inr ⟨b, o, ha, hb, fun i u hu => (hg.cell_far ⟨b, o + i, none⟩ (by show b < _; omega) (fun he => hne _ ha he.symm)).trans (hc i u hu)⟩
/-- Another row has grown. -/
theorem OwnR.far {w w' : World} {row : Option Nat} {B : Nat} {e : TypeId} {v : Value} {rs : List Rw} (h : OwnR w B e v rs) (hg : w.grownBy w' row) (hs : w.heap.size ≤ w'.heap.size) (hv : v.ownBlock = none ∨ v.ownBlock ≠ row) (hr : ∀ r ∈ rs, ∀ ad, r.A = some ad → row ≠ some ad.block) : OwnR w' B e v rs :=
  ⟨h.own.kept hg hv, fun r hq => by
    obtain ⟨h1, h2, h3, h4⟩ := h.row r hq
    exact ⟨(rd_far h1 (Nat.le_refl _) hg (hr r hq)).more hs, h2, h3, fun ad ha => by
      obtain ⟨h5, h6, h7⟩ := h4 ad ha
      exact ⟨h5, h6.of (hg.block _ h6.lt fun he => hr r hq ad ha he.symm), h7⟩⟩⟩
/-- A row more: it lies in a block of its own. -/
theorem OwnR.app {w w' : World} {B : Nat} {e : TypeId} {v : Value} {rs : List Rw} (h : OwnR w B e v rs) {r : Rw} (hrd : Rd w w.heap.size r.A (ints r.l)) (hc : r.l.length ≤ r.c) (hm : r.c ≤ maxLen) (hfr : ∀ ad, r.A = some ad → B ≤ ad.block ∧ Soft w ad.block ∧ v.ownBlock ≠ some ad.block)
    {v' : Value} (hown : w'.ownsRow B e 1 v' (rs.length + 1) (rs.map Rw.v ++ [r.v])) (hg : w.grownBy w' v.ownBlock) (hs : w.heap.size ≤ w'.heap.size) (hv : v'.ownBlock = v.ownBlock ∨ v'.ownBlock = some w.heap.size) : OwnR w' B e v' (rs ++ [r]) := by
  refine ⟨by rw [List.length_append, List.map_append]; exact hown, fun q hq => ?_⟩
  have key : Rd w w.heap.size q.A (ints q.l) ∧ q.l.length ≤ q.c ∧ q.c ≤ maxLen ∧ (∀ ad, q.A = some ad → B ≤ ad.block ∧ Soft w ad.block ∧ v.ownBlock ≠ some ad.block) := by
    rcases List.mem_append.1 hq with h1 | h1
    · exact h.row q h1
    · rw [List.mem_singleton.1 h1]
      exact ⟨hrd, hc, hm, hfr⟩
  obtain ⟨h1, h2, h3, h4⟩ := key
  refine ⟨(rd_far h1 (Nat.le_refl _) hg fun ad ha => (h4 ad ha).2.2).more hs, h2, h3, fun ad ha => ?_⟩
  obtain ⟨h5, h6, h7⟩ := h4 ad ha
  have h8 := h6.lt
  refine ⟨h5, h6.of (hg.block _ h8 fun he => h7 he.symm), fun he => ?_⟩
  rcases hv with h9 | h9
  · exact h7 (h9 ▸ he)
  · rw [h9] at he
    injection he with he
    omega
theorem OwnR.rd {w : World} {B : Nat} {e : TypeId} {A : Option Addr} {n c : Nat} {rs : List Rw} (h : OwnR w B e (.slice A n c) rs) (hn : n = rs.length) : RdR w w.heap.size A rs := by
  subst hn
  exact ⟨Rd.of_own h.own, fun r hr => (h.row r hr).1⟩
theorem own_at_soft {w : World} {B n c : Nat} {A : Option Addr} {e : TypeId} {size : Nat} {xs : List Value} (h : w.ownsRow B e size (.slice A n c) n xs) : n ≤ c ∧ c ≤ maxLen ∧ ∀ ad, A = some ad → B ≤ ad.block ∧ Soft w ad.block := by
  rcases h.2 with ⟨hv, hn⟩ | ⟨g, cap, cur, hv, hb, hg, hnc, hcm, _⟩
  · injection hv with h1 h2 h3
    subst h1
    refine ⟨by omega, by rw [h3]; simp [maxLen], fun _ h => by cases h⟩
  · injection hv with h1 h2 h3
    subst h1 h3
    refine ⟨hnc, hcm, fun ad ha => ?_⟩
    cases ha
    exact ⟨hb, _, _, hg⟩
/-- A row that the round has made goes to the others. -/
theorem OwnR.grow {w w6 X w7 : World} {B : Nat} {e e6 : TypeId} {v v' : Value} {rs : List Rw} {A6 : Option Addr} {c6 : Nat} {l : List Int} (O : OwnR w B e v rs) (o6 : w6.ownsRow w.heap.size e6 1 (.slice A6 l.length c6) l.length (ints l)) (b6 : Below w.heap.size w w6) (bx : Below w6.heap.size w6 X)
    (o7 : w7.ownsRow B e 1 v' (rs.length + 1) (rs.map Rw.v ++ [.slice A6 l.length c6])) (g7 : X.grownBy w7 v.ownBlock) (h7 : v'.ownBlock = v.ownBlock ∨ v'.ownBlock = some X.heap.size) (hB : B ≤ w.heap.size) : OwnR w7 B e v' (rs ++ [⟨A6, c6, l⟩]) := by
  obtain ⟨h1, h2, h3⟩ := own_at_soft o6
  refine OwnR.app (w := X) (O.up (b6.trans (bx.mono b6.size))) ((Rd.of_own o6).up bx) h1 h2 (fun ad ha => ?_) o7 g7 g7.size h7
  obtain ⟨h4, h5⟩ := h3 ad ha
  refine ⟨Nat.le_trans hB h4, h5.of (bx.block _ h5.lt), fun he => ?_⟩
  have := (O.own.lt _ he).2
  omega
/-- A store into a block below the base. -/
theorem own_set_off {w : World} {B n g : Nat} {e : TypeId} {size : Nat} {v : Value} {xs : List Value} (h : w.ownsRow B e size v n xs) (hg : ∀ b, v.ownBlock = some b → b ≠ g) (i : Nat) (u : Value) : (w.setCell ⟨g, i, none⟩ u).ownsRow B e size v n xs := by
  refine ⟨h.1, ?_⟩
  rcases h.2 with h1 | ⟨g', cap, cur, hv, hb, hg', hr⟩
  · exact .inl h1
  · exact .inr ⟨g', cap, cur, hv, hb, (heap_set_off (hg g' (by rw [hv]; rfl)) i u).trans hg', hr⟩
theorem rd_set_off {w : World} {B g : Nat} {A : Option Addr} {xs : List Value} (h : Rd w B A xs) (hg : ∀ ad, A = some ad → ad.block ≠ g) (i : Nat) (u : Value) : Rd (w.setCell ⟨g, i, none⟩ u) B A xs := by
  rcases h with h0 | ⟨b, o, ha, hb, hc⟩
  · exact .inl h0
  · exact .inr ⟨b, o, ha, hb, fun j x hx => (World.cell?_of_block (a := ⟨b, o + j, none⟩) (heap_set_off (hg _ ha) i u)).trans (hc j x hx)⟩
theorem OwnR.set_off {w : World} {B g : Nat} {e : TypeId} {v : Value} {rs : List Rw} (h : OwnR w B e v rs) (hg : g < B) (i : Nat) (u : Value) : OwnR (w.setCell ⟨g, i, none⟩ u) B e v rs := by
  refine ⟨own_set_off h.own (fun b hb => by have := (h.own.lt b hb).1; omega) i u, fun r hr => ?_⟩
  obtain ⟨h1, h2, h3, h4⟩ := h.row r hr
  refine ⟨(rd_set_off h1 (fun ad ha => by have := (h4 ad ha).1; omega) i u).more (by simp [World.setCell]), h2, h3, fun ad ha => ?_⟩
  obtain ⟨h5, h6, h7⟩ := h4 ad ha
  exact ⟨h5, h6.set g i u, h7⟩
theorem eqI_next {a b : List Int} {k : Nat} {x y : Int} (hx : a[k]? = some x) (hy : b[k]? = some y) (h : a.take k = b.take k) (he : x = y) : a.take (k + 1) = b.take (k + 1) := by
  rw [List.take_add_one, List.take_add_one, hx, hy, h, he]
theorem eqI_bad {a b : List Int} {k : Nat} {x y : Int} (hx : a[k]? = some x) (hy : b[k]? = some y) (he : ¬ x = y) : decide (a = b) = false := decide_eq_false fun h => he (by
  rw [h, hy] at hx
  injection hx with hx
  exact hx.symm)
set_option maxRecDepth 4000 in
set_option maxHeartbeats 1000000 in
theorem SameInts_any (A A' : Option Addr) (c c' : Nat) (a b : List Int) (w : World) (hr : Rd w w.heap.size A (ints a)) (hr' : Rd w w.heap.size A' (ints b)) (hl : a.length ≤ 9223372036854775807) (hl' : b.length ≤ 9223372036854775807) :
    Calls Try.prog 31 #[.slice A a.length c, .slice A' b.length c'] w fun e w' => e = .returned (.bool (decide (a = b))) ∧ ∃ m, w' = w.drewN m := by
  have HR := Lib.hid hr
  have HR' := Lib.hid hr'
  clear hr hr'
  by_cases hab : a.length = b.length
  · have e1 : (((a.length : Nat) : Int) != ((b.length : Nat) : Int)) = false := by rw [hab]; simp
    have e2 : ((a.length : Nat) != b.length) = false := by rw [hab]; simp
    have HAB := Lib.hid hab
    clear hab
    go_enter Try.func31, Try.ntmps31
    go_wp2_with fail
    go_loopw [5] (fun i wr => ∃ k : Nat, k ≤ a.length ∧ i = .int .i64 k ∧ a.take k = b.take k ∧ ∃ m, wr = w.drewN m) (fun i _ => a.length - (intOf i).toNat)
    case atStart => exact ⟨0, by omega, rfl, rfl, 0, rfl⟩
    case round =>
      obtain ⟨k, hk, rfl, hall, m, rfl⟩ := hrel
      have HA := Lib.hid hall
      clear hall
      by_cases hlt : k < a.length
      · have hlt' : k < b.length := by have := HAB.out; omega
        obtain ⟨b1, o1, x, hA1, hx, hc⟩ := HR.out.int k hlt
        obtain ⟨b2, o2, y, hA2, hy, hc'⟩ := HR'.out.int k hlt'
        have HX1 := Lib.hid hA1
        have HX2 := Lib.hid hA2
        subst hA1 hA2
        have b0 : (0 : Int) ≤ (k : Int) := by omega
        have b1' : (k : Int) < (a.length : Int) := by omega
        have b2' : (k : Int) < (b.length : Int) := by omega
        by_cases he : x = y
        · have HX := Lib.hid (eqI_next hx.out hy.out HA.out he)
          have e4 : (x != y) = false := by simpa using he
          clear he
          go_wp2_with fail
          go_quiet (fail)
          go_wp2_with fail
          go_roundw
          case rel => exact ⟨k + 1, by omega, by go_num, HX.out, _, rfl⟩
          case measure => simp [intOf]; omega
        · have HX := Lib.hid (eqI_bad hx.out hy.out he)
          have e4 : (x != y) = true := by simpa using he
          clear he
          go_wp2_with fail
          go_quiet (fail)
          go_wp2_with fail
          go_ret
          exact ⟨by rw [HX.out]; rfl, _, World.drewN_drewN _ _ _⟩
      · have hks : k = a.length := by omega
        have HX := Lib.hid (show decide (a = b) = true by
          have h := HA.out
          rw [hks, List.take_length, HAB.out, List.take_length] at h
          exact decide_eq_true h)
        subst hks
        go_wp2_with fail
        go_ret
        exact ⟨by rw [HX.out]; rfl, _, rfl⟩
  · have e1 : (((a.length : Nat) : Int) != ((b.length : Nat) : Int)) = true := by simp; omega
    have e2 : ((a.length : Nat) != b.length) = true := by simpa using hab
    have HX := Lib.hid (show decide (a = b) = false from decide_eq_false fun h => hab (by rw [h]))
    clear hab
    go_enter Try.func31, Try.ntmps31
    go_wp2_with fail
    go_ret
    exact ⟨by rw [HX.out]; rfl, 0, rfl⟩
set_option maxRecDepth 4000 in
set_option maxHeartbeats 1000000 in
theorem SameRows_any (A A' : Option Addr) (c c' : Nat) (rs : List Rw) (A2 : Option Addr) (qs : List Rw) (hs : SzR rs) (hl : rs.length ≤ 9223372036854775807) (hq : qs.map (·.l) = rs.map (·.l)) (w : World) (hr : RdR w w.heap.size A rs) (hr' : RdR w w.heap.size A' qs) :
    Calls Try.prog 21 #[.slice A' qs.length c', .slice A rs.length c] w fun e w' => e = .returned (.bool true) ∧ Below w.heap.size w w' := by
  have hn : qs.length = rs.length := by have := congrArg List.length hq; rwa [List.length_map, List.length_map] at this
  rw [hn]
  have HN := Lib.hid hn
  have HR := Lib.hid hr
  have HR' := Lib.hid hr'
  have HSz := Lib.hid hs
  have HQ := Lib.hid hq
  clear hr hr' hs hn hq
  go_enter Try.func21, Try.ntmps21
  go_wp2_with fail
  go_loopw [5] (fun i wr => ∃ k : Nat, k ≤ rs.length ∧ i = .int .i64 k ∧ ∃ m, wr = w.drewN m) (fun i _ => rs.length - (intOf i).toNat)
  case atStart => exact ⟨0, by omega, rfl, 0, rfl⟩
  case round =>
    obtain ⟨k, hk, rfl, m, rfl⟩ := hrel
    by_cases hlt : k < rs.length
    · obtain ⟨b1, o1, A1, c1, l1, hA1, hx1, hc1, hrd1⟩ := HR.out.row k hlt
      obtain ⟨b2, o2, A2, c2, l2, hA2, hx2, hc2, hrd2⟩ := HR'.out.row k (by rw [HN.out]; exact hlt)
      have hl12 : l2 = l1 := by
        have h1 := congrArg (fun z => z[k]?) HQ.out
        simp only [List.getElem?_map, hx1.out, hx2.out, Option.map_some, Option.some.injEq] at h1
        exact h1
      subst hl12
      subst hA1 hA2
      have hsz : l2.length ≤ 9223372036854775807 := HSz.out _ (List.mem_of_getElem? hx1.out)
      have HSI := Lib.hid (fun (a n : Nat) => show Calls Try.prog 31 #[.slice A2 l2.length c2, .slice A1 l2.length c1] (w.drewN (a + n)) fun e w'' => e = .returned (.bool true) ∧ ∃ m, w'' = w.drewN (a + m) from
        (SameInts_any A2 A1 c2 c1 l2 l2 (w.drewN (a + n)) hrd2.out hrd1.out hsz hsz).mono fun e w' h => ⟨by rw [h.1, decide_eq_true rfl], by obtain ⟨m, hm⟩ := h.2; exact ⟨n + m, by rw [hm, ← Nat.add_assoc]; exact World.drewN_drewN _ _ _⟩⟩)
      have b0 : (0 : Int) ≤ (k : Int) := by omega
      have b1' : (k : Int) < (rs.length : Int) := by omega
      clear hx1 hx2 hrd1 hrd2
      go_wp2_with fail
      go_quiet ((go_at_call 31; exact HSI.out _ _))
      go_wp2_with fail
      go_roundw
      case rel => exact ⟨k + 1, by omega, by go_num, _, rfl⟩
      case measure => simp [intOf]; omega
    · have hks : k = rs.length := by omega
      subst hks
      go_wp2_with fail
      go_ret
      exact ⟨rfl, bdN' (Below.refl _ _) m⟩
def largeR (rs : List Rw) : Bool := rs.any (fun r => decide (30 < r.l.length)) || decide (30 < rs.length)
set_option maxRecDepth 4000 in
set_option maxHeartbeats 1000000 in
theorem Large_any (A : Option Addr) (c : Nat) (rs : List Rw) (hs : SzR rs) (hl : rs.length ≤ 9223372036854775807) (w : World) (hr : RdR w w.heap.size A rs) :
    Calls Try.prog 14 #[.slice A rs.length c] w fun e w' => e = .returned (.bool (largeR rs)) ∧ w = w' := by
  have HR := Lib.hid hr
  have HSz := Lib.hid hs
  have HX := Lib.hid (show largeR rs = (rs.any (fun r => decide (30 < r.l.length)) || decide (30 < rs.length)) from rfl)
  generalize largeR rs = X at *
  clear hr hs
  go_enter Try.func14, Try.ntmps14
  go_wp2_with fail
  go_loop [3] (fun z => ∃ k : Nat, k ≤ rs.length ∧ z = .int .i64 k ∧ (rs.take k).any (fun r => decide (30 < r.l.length)) = false) (fun z => rs.length - (intOf z).toNat)
  case atStart => exact ⟨0, by omega, rfl, by simp⟩
  case round =>
    obtain ⟨k, hk, rfl, hall⟩ := hrel
    have HA := Lib.hid hall
    clear hall
    by_cases hlt : k < rs.length
    · obtain ⟨b1, o1, A1, c1, l1, rfl, hx1, hc1, hrd1⟩ := HR.out.row k hlt
      have b0 : (0 : Int) ≤ (k : Int) := by omega
      have b1' : (k : Int) < (rs.length : Int) := by omega
      have hsz : l1.length ≤ 9223372036854775807 := HSz.out _ (List.mem_of_getElem? hx1.out)
      by_cases h3 : 30 < l1.length
      · have e1 : decide ((30 : Int) < (l1.length : Int)) = true := decide_eq_true (by omega)
        have e1' : decide (30 < l1.length) = true := decide_eq_true h3
        have HZ := Lib.hid (show X = true by
          rw [HX.out, List.any_eq_true.2 ⟨_, List.mem_of_getElem? hx1.out, decide_eq_true h3⟩]; rfl)
        clear h3 hx1 hrd1
        go_wp2_with fail
        go_ret
        exact ⟨by rw [HZ.out] <;> rfl, rfl⟩
      · have e1 : decide ((30 : Int) < (l1.length : Int)) = false := decide_eq_false (by omega)
        have e1' : decide (30 < l1.length) = false := decide_eq_false h3
        have HZ := Lib.hid (show (rs.take (k + 1)).any (fun r => decide (30 < r.l.length)) = false by
          rw [List.take_add_one, hx1.out, List.any_append, HA.out]
          simpa using h3)
        clear h3 hx1 hrd1
        go_wp2_with fail
        go_round
        case rel => exact ⟨k + 1, by omega, by go_num, HZ.out⟩
        case measure => simp [intOf]; omega
    · have hks : k = rs.length := by omega
      subst hks
      have HZ := Lib.hid (show X = decide ((30 : Int) < (rs.length : Int)) by
        have := HA.out
        rw [List.take_length] at this
        rw [HX.out, this, Bool.false_or]
        by_cases e : 30 < rs.length
        · rw [decide_eq_true e, decide_eq_true (show (30 : Int) < (rs.length : Int) by omega)]
        · rw [decide_eq_false e, decide_eq_false (show ¬ (30 : Int) < (rs.length : Int) by omega)])
      go_wp2_with fail
      go_ret
      exact ⟨by rw [HZ.out] <;> first | rfl | simp, rfl⟩
theorem eRowF : Elem Try.prog 22 39 (.slice none 0 0) 1 24 := ⟨Try.underlying22, by kernel_rfl, rfl, by decide, by decide⟩
set_option maxRecDepth 4000 in
set_option maxHeartbeats 1600000 in
theorem CopyRows_any (A : Option Addr) (c : Nat) (rs : List Rw) (h30 : rs.length ≤ 30) (r30 : ∀ r ∈ rs, r.l.length ≤ 30) (w : World) (hr : RdR w w.heap.size A rs) :
    Calls Try.prog 16 #[.slice A rs.length c] w fun e w' => ∃ A' c' rs', e = .returned (.slice A' rs.length c') ∧ rs'.map (·.l) = rs.map (·.l) ∧ RdR w' w'.heap.size A' rs' ∧ Below w.heap.size w w' := by
  have HR := Lib.hid hr
  have H30 := Lib.hid r30
  clear hr r30
  go_enter Try.func16, Try.ntmps16
  go_wp2_with fail
  go_loopw [3, 4] (fun v i wr => ∃ (k : Nat) (rs' : List Rw), k ≤ rs.length ∧ i = .int .i64 k ∧ OwnR wr w.heap.size 39 v rs' ∧ rs'.map (·.l) = (rs.take k).map (·.l) ∧ Below w.heap.size w wr) (fun _ i _ => rs.length - (intOf i).toNat)
  case atStart => exact ⟨0, [], by omega, rfl, OwnR.nil _ _ _, rfl, Below.refl _ _⟩
  case round =>
    obtain ⟨k, rs', hk, rfl, hown, hmap, hbl⟩ := hrel
    have O := Lib.hid hown
    have HM := Lib.hid hmap
    have BL := Lib.hid hbl
    have RGb := HR.out.below hbl (Nat.le_refl _)
    clear hown hmap hbl
    have HLK := Lib.hid (show rs'.length = k by have h1 := congrArg List.length HM.out; rw [List.length_map, List.length_map, List.length_take] at h1; omega)
    by_cases hlt : k < rs.length
    · obtain ⟨b, o, A', c', l, rfl, hx, hcr, hrd⟩ := RGb.row k hlt
      have hl30 : l.length ≤ 30 := H30.out _ (List.mem_of_getElem? hx.out)
      have b0 : (0 : Int) ≤ (k : Int) := by omega
      have b1' : (k : Int) < (rs.length : Int) := by omega
      have WA1 := Lib.hid (show Below wr.heap.size wr (wr.alloc (.cells #[] 3)) from ((Below.refl _ _).alloc (Nat.le_refl _) _))
      have OA1 := Lib.hid (show (wr.alloc (.cells #[] 3)).ownsRow wr.heap.size 3 1 (.slice (some ⟨wr.heap.size, 0, none⟩) 0 0) 0 [] from own_lit wr 3 1 (Nat.le_refl _))
      have hws := BL.out.size
      have hcra := (WA1.out.cell (p := ⟨b, o + k, none⟩) (by
        obtain ⟨b', o', ha, hb', _⟩ := RGb.1.at_ (k := k) (by rw [List.getElem?_map, hx.out]; rfl)
        cases ha
        show b < wr.heap.size
        omega)).trans hcr
      have hk30 : rs'.length ≤ 30 := by have := HLK.out; omega
      obtain ⟨n, hn⟩ : ∃ n, rs.length = n := ⟨_, rfl⟩
      have HNN := Lib.hid hn
      have hkn : k < n := by omega
      rw [hn] at b1'
      clear hlt
      go_wp2_with (first
        | ((with_reducible show wpList _ _ _ (⟨some 17, _, _, _, _, _⟩ :: _) _ _); refine app eInts rfl (.tmp 12) (.tmp 16) rfl rfl OA1.out WA1.out (Below.size WA1.out) rfl (hrd.out.below WA1.out hws) (by simp [ints]) (ints_one _) l.length (by omega) (by omega) ?_; intro A6 c6 w6 o6 b6 g6 h6; clear g6 h6; have O6 := Lib.hid o6; have B6 := Lib.hid b6; have hw6 := b6.size; clear o6 b6)
        | ((with_reducible show wpList _ _ _ (⟨some 19, _, _, _, _, _⟩ :: _) _ _); refine app eRowF rfl (.tmp 11) (.tmp 18) rfl rfl (w0 := wr) ((own_below O.out.own B6.out).alloc (.cells #[.slice A6 l.length c6] 39)) ((B6.out.mono hws).alloc (Nat.le_trans hws hw6) (.cells #[.slice A6 l.length c6] 39)) (size_alloc' (Nat.le_trans hws hw6) _) rfl (Rd.one w6 (.slice A6 l.length c6) 39 (Nat.lt_succ_self _)) (by simp) (by simp [Value.oneCell']) (rs'.length + 1) rfl (by omega) ?_; intro A7 c7 w7 o7 b7 g7 h7; have OW := Lib.hid (OwnR.grow O.out O6.out B6.out ((Below.refl _ _).alloc (Nat.le_refl _) (.cells #[.slice A6 l.length c6] 39)) o7 g7 h7 hws); have B7 := Lib.hid (BL.out.trans b7); clear o7 b7 g7 h7))
      go_roundw
      case rel => exact ⟨k + 1, by omega, by go_num, rs' ++ [⟨A6, c6, l⟩], OW.out, by rw [List.map_append, HM.out, ← List.map_take, List.take_add_one, hx.out]; simp, B7.out⟩
      case measure => simp [intOf]; omega
    · have HMe := Lib.hid (show rs'.map (·.l) = rs.map (·.l) by rw [HM.out, List.take_of_length_le (by omega)])
      obtain ⟨A7, c7, hv7, _⟩ := own_form O.out.own
      subst hv7
      have hlk := HLK.out
      obtain rfl : k = rs.length := by omega
      rw [hlk] at O ⊢
      go_wp2_with fail
      go_ret
      exact ⟨A7, ⟨c7, rfl⟩, rs', HMe.out, O.out.rd hlk.symm, BL.out⟩
end Go.Proofs.Ytegehfcnclpdeaa
