/-
  What two messages leave over: the walk of leave. Condition: the code is one and can be read.
-/
import Derived.Test.YtjongjndoaojnaaLv2
import Derived.Maps.Own
import Derived.Laws.EntriesVeiled
namespace Go.Proofs.Ytjongjndoaojnaa
open Go.RowKit
set_option linter.unusedVariables false

/-- Where the ends that are left over of two signals are found. -/
def Bs (C : List ByteArray) (k j : Nat) (L : List (List UInt8)) (m : Bool) : Prop := ∀ (i i' : Nat) x y t, C[i]? = some x → C[i']? = some y → i ≠ i' → (i < k ∨ (i = k ∧ i' < j)) → bl x = bl y ++ t → InS L m t
theorem Bs.zero (C : List ByteArray) (L : List (List UInt8)) (m : Bool) : Bs C 0 0 L m := fun i i' x y t _ _ _ h => by omega
theorem Bs.row {C : List ByteArray} {k : Nat} {L : List (List UInt8)} {m : Bool} (h : Bs C k C.length L m) : Bs C (k + 1) 0 L m := by
  intro i i' x y t hx hy hne ho he
  refine h i i' x y t hx hy hne ?_ he
  have := (List.getElem?_eq_some_iff.1 hy).1
  omega
theorem Bs.next {C : List ByteArray} {k j : Nat} {L L' : List (List UInt8)} {m m' : Bool} {x y : ByteArray} (h : Bs C k j L m) (hx : C[k]? = some x) (hy : C[j]? = some y) (g : Grew C L m L' m') (hs : k ≠ j → ∀ t, bl x = bl y ++ t → InS L' m' t) : Bs C k (j + 1) L' m' := by
  intro i i' x' y' t hx' hy' hne ho he
  by_cases hc : i = k ∧ i' = j
  · obtain ⟨rfl, rfl⟩ := hc
    rw [hx] at hx'
    rw [hy] at hy'
    cases hx'
    cases hy'
    exact hs hne t he
  · exact (h i i' x' y' t hx' hy' hne (by omega) he).up g
theorem Bs.all {C : List ByteArray} {L : List (List UInt8)} {m : Bool} (h : Bs C C.length 0 L m) : ∀ x ∈ C, ∀ y ∈ C, x ≠ y → ∀ t, bl y = bl x ++ t → InS L m t := by
  intro x hx y hy hne t he
  obtain ⟨i, hi, hxi⟩ := List.getElem_of_mem hx
  obtain ⟨j, hj, hyj⟩ := List.getElem_of_mem hy
  refine h j i y x t (by rw [List.getElem?_eq_getElem hj, hyj]) (by rw [List.getElem?_eq_getElem hi, hxi]) (fun e => ?_) (.inl hj) he
  subst e
  exact hne (hxi.symm.trans hyj)
theorem Msl.lit {lb mb : Nat} {o : Option Nat} {w w' : World} {B : Nat} {e : TypeId} {i : Int} (hw : w'.cell? ⟨B, 0, none⟩ = some (.int .i64 i)) (hB : B < w'.heap.size) (h1 : lb < B) (h2 : mb < B) (h3 : ∀ j, o = some j → j < B) : Msl lb mb o w' (some ⟨B, 0, none⟩) [i] := by
  refine ⟨B, 0, rfl, hB, fun k d hd => ?_, by omega, by omega, fun e => ?_⟩
  · match k, hd with
    | 0, hd => cases hd; exact hw
  · have := h3 B e.symm
    omega
theorem base_end {C : List ByteArray} (hV : Vd C) {k j : Nat} {x y : ByteArray} (hx : C[k]? = some x) (hy : C[j]? = some y) (hne : k ≠ j) (hp : pfx y x = true) : End (Cl C) (bl (drp x y.size)) ∧ Ahead C (bl (drp x y.size)) [(k : Int)] [(j : Int)] ∧ bl x = bl y ++ bl (drp x y.size) := by
  have h3 : bl x = bl y ++ bl (drp x y.size) := by
    rw [bl_drp, ← bl_len]
    exact pre_drop (pfx_pre hp)
  refine ⟨End.base (x := bl y) (y := bl x) (List.mem_map_of_mem (List.mem_of_getElem? hy)) (List.mem_map_of_mem (List.mem_of_getElem? hx)) (fun e => hne ?_) h3, Ahead.base hx hy hne h3, h3⟩
  have e2 := bl_inj e
  obtain ⟨l1, g1⟩ := List.getElem?_eq_some_iff.1 hx
  obtain ⟨l2, g2⟩ := List.getElem?_eq_some_iff.1 hy
  exact (List.getElem_inj hV.nd).1 (by rw [g1, g2, e2])
def zeroLeft : Array Value := #[.slice none 0 0, .slice none 0 0, .slice none 0 0, .bool false]
/-- The world in which the search begins. -/
def W0 (w : World) (A : Option Addr) (n c : Nat) : World :=
  (((((w.alloc (.cells #[.slice A n c] 22)).alloc (.cells zeroLeft 70)).alloc (.cells zeroLeft 70)).alloc (.map #[] 0)).alloc (.cells #[.map (some (w.heap.size + 1 + 1 + 1))] 101)).alloc
    (.cells #[folV (w.heap.size + 1 + 1 + 1 + 1) (w.heap.size + 1 + 1) w.heap.size (w.heap.size + 1 + 1 + 1 + 1 + 1)] 102)
theorem W0_size (w : World) (A : Option Addr) (n c : Nat) : (W0 w A n c).heap.size = w.heap.size + 6 := by simp [W0]
theorem W0_below (w : World) (A : Option Addr) (n c : Nat) : Below w.heap.size w (W0 w A n c) := by
  unfold W0
  refine (((((((Below.refl w.heap.size w).alloc ?_ _).alloc ?_ _).alloc ?_ _).alloc ?_ _).alloc ?_ _).alloc ?_ _) <;> simp <;> omega
theorem W0_ap (w : World) : Ap w.heap.size (w.heap.size + 1 + 1) (w.heap.size + 1 + 1 + 1) (w.heap.size + 1 + 1 + 1 + 1) w.heap.size (w.heap.size + 1 + 1 + 1 + 1 + 1) := by constructor <;> omega
theorem hold {w : World} {k : Nat} {o o' : Obj} (h : w.heap[k]? = some o) : (w.alloc o').heap[k]? = some o := by
  rw [Below.heap_alloc _ _ _ ((Array.getElem?_eq_some_iff.1 h).1)]
  exact h
theorem hnew {w : World} {k : Nat} (o : Obj) (h : w.heap.size = k) : (w.alloc o).heap[k]? = some o := by
  subst h
  exact heap_alloc_new w o
theorem W0_bc (w : World) (A : Option Addr) (n c : Nat) : (W0 w A n c).heap[w.heap.size]? = some (.cells #[.slice A n c] 22 (0, 0)) := hold (hold (hold (hold (hold (hnew _ rfl)))))
theorem W0_res (w : World) (A : Option Addr) (n c : Nat) : (W0 w A n c).heap[w.heap.size + 1]? = some (.cells zeroLeft 70 (0, 0)) := hold (hold (hold (hold (hnew _ (by simp)))))
theorem W0_lb (w : World) (A : Option Addr) (n c : Nat) : (W0 w A n c).heap[w.heap.size + 1 + 1]? = some (.cells zeroLeft 70 (0, 0)) := hold (hold (hold (hnew _ (by simp))))
theorem W0_bs (w : World) (A : Option Addr) (n c : Nat) : (W0 w A n c).heap[w.heap.size + 1 + 1 + 1 + 1]? = some (.cells #[.map (some (w.heap.size + 1 + 1 + 1))] 101 (0, 0)) := hold (hnew _ (by simp))
theorem W0_bf (w : World) (A : Option Addr) (n c : Nat) : (W0 w A n c).heap[w.heap.size + 1 + 1 + 1 + 1 + 1]? = some (.cells #[folV (w.heap.size + 1 + 1 + 1 + 1) (w.heap.size + 1 + 1) w.heap.size (w.heap.size + 1 + 1 + 1 + 1 + 1)] 102 (0, 0)) := hnew _ (by simp)
theorem W0_st (C : List ByteArray) (A : Option Addr) (c : Nat) (w : World) (hr : Rd w w.heap.size A (txts C)) :
    LvSt w.heap.size (w.heap.size + 1 + 1) (w.heap.size + 1 + 1 + 1) (w.heap.size + 1 + 1 + 1 + 1) w.heap.size (w.heap.size + 1 + 1 + 1 + 1 + 1) C A c (W0 w A C.length c) [] false none 0 (.slice none 0 0) (.slice none 0 0) := by
  have hs := W0_size w A C.length c
  exact ⟨W0_bs w A C.length c, W0_bc w A C.length c, W0_bf w A C.length c, W0_lb w A C.length c, ⟨rfl, .inl ⟨rfl, rfl⟩⟩, hr.below (W0_below w A C.length c) (Nat.le_refl _), .inl ⟨rfl, rfl, rfl⟩, by omega, by omega, by simp [Value.ownBlock], by simp [Value.ownBlock], by simp [Value.ownBlock], by simp [Value.ownBlock], by simp [Value.ownBlock]⟩
theorem W0_seen (w : World) (A : Option Addr) (n c : Nat) : Seen Try.prog 9 4 (W0 w A n c) (w.heap.size + 1 + 1 + 1) (nb [] false) (insB (Cl []) false) := by
  have h := seen_made Try.prog 9 4 (((w.alloc (.cells #[.slice A n c] 22)).alloc (.cells zeroLeft 70)).alloc (.cells zeroLeft 70))
  have e : (((w.alloc (.cells #[.slice A n c] 22)).alloc (.cells zeroLeft 70)).alloc (.cells zeroLeft 70)).heap.size = w.heap.size + 1 + 1 + 1 := by simp
  rw [e] at h
  exact ((h.kept (World.grownBy_alloc _ _ none) (by simp)).kept (World.grownBy_alloc _ _ none) (by simp)).congr fun x => by simp [insB]
theorem grown_set4 (w : World) (rb : Nat) (v0 v1 v2 v3 : Value) : w.grownBy ((((w.setCell ⟨rb, 0, none⟩ v0).setCell ⟨rb, 1, none⟩ v1).setCell ⟨rb, 2, none⟩ v2).setCell ⟨rb, 3, none⟩ v3) (some rb) ∧
    ∀ {cs t}, w.heap[rb]? = some (.cells cs t (0, 0)) → ((((w.setCell ⟨rb, 0, none⟩ v0).setCell ⟨rb, 1, none⟩ v1).setCell ⟨rb, 2, none⟩ v2).setCell ⟨rb, 3, none⟩ v3).heap[rb]? = some (.cells ((((cs.setIfInBounds 0 v0).setIfInBounds 1 v1).setIfInBounds 2 v2).setIfInBounds 3 v3) t (0, 0)) :=
  ⟨(((grown_setC _ _ _ _).trans (grown_setC _ _ _ _)).trans (grown_setC _ _ _ _)).trans (grown_setC _ _ _ _), fun h => blk_set (blk_set (blk_set (blk_set h 0 _) 1 _) 2 _) 3 _⟩
theorem Mt2.set {C : List ByteArray} {lb mb : Nat} {o : Option Nat} {w w' : World} {m : Bool} {va vb : Value} (h : Mt2 C lb mb o w m va vb) (rb : Nat) (hr : rb < lb) (hg : w.grownBy w' (some rb)) : Mt2 C lb mb o w' m va vb := by
  have key : ∀ {A l}, Msl lb mb o w A l → Msl lb mb o w' A l := by
    rintro A l ⟨b, f, ha, hb, hc, h1, h2, h3⟩
    refine ⟨b, f, ha, Nat.lt_of_lt_of_le hb hg.size, fun i d hd => ?_, h1, h2, h3⟩
    rw [← hc i d hd]
    unfold World.cell?
    simp only [hg.block b hb fun e => by injection e with e; omega]
  rcases h with h | ⟨h1, Aa, la, ca, Ab, l2, cb, h2, h3, h4, h5, h6⟩
  · exact .inl h
  · exact .inr ⟨h1, Aa, la, ca, Ab, l2, cb, h2, h3, key h4, key h5, h6⟩
theorem Try.sizeLeft : (Try.prog.info? 70).map (·.size) = some 4 := by kernel_rfl
/-- What leave gives. -/
def Left (C : List ByteArray) (B : Nat) (w' : World) (e : Ending) : Prop :=
  ∃ L m AE cE A1 n1 c1 A2 n2 c2 lb mb o, e = .returned (.agg #[.slice AE L.length cE, .slice A1 n1 c1, .slice A2 n2 c2, .bool m]) ∧ (∀ t, InS (Cl L) m t ↔ End (Cl C) t) ∧ safeC C = !m ∧ Bd C (Cl L) ∧ w'.ownsRow B 9 1 (.slice AE L.length cE) L.length (txts L) ∧ Mt2 C lb mb o w' m (.slice A1 n1 c1) (.slice A2 n2 c2)
set_option maxRecDepth 4000 in
set_option maxHeartbeats 4000000 in
theorem leave_any (C : List ByteArray) (A : Option Addr) (c : Nat) (w : World) (hV : Vd C) (hr : Rd w w.heap.size A (txts C)) :
    Calls Try.prog 66 #[.slice A C.length c] w fun e w' => Left C w.heap.size w' e ∧ Below w.heap.size w w' := by
  have HR := Lib.hid hr
  have HV := Lib.hid hV
  clear hr hV
  have hmm := @run_makeMap Try.prog
  go_enter Try.func66, Try.ntmps66
  go_wp2_with fail
  have e0 : ((((((w.alloc (.cells #[.slice A C.length c] 22)).alloc (.cells #[.slice none 0 0, .slice none 0 0, .slice none 0 0, .bool false] 70)).alloc (.cells #[.slice none 0 0, .slice none 0 0, .slice none 0 0, .bool false] 70)).alloc (.map #[] 0)).alloc (.cells #[.map (some (w.heap.size + 1 + 1 + 1))] 101)).alloc
    (.cells #[.func (.func 93) #[] #[.pointer (some ⟨w.heap.size + 1 + 1 + 1 + 1, 0, none⟩), .pointer (some ⟨w.heap.size + 1 + 1, 0, none⟩), .pointer (some ⟨w.heap.size, 0, none⟩), .pointer (some ⟨w.heap.size + 1 + 1 + 1 + 1 + 1, 0, none⟩)]] 102)) = W0 w A C.length c := rfl
  rw [e0]
  have ST0 := Lib.hid (W0_st C A c w HR.out)
  have SN0 := Lib.hid (W0_seen w A C.length c)
  have RS0 := Lib.hid (W0_res w A C.length c)
  have BW0 := Lib.hid (W0_below w A C.length c)
  have AP := Lib.hid (W0_ap w)
  have WZ := Lib.hid (W0_size w A C.length c)
  generalize W0 w A C.length c = W at *
  obtain ⟨rb, hrb⟩ : ∃ x, x = w.heap.size + 1 := ⟨_, rfl⟩
  obtain ⟨lb, hlb⟩ : ∃ x, x = w.heap.size + 1 + 1 := ⟨_, rfl⟩
  obtain ⟨mb, hmb⟩ : ∃ x, x = w.heap.size + 1 + 1 + 1 := ⟨_, rfl⟩
  obtain ⟨bs, hbs⟩ : ∃ x, x = w.heap.size + 1 + 1 + 1 + 1 := ⟨_, rfl⟩
  obtain ⟨bf, hbf⟩ : ∃ x, x = w.heap.size + 1 + 1 + 1 + 1 + 1 := ⟨_, rfl⟩
  rw [← hbf, ← hbs, ← hmb, ← hlb] at ST0 AP
  rw [← hbf, ← hbs, ← hmb, ← hlb, ← hrb]
  rw [← hmb] at SN0
  rw [← hrb] at RS0
  have HB := Lib.hid (And.intro hrb (And.intro hlb (And.intro hmb (And.intro hbs hbf))))
  clear hrb hlb hmb hbs hbf
  have hWZ := WZ.out
  have ap := AP.out
  have sC := blk_cell (j := 0) ST0.out.hc
  go_loopw [16] (fun i wr => ∃ k : Nat, k ≤ C.length ∧ i = .int .i64 k ∧ ∃ L' m' AE' cE' va' vb', LvSt w.heap.size lb mb bs w.heap.size bf C A c wr L' m' AE' cE' va' vb' ∧ Seen Try.prog 9 4 wr mb (nb L' m') (insB (Cl L') m') ∧ Grew C [] false (Cl L') m' ∧ Kp lb mb none W wr ∧ Ob none (Value.slice AE' L'.length cE').ownBlock W.heap.size ∧ Bs C k 0 (Cl L') m') (fun i _ => C.length - (intOf i).toNat)
  case atStart => exact ⟨0, by omega, rfl, [], false, none, 0, _, _, ST0.out, SN0.out, Grew.refl _ _ _, Kp.refl, Ob.refl, Bs.zero _ _ _⟩
  case round =>
    obtain ⟨k, hk, rfl, L', m', AE', cE', va', vb', h1, h2, h3, h4, h5, h6⟩ := hrel
    have ST2 := Lib.hid h1
    have SN2 := Lib.hid h2
    have GR := Lib.hid h3
    have KR := Lib.hid h4
    have OR := Lib.hid h5
    have DN := Lib.hid h6
    clear h1 h2 h3 h4 h5 h6
    have hC12 := HV.out.le
    by_cases hlt : k < C.length
    · obtain ⟨b3, f3, x, rfl, hd, hc0⟩ := (ST2.out.hr).txt k hlt
      have HD := Lib.hid hd.out
      have sc := blk_cell (j := 0) ST2.out.hc
      clear hd
      go_wp2_with fail
      have h00 : ∃ L3 m3 AE3 cE3 va3 vb3, LvSt w.heap.size lb mb bs w.heap.size bf C (some ⟨b3, f3, none⟩) c wr L3 m3 AE3 cE3 va3 vb3 ∧ Seen Try.prog 9 4 wr mb (nb L3 m3) (insB (Cl L3) m3) ∧ Grew C [] false (Cl L3) m3 ∧ Kp lb mb none W wr ∧ Ob none (Value.slice AE3 L3.length cE3).ownBlock W.heap.size ∧ Bs C k 0 (Cl L3) m3 := ⟨L', m', AE', cE', va', vb', ST2.out, SN2.out, GR.out, KR.out, OR.out, DN.out⟩
      clear ST2 SN2 GR KR OR DN sc
      clear L' m' AE' cE' va' vb'
      have H00 := Lib.hid h00
      clear h00
      go_loopw [23] (fun i wr => ∃ j : Nat, j ≤ C.length ∧ i = .int .i64 j ∧ ∃ L' m' AE' cE' va' vb', LvSt w.heap.size lb mb bs w.heap.size bf C (some ⟨b3, f3, none⟩) c wr L' m' AE' cE' va' vb' ∧ Seen Try.prog 9 4 wr mb (nb L' m') (insB (Cl L') m') ∧ Grew C [] false (Cl L') m' ∧ Kp lb mb none W wr ∧ Ob none (Value.slice AE' L'.length cE').ownBlock W.heap.size ∧ Bs C k j (Cl L') m') (fun i _ => C.length - (intOf i).toNat)
      case atStart => exact ⟨0, by omega, rfl, H00.out⟩
      case round =>
        obtain ⟨j, hj, rfl, L', m', AE', cE', va', vb', h1, h2, h3, h4, h5, h6⟩ := hrel
        have ST2 := Lib.hid h1
        have SN2 := Lib.hid h2
        have GR := Lib.hid h3
        have KR := Lib.hid h4
        have OR := Lib.hid h5
        have DN := Lib.hid h6
        clear h1 h2 h3 h4 h5 h6
        by_cases hlt2 : j < C.length
        · obtain ⟨b4, f4, y, hbf, hd, hc1⟩ := (ST2.out.hr).txt j hlt2
          cases hbf
          have HD2 := Lib.hid hd.out
          clear hd
          have HC1 := Lib.hid (CutPrefix_any x y)
          cases hp : pfx y x
          · rw [hp] at HC1
            have HP := Lib.hid hp
            clear hp
            go_wp2_with fail
            refine (HC1.out _).mono ?_
            rintro e w' ⟨rfl, rfl⟩
            go_wp2_with fail
            go_roundw
            case rel => exact ⟨j + 1, by omega, by go_num, L', m', AE', cE', va', vb', ST2.out, SN2.out, GR.out, KR.out, OR.out, DN.out.next HD.out HD2.out (Grew.refl _ _ _) (fun _ t ht => by
              have h1 : ¬ bl y <+: bl x := of_decide_eq_false HP.out
              exact absurd ⟨t, ht.symm⟩ h1)⟩
            case measure => simp [intOf]; omega
          · rw [hp] at HC1
            by_cases hkj : k = j
            · subst hkj
              have e1 : ((k : Int) != (k : Int)) = false := by simp
              clear hp
              go_wp2_with fail
              refine (HC1.out _).mono ?_
              rintro e w' ⟨rfl, rfl⟩
              go_wp2_with fail
              go_roundw
              case rel => exact ⟨k + 1, by omega, by go_num, L', m', AE', cE', va', vb', ST2.out, SN2.out, GR.out, KR.out, OR.out, DN.out.next HD.out HD2.out (Grew.refl _ _ _) (fun h => absurd rfl h)⟩
              case measure => simp [intOf]; omega
            · have e1 : ((k : Int) != (j : Int)) = true := by simp; omega
              have HK := Lib.hid hkj
              have HP := Lib.hid (base_end HV.out HD.out HD2.out hkj hp)
              have BD2 := Lib.hid ((Bd.nil_ C).grew GR.out)
              have hL' := (BD2.out.bound HV.out)
              rw [cl_len] at hL'
              have cf : wr.cell? ⟨bf, 0, none⟩ = some (.func (.func 93) #[] #[.pointer (some ⟨bs, 0, none⟩), .pointer (some ⟨lb, 0, none⟩), .pointer (some ⟨w.heap.size, 0, none⟩), .pointer (some ⟨bf, 0, none⟩)]) := (blk_cell (j := 0) ST2.out.hf).trans rfl
              clear hp hkj
              go_wp2_with fail
              refine (HC1.out _).mono ?_
              rintro e w' ⟨rfl, rfl⟩
              go_wp2_with fail
              have GA := Lib.hid ((World.grownBy_alloc wr (.cells #[.int .i64 (k : Int)] 3) none).trans (World.grownBy_alloc (wr.alloc (.cells #[.int .i64 (k : Int)] 3)) (.cells #[.int .i64 (j : Int)] 3) none))
              have ST3 := Lib.hid (ST2.out.stay AP.out GA.out (.inl rfl))
              have SN3 := Lib.hid (SN2.out.kept GA.out (by simp))
              have KA := Lib.hid (Kp.grown (lb := lb) (mb := mb) (o := (Value.slice AE' L'.length cE').ownBlock) GA.out (.inl rfl))
              have l1 := lt_of_block ST2.out.hl
              have l2 := ST2.out.hmb
              have l3 := own_ge ST2.out.hE
              have M1 := Lib.hid (show Msl lb mb (Value.slice AE' L'.length cE').ownBlock ((wr.alloc (.cells #[.int .i64 (k : Int)] 3)).alloc (.cells #[.int .i64 (j : Int)] 3)) (some ⟨wr.heap.size, 0, none⟩) [(k : Int)] from
                Msl.lit (e := 3) (w := wr) (cell_up (by rw [blk_cell (heap_alloc_new wr _)]; rfl)) (by simp; omega) l1 l2 fun q hq => (l3 q hq).2)
              have M2 := Lib.hid (show Msl lb mb (Value.slice AE' L'.length cE').ownBlock ((wr.alloc (.cells #[.int .i64 (k : Int)] 3)).alloc (.cells #[.int .i64 (j : Int)] 3)) (some ⟨wr.heap.size + 1, 0, none⟩) [(j : Int)] from
                Msl.lit (e := 3) (w := wr) (by rw [blk_cell (hnew (.cells #[.int .i64 (j : Int)] 3) (by simp))]; rfl) (by simp) (by omega) (by omega) fun q hq => by have := (l3 q hq).2; omega)
              clear l1 l2 l3
              refine (follow_any w.heap.size lb mb bs w.heap.size bf AP.out C (some ⟨b3, f3, none⟩) c HV.out 145 (drp x y.size) [(k : Int)] [(j : Int)] (some ⟨wr.heap.size, 0, none⟩) (some ⟨wr.heap.size + 1, 0, none⟩) 1 1 _ L' m' AE' cE' va' vb' (by omega) ST3.out SN3.out HP.out.1 HP.out.2.1 (by simp) (Nat.le_refl _) (Nat.le_refl _) BD2.out M1.out M2.out).mono ?_
              rintro e w4 ⟨rfl, L4, m4, AE4, cE4, va4, vb4, q1, q2, q3, q4, q5, q6⟩
              have Q1 := Lib.hid q1
              have Q2 := Lib.hid q2
              have Q3 := Lib.hid (GR.out.trans q3)
              have Q5 := Lib.hid ((KR.out.trans OR.out KA.out).trans OR.out q5)
              have Q6 := Lib.hid (OR.out.trans q6 (by have := KR.out.2.2.2.1; have := GA.out.size; omega))
              have Q7 := Lib.hid (DN.out.next HD.out HD2.out q3 (fun _ t ht => by
                have e3 : t = bl (drp x y.size) := List.append_cancel_left (ht.symm.trans HP.out.2.2)
                rw [e3]; exact q4))
              clear q1 q2 q3 q4 q5 q6
              go_wp2_with fail
              go_roundw
              case rel => exact ⟨j + 1, by omega, by go_num, L4, m4, AE4, cE4, va4, vb4, Q1.out, Q2.out, Q3.out, Q5.out, Q6.out, Q7.out⟩
              case measure => simp [intOf]; omega
        · have hks : j = C.length := by omega
          subst hks
          have DR := Lib.hid DN.out.row
          go_wp2_with fail
          go_roundw
          case rel => exact ⟨k + 1, by omega, by go_num, L', m', AE', cE', va', vb', ST2.out, SN2.out, GR.out, KR.out, OR.out, DR.out⟩
          case measure => simp [intOf]; omega
    · have hks : k = C.length := by omega
      subst hks
      have LB := ST2.out.hl
      have c0 := blk_cell (j := 0) LB
      have c1 := blk_cell (j := 1) LB
      have c2 := blk_cell (j := 2) LB
      have c3 := blk_cell (j := 3) LB
      have hRB := HB.out
      have RB := (KR.out.2.2.2.2 rb (by omega) (by omega) (by omega) (by simp)).trans RS0.out
      have d0 := (blk_cell (j := 0) RB).trans (show _ = some (.slice none 0 0) from rfl)
      have f0 := blk_free RB 0
      have KF := Lib.hid (grown_set4 wr rb (.slice AE' L'.length cE') va' vb' (.bool m'))
      have hM := ST2.out.hM
      have hE := ST2.out.hE
      have HE := Lib.hid (show (((((wr.setCell ⟨rb, 0, none⟩ (.slice AE' L'.length cE')).setCell ⟨rb, 1, none⟩ va').setCell ⟨rb, 2, none⟩ vb').setCell ⟨rb, 3, none⟩ (.bool m')).ownsRow w.heap.size 9 1 (.slice AE' L'.length cE') L'.length (txts L')) from own_keepB hE fun q hq => KF.out.1.block q (own_ge hE q hq).2 fun e => by
        injection e with e
        rcases OR.out with h | ⟨z, h, hz⟩
        · rw [hq] at h; cases h
        · rw [hq] at h
          injection h with h
          omega)
      have HM2 := Lib.hid (hM.set rb (by omega) KF.out.1)
      obtain ⟨A1, n1, c1', hva⟩ : ∃ A1 n1 c1, va' = .slice A1 n1 c1 := by
        rcases hM with ⟨_, h, _⟩ | ⟨_, _, _, _, _, _, _, h, _⟩
        · exact ⟨_, _, _, h⟩
        · exact ⟨_, _, _, h⟩
      obtain ⟨A2, n2, c2', hvb⟩ : ∃ A1 n1 c1, vb' = .slice A1 n1 c1 := by
        rcases hM with ⟨_, _, h⟩ | ⟨_, _, _, _, _, _, _, _, h, _⟩
        · exact ⟨_, _, _, h⟩
        · exact ⟨_, _, _, h⟩
      subst hva hvb
      have RBH := Lib.hid RB
      have R1 := blk_set RB 0 (.slice AE' L'.length cE')
      have R2 := blk_set R1 1 (.slice A1 n1 c1')
      have R3 := blk_set R2 2 (.slice A2 n2 c2')
      have d4 := (blk_cell (j := 1) R1).trans (show _ = some (.slice none 0 0) from rfl)
      have f4 := blk_free R1 1
      have d5 := (blk_cell (j := 2) R2).trans (show _ = some (.slice none 0 0) from rfl)
      have f5 := blk_free R2 2
      have d6 := (blk_cell (j := 3) R3).trans (show _ = some (.bool false) from rfl)
      have f6 := blk_free R3 3
      clear hRB LB RB hM hE R1 R2 R3
      go_wp2_with fail
      (try simp only [Exit.inBlock, Exit.then])
      refine bodyPost_ret (v := .agg #[.slice AE' L'.length cE', .slice A1 n1 c1', .slice A2 n2 c2', .bool m']) (results_cell_row rfl _ _ rb 70 _ _ _ rfl (KF.out.2 RBH.out) Try.underlying70 rfl Try.sizeLeft) rfl ⟨?_, ?_⟩
      · have GG := met_safe HV.out GR.out DN.out.all
        exact ⟨L', m', AE', cE', _, _, _, _, _, _, lb, mb, _, rfl, GG.1, GG.2, (Bd.nil_ C).grew GR.out, HE.out, HM2.out⟩
      · exact (BW0.out.trans (KR.out.below (by have := AP.out.l; omega) (by have := AP.out.m; omega) (by simp) (Nat.le_of_lt (by have := WZ.out; omega)))).grown KF.out.1 (by have := WZ.out; have := KR.out.2.2.2.1; omega) fun q hq => by injection hq with hq; have := HB.out; omega
end Go.Proofs.Ytjongjndoaojnaa
