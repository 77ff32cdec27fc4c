/-
  Sorting by insertion, of numbers, by a function: the walks of insertionSortCmpFunc, stableCmpFunc, SortStableFunc. Condition: the function compares by a key; few numbers.
-/
import Derived.Test.YtjongjndoaojnaaFl1
import Derived.Deep.RegionLaw
namespace Go.Proofs.Ytjongjndoaojnaa
open Go.RowKit
set_option linter.unusedVariables false

def nats (l : List Nat) : List Value := l.map fun (i : Nat) => .int .i64 (i : Int)
def natsC (l : List Nat) (sp : List Value) : Array Value := (nats l ++ sp).toArray
theorem natsC_at {l : List Nat} {sp : List Value} {k x : Nat} (h : l[k]? = some x) : (natsC l sp)[k]? = some (.int .i64 (x : Int)) := by
  have hk := (List.getElem?_eq_some_iff.1 h).1
  unfold natsC nats
  rw [List.getElem?_toArray, List.getElem?_append_left (by simpa using hk), List.getElem?_map, h]
  rfl
theorem natsC_swap (A B : List Nat) (x y : Nat) (sp : List Value) : ((natsC (A ++ y :: x :: B) sp).setIfInBounds (A.length + 1) (.int .i64 (y : Int))).setIfInBounds A.length (.int .i64 (x : Int)) = natsC (A ++ x :: y :: B) sp := by
  unfold natsC nats
  rw [List.setIfInBounds_toArray, List.setIfInBounds_toArray]
  congr 1
  simp
/-- Nothing but the block g has turned. -/
def Only (g : Nat) (w w' : World) : Prop := w'.os = w.os ∧ w'.tape = w.tape ∧ w'.output = w.output ∧ w'.heap.size = w.heap.size ∧ ∀ b, b ≠ g → w'.heap[b]? = w.heap[b]?
theorem Only.refl (g : Nat) (w : World) : Only g w w := ⟨rfl, rfl, rfl, rfl, fun _ _ => rfl⟩
theorem Only.set {g : Nat} {w w' : World} (h : Only g w w') (i : Nat) (u : Value) : Only g w (w'.setCell ⟨g, i, none⟩ u) := by
  refine ⟨h.1, h.2.1, h.2.2.1, ?_, fun b hb => ?_⟩
  · rw [← h.2.2.2.1]
    simp [World.setCell]
  · rw [← h.2.2.2.2 b hb]
    simp [World.setCell, Array.getElem?_modify, Ne.symm hb]
theorem Only.drewN {g : Nat} {w w' : World} (h : Only g w w') (n : Nat) : Only g w (w'.drewN n) := h
theorem Only.below {g B : Nat} {w w' : World} (h : Only g w w') (hB : B ≤ g) : Below B w w' := ⟨h.1, h.2.1, h.2.2.1, Nat.le_of_eq h.2.2.2.1.symm, fun k hk => h.2.2.2.2 k (by omega)⟩
theorem Only.rd {g B : Nat} {w w' : World} {A : Option Addr} {xs : List Value} (h : Only g w w') (hr : Rd w B A xs) (hA : ∀ b o, A = some ⟨b, o, none⟩ → b ≠ g) : Rd w' B A xs := by
  rcases hr with rfl | ⟨b, o, ha, hb, hc⟩
  · exact .inl rfl
  · refine .inr ⟨b, o, ha, hb, fun i u hu => ?_⟩
    rw [← hc i u hu]
    unfold World.cell?
    simp only [h.2.2.2.2 b (hA b o ha)]
theorem qn {P : Program} {f : FuncId} {args : Array Value} {w : World} {n : Nat} {v : Value} (h : Calls P f args (w.drewN n) fun e w' => e = .returned v ∧ ∃ m, w' = (w.drewN n).drewN m) :
    Calls P f args (w.drewN n) fun e w'' => e = .returned v ∧ ∃ m, w'' = w.drewN m := h.mono fun _ _ ⟨he, m, hm⟩ => ⟨he, _, hm.trans (World.drewN_drewN _ _ _)⟩
theorem take_one_srt (key : Nat → Int) (l : List Nat) : srt key (l.take 1) = l.take 1 := by
  cases l with
  | nil => rfl
  | cons x r => rfl
set_option maxRecDepth 4000 in
set_option maxHeartbeats 4000000 in
theorem insI_any (g cap bx : Nat) (l : List Nat) (sp : List Value) (key : Nat → Int) (w : World) (hg : w.heap[g]? = some (.cells (natsC l sp) 3 (0, 0))) (hcap : l.length ≤ cap) (h20 : l.length ≤ 20)
    (HF : ∀ w', Only g w w' → ∀ i j : Nat, i ∈ l → j ∈ l → Calls Try.prog 100 #[.int .i64 i, .int .i64 j, .pointer (some ⟨bx, 0, none⟩)] w' fun e w'' => e = .returned (.int .i64 (cmpI (key i) (key j))) ∧ ∃ m, w'' = w'.drewN m) :
    Calls Try.prog 128 #[.slice (some ⟨g, 0, none⟩) l.length cap, .int .i64 0, .int .i64 (l.length : Int), .func (.func 100) #[] #[.pointer (some ⟨bx, 0, none⟩)]] w fun e w' =>
      e = .returned (.tuple #[]) ∧ w'.heap[g]? = some (.cells (natsC (srt key l) sp) 3 (0, 0)) ∧ Only g w w' := by
  have HFF := Lib.hid HF
  have HG := Lib.hid hg
  clear HF hg
  go_enter Try.func128, Try.ntmps128
  go_wp2_with fail
  go_loopw [8] (fun i wr => ∃ k : Nat, 1 ≤ k ∧ (k ≤ l.length ∨ k = 1) ∧ i = .int .i64 k ∧ wr.heap[g]? = some (.cells (natsC (srt key (l.take k) ++ l.drop k) sp) 3 (0, 0)) ∧ Only g w wr) (fun i _ => l.length - (intOf i).toNat)
  case atStart => exact ⟨1, by omega, .inr rfl, rfl, by rw [take_one_srt, List.take_append_drop]; exact HG.out, Only.refl _ _⟩
  case round =>
    obtain ⟨k, hk1, hk, rfl, h1, h2⟩ := hrel
    have G1 := Lib.hid h1
    have O1 := Lib.hid h2
    clear h1 h2
    by_cases hlt : k < l.length
    · have hkk : k ≤ l.length := by omega
      obtain ⟨x, hx⟩ : ∃ x, l[k]? = some x := ⟨_, List.getElem?_eq_getElem hlt⟩
      have HX := Lib.hid hx
      obtain ⟨P, hP⟩ : ∃ P, P = srt key (l.take k) := ⟨_, rfl⟩
      obtain ⟨R, hR⟩ : ∃ R, R = l.drop (k + 1) := ⟨_, rfl⟩
      have HPl := Lib.hid (show P.length = k by rw [hP, srt_len, List.length_take]; omega)
      have HPs := Lib.hid (show P.Pairwise (fun a b => key a ≤ key b) by rw [hP]; exact srt_sorted _ _)
      have HPm := Lib.hid (show ∀ y ∈ P, y ∈ l from fun y hy => List.mem_of_mem_take ((srt_perm key (l.take k)).mem_iff.1 (hP ▸ hy)))
      have HXm := Lib.hid (List.mem_of_getElem? hx)
      have HNX := Lib.hid (show srt key (l.take (k + 1)) ++ l.drop (k + 1) = ins key x P ++ R by rw [List.take_add_one, hx, hP, hR]; simp only [Option.toList_some]; rw [srt_snoc])
      have G2 := Lib.hid (show wr.heap[g]? = some (.cells (natsC (P.take k ++ x :: P.drop k ++ R) sp) 3 (0, 0)) by
        have h := G1.out
        obtain ⟨hk', he⟩ := List.getElem?_eq_some_iff.1 hx
        rw [← hP, List.drop_eq_getElem_cons hlt, he, ← hR] at h
        rw [List.take_of_length_le (by rw [HPl.out]; omega), List.drop_of_length_le (by rw [HPl.out]; omega)]
        simpa using h)
      clear G1 hx hP hR
      go_wp2_with fail
      have G3 := Lib.hid (And.intro G2.out O1.out)
      clear G2 O1
      go_loopw [9] (fun i wr => ∃ j : Nat, i = .int .i64 j ∧ Rnd key P x j ∧ wr.heap[g]? = some (.cells (natsC (P.take j ++ x :: P.drop j ++ R) sp) 3 (0, 0)) ∧ Only g w wr) (fun i _ => (intOf i).toNat)
      case atStart => exact ⟨k, rfl, by have := Rnd.start key P x; rw [HPl.out] at this; exact this, G3.out.1, G3.out.2⟩
      case round =>
        obtain ⟨j, rfl, hr, h1, h2⟩ := hrel
        have RN := Lib.hid hr
        have G1 := Lib.hid h1
        have O1 := Lib.hid h2
        have hjP : j ≤ k := by have := hr.le; rw [HPl.out] at this; exact this
        clear h1 h2 hr
        rcases Nat.eq_zero_or_pos j with hj0 | hj0
        · subst hj0
          have e1 : decide ((0 : Int) < ((0 : Nat) : Int)) = false := by decide
          have HD := Lib.hid (RN.out.done HPs.out (.inl rfl))
          go_wp2_with fail
          go_quiet (fail)
          go_wp2_with fail
          go_roundw
          case rel => exact ⟨k + 1, by omega, .inl (by omega), by go_num, by rw [HNX.out, ← HD.out]; exact G1.out, O1.out⟩
          case measure => simp [intOf]; omega
        · obtain ⟨j, rfl⟩ : ∃ i, j = i + 1 := ⟨j - 1, by omega⟩
          obtain ⟨y, hy⟩ : ∃ y, P[j]? = some y := ⟨_, List.getElem?_eq_getElem (by rw [HPl.out]; omega)⟩
          have HY := Lib.hid hy
          have HT := Lib.hid (show P.take (j + 1) ++ x :: P.drop (j + 1) ++ R = P.take j ++ y :: x :: (P.drop (j + 1) ++ R) by rw [List.take_add_one, hy]; simp)
          have HT2 := Lib.hid (show P.take j ++ x :: P.drop j ++ R = P.take j ++ x :: y :: (P.drop (j + 1) ++ R) by
            obtain ⟨h1, h2⟩ := List.getElem?_eq_some_iff.1 hy
            rw [List.drop_eq_getElem_cons h1, h2]; simp)
          have G2 := G1.out
          rw [HT.out] at G2
          have HTl : (P.take j).length = j := by rw [List.length_take, HPl.out]; omega
          have c0 : wr.cell? ⟨g, j, none⟩ = some (.int .i64 (y : Int)) := by rw [blk_cell G2]; exact natsC_at (by rw [List.getElem?_append_right (by omega), HTl]; simp)
          have c1 : wr.cell? ⟨g, j + 1, none⟩ = some (.int .i64 (x : Int)) := by rw [blk_cell G2]; exact natsC_at (by rw [List.getElem?_append_right (by omega), HTl]; simp)
          have e1 : decide ((0 : Int) < ((j + 1 : Nat) : Int)) = true := by simp
          have HQ := Lib.hid (fun w' (h : Only g w w') => HFF.out w' h x y HXm.out (HPm.out y (List.mem_of_getElem? hy)))
          have b0 : (0 : Int) ≤ (j : Int) := by omega
          have b1 : (j : Int) < (l.length : Int) := by omega
          have b2 : (j : Int) + 1 < (l.length : Int) := by omega
          have b3 : (0 : Int) ≤ (j : Int) + 1 := by omega
          have b4 : ((j : Int) + 1).toNat = j + 1 := by omega
          have b5 : IntKind.i64.wrap (j : Int) = (j : Int) := by rw [IntKind.wrap_i64]; omega
          have GS := Lib.hid (show ((wr.setCell ⟨g, j + 1, none⟩ (.int .i64 (y : Int))).setCell ⟨g, j, none⟩ (.int .i64 (x : Int))).heap[g]? = some (.cells (natsC (P.take j ++ x :: P.drop j ++ R) sp) 3 (0, 0)) by
            have h := blk_set (blk_set G2 (j + 1) (.int .i64 (y : Int))) j (.int .i64 (x : Int))
            have h2 := natsC_swap (P.take j) (P.drop (j + 1) ++ R) x y sp
            rw [HTl] at h2
            rw [h, h2, HT2.out])
          have OS := Lib.hid ((O1.out.set (j + 1) (.int .i64 (y : Int))).set j (.int .i64 (x : Int)))
          clear hy HTl
          cases hlt2 : decide (key x < key y)
          · have HD := Lib.hid (RN.out.done HPs.out (.inr ⟨y, HY.out, of_decide_eq_false hlt2⟩))
            have e2 : decide (cmpI (key x) (key y) < 0) = false := by rw [cmpI_neg, hlt2]
            clear hlt2
            go_wp2_with fail
            go_quiet ((go_at_call 100; exact qn (HQ.out _ O1.out)))
            go_wp2_with fail
            go_roundw
            case rel => exact ⟨k + 1, by omega, .inl (by omega), by go_num, by rw [HNX.out, ← HD.out]; exact G1.out, O1.out⟩
            case measure => simp [intOf]; omega
          · have RN2 := Lib.hid (RN.out.next HY.out (of_decide_eq_true hlt2))
            have e2 : decide (cmpI (key x) (key y) < 0) = true := by rw [cmpI_neg, hlt2]
            clear hlt2
            go_wp2_with fail
            go_quiet ((go_at_call 100; exact qn (HQ.out _ O1.out)))
            go_wp2_with fail
            have f0 := blk_free G2 (j + 1)
            have f1 := blk_free G2 j
            go_region
            go_wp2_with fail
            go_roundw
            case rel => exact ⟨j, by go_num, RN2.out, GS.out, OS.out⟩
            case measure => simp [intOf]
    · have hkl : l.take k = l := List.take_of_length_le (by omega)
      have hkd : l.drop k = [] := List.drop_of_length_le (by omega)
      have GE := Lib.hid (show wr.heap[g]? = some (.cells (natsC (srt key l) sp) 3 (0, 0)) by
        have h := G1.out
        rw [hkl, hkd, List.append_nil] at h
        exact h)
      clear hkl hkd
      go_wp2_with fail
      refine bodyPost_end (results_none rfl _ _ _) rfl ⟨rfl, GE.out, O1.out⟩
set_option maxRecDepth 4000 in
set_option maxHeartbeats 1000000 in
theorem stabI_any (g cap bx : Nat) (l : List Nat) (sp : List Value) (key : Nat → Int) (w : World) (hg : w.heap[g]? = some (.cells (natsC l sp) 3 (0, 0))) (hcap : l.length ≤ cap) (h20 : l.length ≤ 19)
    (HF : ∀ w', Only g w w' → ∀ i j : Nat, i ∈ l → j ∈ l → Calls Try.prog 100 #[.int .i64 i, .int .i64 j, .pointer (some ⟨bx, 0, none⟩)] w' fun e w'' => e = .returned (.int .i64 (cmpI (key i) (key j))) ∧ ∃ m, w'' = w'.drewN m) :
    Calls Try.prog 117 #[.slice (some ⟨g, 0, none⟩) l.length cap, .int .i64 (l.length : Int), .func (.func 100) #[] #[.pointer (some ⟨bx, 0, none⟩)]] w fun e w' =>
      e = .returned (.tuple #[]) ∧ w'.heap[g]? = some (.cells (natsC (srt key l) sp) 3 (0, 0)) ∧ Only g w w' := by
  have HI := Lib.hid (insI_any g cap bx l sp key w hg hcap (by omega) HF)
  have e1 : decide ((20 : Int) ≤ (l.length : Int)) = false := by simp; omega
  have e2 : decide ((20 : Int) < (l.length : Int)) = false := by simp; omega
  have e3 : decide (20 ≤ l.length) = false := by simp; omega
  have e4 : decide (20 < l.length) = false := by simp; omega
  clear hg HF
  go_enter Try.func117, Try.ntmps117
  go_wp2_with fail
  go_loop [7, 8] (fun a i => a = .int .i64 0 ∧ i = .int .i64 20) (fun _ _ => 0)
  case atStart => exact ⟨rfl, rfl⟩
  case round =>
    obtain ⟨rfl, rfl⟩ := hrel
    go_wp2_with fail
    refine HI.out.mono ?_
    rintro e w1 ⟨rfl, h1, h2⟩
    have G1 := Lib.hid h1
    have O1 := Lib.hid h2
    clear h1 h2
    go_wp2_with fail
    go_loopw [6] (fun i wr => i = .int .i64 20 ∧ wr = w1) (fun _ _ => 0)
    case atStart => exact ⟨rfl, rfl⟩
    case round =>
      obtain ⟨rfl, hww⟩ := hrel
      rw [hww]
      clear hww
      go_wp2_with fail
      refine bodyPost_end (results_none rfl _ _ _) rfl ⟨rfl, G1.out, O1.out⟩
theorem SortI_any (g cap bx : Nat) (l : List Nat) (sp : List Value) (key : Nat → Int) (w : World) (hg : w.heap[g]? = some (.cells (natsC l sp) 3 (0, 0))) (hcap : l.length ≤ cap) (h20 : l.length ≤ 19)
    (HF : ∀ w', Only g w w' → ∀ i j : Nat, i ∈ l → j ∈ l → Calls Try.prog 100 #[.int .i64 i, .int .i64 j, .pointer (some ⟨bx, 0, none⟩)] w' fun e w'' => e = .returned (.int .i64 (cmpI (key i) (key j))) ∧ ∃ m, w'' = w'.drewN m) :
    Calls Try.prog 99 #[.slice (some ⟨g, 0, none⟩) l.length cap, .func (.func 100) #[] #[.pointer (some ⟨bx, 0, none⟩)]] w fun e w' =>
      e = .returned (.tuple #[]) ∧ w'.heap[g]? = some (.cells (natsC (srt key l) sp) 3 (0, 0)) ∧ Only g w w' := by
  have HI := Lib.hid (stabI_any g cap bx l sp key w hg hcap (by omega) HF)
  clear hg HF
  go_enter Try.func99, Try.ntmps99
  go_wp2_with fail
  refine HI.out.mono ?_
  rintro e w1 ⟨rfl, h1, h2⟩
  go_wp2_with fail
  refine bodyPost_end (results_none rfl _ _ _) rfl ⟨rfl, h1, h2⟩
end Go.Proofs.Ytjongjndoaojnaa
