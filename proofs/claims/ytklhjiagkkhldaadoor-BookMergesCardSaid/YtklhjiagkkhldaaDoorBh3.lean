/-
  The first line of a book in the reference: the walk of head. Condition: sizes.
-/
import Derived.Test.YtklhjiagkkhldaaDoorBh2
import Derived.Test.YtklhjiagkkhldaaDoorSap
import Derived.Laws.OwnMore
namespace Go.Proofs.YtklhjiagkkhldaaDoor
open Go.RowKit
set_option linter.unusedVariables false

/-! ### Words -/
def wsG (p : List (List UInt8) × List UInt8) (c : UInt8) : List (List UInt8) × List UInt8 := if c = 32 then (p.1 ++ [p.2], []) else (p.1, p.2 ++ [c])
def wsF (l : List UInt8) : List (List UInt8) × List UInt8 := l.foldl wsG ([], [])
def wds (p : List (List UInt8) × List UInt8) : List (List UInt8) := p.1 ++ [p.2]
theorem wsF_snoc (l : List UInt8) (c : UInt8) : wsF (l ++ [c]) = wsG (wsF l) c := by unfold wsF; rw [List.foldl_append]; rfl
theorem wsG_fold : ∀ (l : List UInt8) (p : List (List UInt8) × List UInt8), (32 : UInt8) ∉ l → l.foldl wsG p = (p.1, p.2 ++ l)
  | [], p, _ => by simp
  | c :: r, p, h => by
    rw [List.foldl_cons, wsG_fold r _ (fun hm => h (List.mem_cons_of_mem _ hm))]
    unfold wsG
    rw [if_neg (fun e => h (by rw [e]; simp))]
    simp
theorem wsF_canon (n x : Nat) : wsF (canon n x) = ([[112, 97, 103, 101, 115], D n], D x) := by
  have e : canon n x = [112, 97, 103, 101, 115] ++ ([32] ++ (D n ++ ([32] ++ D x))) := by simp [canon, pgW]
  unfold wsF
  rw [e, List.foldl_append, List.foldl_append, List.foldl_append, List.foldl_append, wsG_fold (D x) _ (fun hm => no_space hm rfl), wsG_fold (D n) _ (fun hm => no_space hm rfl), wsG_fold [112, 97, 103, 101, 115] _ (by decide)]
  rfl
theorem wsF_len : ∀ (k : Nat) (l : List UInt8), l.length = k → (wsF l).1.length + (wsF l).2.length ≤ l.length
  | 0, l, h => by rw [List.eq_nil_of_length_eq_zero h]; simp [wsF]
  | k + 1, l, h => by
    obtain ⟨m, c, rfl⟩ : ∃ m c, l = m ++ [c] := ⟨l.dropLast, l.getLast (by intro e; rw [e] at h; cases h), (List.dropLast_concat_getLast _).symm⟩
    have hm : m.length = k := by rw [List.length_append] at h; simpa using h
    have := wsF_len k m hm
    rw [wsF_snoc]
    unfold wsG
    split
    · simp; omega
    · simp; omega
theorem wsF_word (l : List UInt8) : ∀ x ∈ wds (wsF l), x.length ≤ l.length := by
  have h : ∀ (k : Nat) (l : List UInt8), l.length = k → ∀ x ∈ wds (wsF l), x.length ≤ l.length := by
    intro k
    induction k with
    | zero =>
      intro l hl x hx
      rw [List.eq_nil_of_length_eq_zero hl] at hx
      rw [show x = [] by simpa [wds, wsF] using hx]
      simp
    | succ k ih =>
      intro l h x hx
      obtain ⟨m, c, rfl⟩ : ∃ m c, l = m ++ [c] := ⟨l.dropLast, l.getLast (by intro e; rw [e] at h; cases h), (List.dropLast_concat_getLast _).symm⟩
      have hm : m.length = k := by rw [List.length_append] at h; simpa using h
      have hi := ih m hm
      have hl := wsF_len k m hm
      rw [wsF_snoc] at hx
      unfold wsG at hx
      split at hx
      · rcases List.mem_append.1 hx with hx | hx
        · have := hi x hx
          simp; omega
        · rw [List.mem_singleton.1 hx]; simp
      · rcases List.mem_append.1 hx with hx | hx
        · have := hi x (List.mem_append_left _ hx)
          simp; omega
        · rw [List.mem_singleton.1 hx]; simp; omega
  exact h l.length l rfl
/-- What head finds. -/
def hwW (s : ByteArray) : List (List UInt8) := wds (wsF ((bl s).take (s.size - 1)))
def hwA (s : ByteArray) : Int := nmI ((hwW s).getD 1 [])
def hwC (s : ByteArray) : Int := nmI ((hwW s).getD 2 [])
def hwN (s : ByteArray) : Int := if (hwW s).length = 3 then hwA s else 0
def hwX (s : ByteArray) : Int := if (hwW s).length = 3 then hwC s else 0
def hwT (a c : Int) (s : ByteArray) : Bool := (decide (0 ≤ a) && (decide (a ≤ 64) && (smB c && decide (bl s = hdL a.toNat c.toNat))))
def hwB (s : ByteArray) : Bool := if (hwW s).length = 3 then hwT (hwA s) (hwC s) s else false
theorem hw_ok {s : ByteArray} (h : hwB s = true) : ∃ n x : Nat, hwN s = n ∧ hwX s = x ∧ n ≤ 64 ∧ x < 2147483647 ∧ bl s = hdL n x := by
  unfold hwB at h
  by_cases h3 : (hwW s).length = 3
  · rw [if_pos h3] at h
    unfold hwT at h
    simp only [Bool.and_eq_true, decide_eq_true_eq] at h
    obtain ⟨h1, h2, h4, h5⟩ := h
    have h6 := smB_iff.1 h4
    unfold Sm1 at h6
    refine ⟨(hwA s).toNat, (hwC s).toNat, ?_, ?_, by omega, by omega, h5⟩
    · unfold hwN; rw [if_pos h3]; omega
    · unfold hwX; rw [if_pos h3]; omega
  · rw [if_neg h3] at h; cases h
theorem hw_of {s : ByteArray} {n x : Nat} (h1 : n ≤ 64) (h2 : x < 2147483647) (h : bl s = hdL n x) : hwB s = true ∧ hwN s = n ∧ hwX s = x := by
  have ht : (bl s).take (s.size - 1) = canon n x := by
    rw [← bl_len, h]
    unfold hdL
    simp
  have hw : hwW s = [[112, 97, 103, 101, 115], D n, D x] := by unfold hwW wds; rw [ht, wsF_canon]; rfl
  have hA : hwA s = n := by unfold hwA; rw [hw]; exact nm_D (by omega)
  have hC : hwC s = x := by unfold hwC; rw [hw]; exact nm_D (by omega)
  have h3 : (hwW s).length = 3 := by rw [hw]; rfl
  refine ⟨?_, by unfold hwN; rw [if_pos h3, hA], by unfold hwX; rw [if_pos h3, hC]⟩
  unfold hwB hwT
  rw [if_pos h3, hA, hC, decide_eq_true (by omega), decide_eq_true (by omega), smB_iff.2 (by unfold Sm1; omega), decide_eq_true (by simpa using h)]
  rfl
theorem own_blk {w : World} {base n c : Nat} {e : TypeId} {size : Nat} {A : Option Addr} {xs : List Value} (h : w.ownsRow base e size (.slice A n c) n xs) (hn : 1 ≤ n) : ∃ g, A = some ⟨g, 0, none⟩ ∧ base ≤ g := by
  rcases h.2 with ⟨hv, h0⟩ | ⟨g, cap, cur, hv, hb, _⟩
  · omega
  · injection hv with h1
    exact ⟨g, h1, hb⟩
def txl (ws : List (List UInt8)) : List Value := txts (ws.map sL)
theorem txl_len (ws : List (List UInt8)) : (txl ws).length = ws.length := by simp [txl, txts]
theorem txl_app (a b : List (List UInt8)) : txl (a ++ b) = txl a ++ txl b := by simp [txl, txts]
theorem txl_set (I : List (List UInt8)) (cur new : List UInt8) : (txl (I ++ [cur])).set I.length (.string (sL new)) = txl (I ++ [new]) := by
  rw [txl_app, txl_app, List.set_append_right _ _ (by rw [txl_len]; omega), txl_len, Nat.sub_self]
  rfl
theorem txl_last (I : List (List UInt8)) (cur : List UInt8) : (txl (I ++ [cur]))[I.length]? = some (.string (sL cur)) := by
  rw [txl_app, List.getElem?_append_right (by rw [txl_len]; omega), txl_len, Nat.sub_self]
  rfl
theorem txl_at {ws : List (List UInt8)} {k : Nat} {l : List UInt8} (h : ws[k]? = some l) : (txl ws)[k]? = some (.string (sL l)) := by simp [txl, txts, h]
theorem eTxt : Elem Tryd.prog 22 9 (.string ⟨#[]⟩) 1 16 := ⟨Tryd.underlying22, by kernel_rfl, rfl, by decide, by decide⟩
theorem ext_one {s : ByteArray} {k : Nat} {c : UInt8} (h : (bl s)[k]? = some c) : s.extract k (k + 1) = sL [c] := by
  refine bl_inj ?_
  rw [bl_extract, bl_sL, show k + 1 - k = 1 by omega]
  obtain ⟨hl, he⟩ := List.getElem?_eq_some_iff.1 h
  rw [List.drop_eq_getElem_cons hl, he]
  rfl
set_option maxRecDepth 4000 in
set_option maxHeartbeats 4000000 in
theorem head_any (s : ByteArray) (w : World) (hsz : s.size ≤ 10000) :
    Calls Tryd.prog 46 #[.string s] w fun e w' => e = .returned (.tuple #[.int .i64 (hwN s), .int .i64 (hwX s), .bool (hwB s)]) ∧ Below w.heap.size w w' := by
  have HW := Lib.hid (show hwW s = wds (wsF ((bl s).take (s.size - 1))) from rfl)
  have O0 := Lib.hid (show (w.alloc (.cells #[.string ⟨#[]⟩] 9)).ownsRow w.heap.size 9 1 (.slice (some ⟨w.heap.size, 0, none⟩) 1 1) 1 (txl [[]]) from by
    have h := World.ownsRow_lit (base := w.heap.size) (e := 9) (size := 1) w #[.string ⟨#[]⟩] 1 (Nat.le_refl _) (by simp [maxLen]) (by simp)
    exact h)
  have B0 := Lib.hid ((Below.refl w.heap.size w).alloc (Nat.le_refl _) (.cells #[.string ⟨#[]⟩] 9))
  have HN := Lib.hid (show hwN s = if (hwW s).length = 3 then hwA s else 0 from rfl)
  have HX := Lib.hid (show hwX s = if (hwW s).length = 3 then hwC s else 0 from rfl)
  have HB := Lib.hid (show hwB s = if (hwW s).length = 3 then hwT (hwA s) (hwC s) s else false from rfl)
  have hsz1 : ((s.size : Int) - 1) ≤ 10000 := by omega
  go_enter Tryd.func46, Tryd.ntmps46
  go_wp2_with fail
  go_loopw [5, 6] (fun v i wr => ∃ (k n : Nat) (A' : Option Addr) (c' : Nat), k ≤ s.size ∧ (k : Int) ≤ s.size ∧ k ≤ s.size - 1 ∧ i = .int .i64 k ∧ v = .slice A' n c' ∧ n = (wsF ((bl s).take k)).1.length + 1 ∧ wr.ownsRow w.heap.size 9 1 (.slice A' n c') n (txl (wds (wsF ((bl s).take k)))) ∧ Below w.heap.size w wr) (fun _ i _ => s.size - (intOf i).toNat)
  case atStart => exact ⟨0, 1, _, _, by omega, by omega, by omega, rfl, rfl, rfl, O0.out, B0.out⟩
  case round =>
    obtain ⟨k, n, A', c', hk, hk', hk1, rfl, rfl, hn, h1, h2⟩ := hrel
    have OW := Lib.hid h1
    have B2 := Lib.hid h2
    clear h1 h2
    have hlen := wsF_len k ((bl s).take k) (by rw [List.length_take, bl_len]; omega)
    rw [List.length_take, bl_len] at hlen
    by_cases hlt : k < s.size - 1
    · have hks : k < s.size := by omega
      have HG := Lib.hid (bl_at s k hks)
      have e0 : decide ((k : Int) < (s.size : Int) - 1) = true := decide_eq_true (by omega)
      have HT := Lib.hid (show wsF ((bl s).take (k + 1)) = wsG (wsF ((bl s).take k)) (s[k]'hks) by rw [List.take_add_one, HG.out]; exact wsF_snoc _ _)
      have HEx := Lib.hid (ext_one HG.out)
      generalize hc : (s[k]'hks) = c at *
      generalize wsF ((bl s).take k) = p at *
      obtain ⟨I, cur⟩ := p
      simp only at hlen hn
      have HNn := Lib.hid hn
      have hn1 : 1 ≤ n := by omega
      have hn10 : n ≤ 10001 := by omega
      clear hn
      by_cases h32 : c = 32
      · subst h32
        have HTT := Lib.hid (show wsF ((bl s).take (k + 1)) = (I ++ [cur], []) from HT.out.trans (if_pos rfl))
        have e1 : (((32 : UInt8).toNat : Int) == 32) = true := rfl
        clear HEx
        go_wp2_with ((with_reducible show wpList _ _ _ (⟨some 23, _, _, _, _, _⟩ :: _) _ _); refine app eTxt rfl (.tmp 21) (.tmp 22) rfl rfl (OW.out.alloc _) (B2.out.alloc B2.out.size (.cells #[.string ⟨#[]⟩] 9)) (size_alloc' B2.out.size _) rfl (Rd.one wr (.string ⟨#[]⟩) 9 (Nat.lt_succ_self _)) (by simp) (txts_one [⟨#[]⟩]) (n + 1) rfl (by omega) ?_; intro A2 c2 w3 o2 b2 _ _; have O2 := Lib.hid (show w3.ownsRow w.heap.size 9 1 (.slice A2 (n + 1) c2) (n + 1) (txl (wds (I ++ [cur], []))) by unfold wds at o2 ⊢; rw [txl_app]; exact o2); have B4 := Lib.hid b2; clear o2 b2)
        go_roundw
        case rel => exact ⟨k + 1, n + 1, A2, c2, by omega, by omega, by omega, by go_num, rfl, by rw [HTT.out, HNn.out]; simp, by rw [HTT.out]; exact O2.out, B4.out⟩
        case measure => simp [intOf]; omega
      · have HTT := Lib.hid (show wsF ((bl s).take (k + 1)) = (I, cur ++ [c]) from HT.out.trans (if_neg h32))
        have h32' : c.toNat ≠ 32 := fun e => h32 (UInt8.toNat_inj.1 e)
        have e1 : ((c.toNat : Int) == 32) = false := beq_eq_false_iff_ne.2 (by omega)
        have e1' : (c.toNat == 32) = false := beq_eq_false_iff_ne.2 h32'
        obtain ⟨g, rfl, hg⟩ := own_blk OW.out hn1
        have HGb := Lib.hid hg
        obtain ⟨d, hd⟩ : ∃ d, I.length = d := ⟨_, rfl⟩
        have hnd : n = d + 1 := by rw [← hd]; exact HNn.out
        have HD := Lib.hid hd
        have c0 : wr.cell? ⟨g, d, none⟩ = some (.string (sL cur)) := by rw [OW.out.cellAt d (by omega), ← hd]; exact txl_last I cur
        have f0 := OW.out.frozenAt d
        have HSt := Lib.hid (OW.out.stored d (.string (sL (cur ++ [c]))))
        have HCat := Lib.hid (sL_app cur [c])
        have z1 : (sL cur).size ≤ 10000 := by rw [sL_size]; omega
        have z2 : (sL [c]).size ≤ 100 := by rw [sL_size]; simp
        have hEx := HEx.out
        have hCat := HCat.out
        have b0 : (0 : Int) ≤ (k : Int) := by omega
        have b1 : (k : Int) ≤ (k : Int) + 1 := by omega
        have b2 : (k : Int) + 1 ≤ (s.size : Int) := by omega
        have b3 : (0 : Int) ≤ (k : Int) + 1 := by omega
        have b4 : ((k : Int) + 1).toNat = k + 1 := by omega
        have q1 : IntKind.i64.wrap ((k : Int) + 1) = (k : Int) + 1 := by rw [IntKind.wrap_i64]; omega
        have q1' : wrap64 ((k : Int) + 1) = (k : Int) + 1 := by unfold wrap64; omega
        have q2 : IntKind.i64.wrap ((n : Int) - 1) = (d : Int) := by rw [IntKind.wrap_i64]; omega
        have q2n : wrap64 ((n : Int) - 1) = (d : Int) := by unfold wrap64; omega
        have q2' : IntKind.i64.wrap ((d : Int)) = (d : Int) := by rw [IntKind.wrap_i64]; omega
        have b5 : (0 : Int) ≤ (d : Int) := by omega
        have b6 : (d : Int) < (n : Int) := by omega
        have b6' : d < n := by omega
        have HZ := Lib.hid (show (wr.setCell ⟨g, d, none⟩ (.string (sL (cur ++ [c])))).drew.ownsRow w.heap.size 9 1 (.slice (some ⟨g, 0, none⟩) n c') n (txl (wds (I, cur ++ [c]))) from by
          have h := own_drew1 HSt.out.1
          unfold wds at h ⊢
          rw [← hd, txl_set] at h
          rw [← hd]
          exact h)
        have HBB := Lib.hid ((B2.out.setCell (p := ⟨g, d, none⟩) HGb.out (.string (sL (cur ++ [c])))).drew)
        generalize sL (cur ++ [c]) = nw at *
        generalize sL cur = od at *
        generalize sL [c] = oc at *
        clear h32 h32' hg hd hnd hlen
        go_wp2_with fail
        go_region
        go_wp2_with fail
        go_roundw
        case rel => exact ⟨k + 1, n, _, c', by omega, by omega, by omega, by go_num, rfl, by rw [HTT.out, HNn.out], by rw [HTT.out]; exact HZ.out, HBB.out⟩
        case measure => simp [intOf]; omega
    · have e0 : decide ((k : Int) < (s.size : Int) - 1) = false := decide_eq_false (by omega)
      have hks : k = s.size - 1 := by omega
      subst hks
      rw [show wds (wsF ((bl s).take (s.size - 1))) = hwW s from HW.out.symm] at OW
      have hnl : n = (hwW s).length := by rw [hn, HW.out]; unfold wds; simp
      have HNL := Lib.hid hnl
      have hn10 : n ≤ 10001 := by omega
      clear hn hlen
      by_cases h3 : n = 3
      · have h3' : (hwW s).length = 3 := by rw [← hnl]; exact h3
        have HNB := Lib.hid (show hwN s = hwA s ∧ hwX s = hwC s ∧ hwB s = hwT (hwA s) (hwC s) s from ⟨HN.out.trans (if_pos h3'), HX.out.trans (if_pos h3'), HB.out.trans (if_pos h3')⟩)
        obtain ⟨g, rfl, hg⟩ := own_blk OW.out (by omega)
        have hw1 : (hwW s)[1]? = some ((hwW s).getD 1 []) := by rw [List.getD_eq_getElem?_getD, List.getElem?_eq_getElem (by omega)]; rfl
        have hw2 : (hwW s)[2]? = some ((hwW s).getD 2 []) := by rw [List.getD_eq_getElem?_getD, List.getElem?_eq_getElem (by omega)]; rfl
        have c1 : wr.cell? ⟨g, 1, none⟩ = some (.string (sL ((hwW s).getD 1 []))) := by rw [OW.out.cellAt 1 (by omega)]; exact txl_at hw1
        have c2 : wr.cell? ⟨g, 2, none⟩ = some (.string (sL ((hwW s).getD 2 []))) := by rw [OW.out.cellAt 2 (by omega)]; exact txl_at hw2
        have hls := wsF_len (s.size - 1) ((bl s).take (s.size - 1)) (by rw [List.length_take, bl_len]; omega)
        have HWl := Lib.hid (show ∀ l ∈ hwW s, l.length ≤ 10000 from fun l hl => by
          rw [HW.out] at hl
          exact Nat.le_trans (wsF_word _ l hl) (by rw [List.length_take, bl_len]; omega))
        have HN1 := Lib.hid (fun w => number_any (sL ((hwW s).getD 1 [])) w (by rw [sL_size]; exact HWl.out _ (List.mem_of_getElem? hw1)))
        have HN2 := Lib.hid (fun w => number_any (sL ((hwW s).getD 2 [])) w (by rw [sL_size]; exact HWl.out _ (List.mem_of_getElem? hw2)))
        rw [bl_sL] at HN1 HN2
        rw [show nmI ((hwW s).getD 1 []) = hwA s from rfl] at HN1
        rw [show nmI ((hwW s).getD 2 []) = hwC s from rfl] at HN2
        have ga : -1 ≤ hwA s := nm_ge _
        have la : hwA s < 10000000000 := nm_lt _
        have gc : -1 ≤ hwC s := nm_ge _
        have lc : hwC s < 10000000000 := nm_lt _
        have HTT := Lib.hid (fun a c => show hwT a c s = (decide (0 ≤ a) && (decide (a ≤ 64) && (smB c && decide (bl s = hdL a.toNat c.toNat)))) from rfl)
        generalize sL ((hwW s).getD 1 []) = x1 at *
        generalize sL ((hwW s).getD 2 []) = x2 at *
        generalize hwA s = a at *
        generalize hwC s = cc at *
        subst h3
        have HBt : ∀ b : Bool, Hid (hwT a cc s = b) → Hid (hwN s = a ∧ hwX s = cc ∧ hwB s = b) := fun b hb => Lib.hid ⟨HNB.out.1, HNB.out.2.1, HNB.out.2.2.trans hb.out⟩
        have HBT := Lib.hid HBt
        have e3 : ((3 : Int) != 3) = false := rfl
        clear h3' hnl hg hls hw1 hw2 HBt HN HX HB HNL HW
        by_cases g1 : 0 ≤ a
        case neg =>
          have e4 : decide (0 ≤ a) = false := decide_eq_false g1
          have HF := HBT.out false (Lib.hid (by rw [HTT.out, e4]; rfl))
          clear g1 HNB
          go_wp2_with fail
          go_quiet ((go_at_call 59; first | (with_reducible exact qs0 (HN1.out _)) | (with_reducible exact qs0 (HN2.out _)) | (with_reducible exact qs (HN1.out _)) | (with_reducible exact qs (HN2.out _))))
          go_wp2_with fail
          go_ret3
          exact ⟨by rw [HF.out.1, HF.out.2.1, HF.out.2.2]; rfl, bdDN B2.out _⟩
        have e4 : decide (0 ≤ a) = true := decide_eq_true g1
        by_cases g2 : a ≤ 64
        case neg =>
          have e5 : decide (a ≤ 64) = false := decide_eq_false g2
          have HF := HBT.out false (Lib.hid (by rw [HTT.out, e4, e5]; rfl))
          clear g1 g2 HNB
          go_wp2_with fail
          go_quiet ((go_at_call 59; first | (with_reducible exact qs0 (HN1.out _)) | (with_reducible exact qs0 (HN2.out _)) | (with_reducible exact qs (HN1.out _)) | (with_reducible exact qs (HN2.out _))))
          go_wp2_with fail
          go_ret3
          exact ⟨by rw [HF.out.1, HF.out.2.1, HF.out.2.2]; rfl, bdDN B2.out _⟩
        have e5 : decide (a ≤ 64) = true := decide_eq_true g2
        have HIS := Lib.hid (fun w => risSum_any cc w)
        cases g3 : smB cc
        case false =>
          rw [g3] at HIS
          have HF := HBT.out false (Lib.hid (by rw [HTT.out, e4, e5, g3]; rfl))
          clear g1 g2 g3 HNB
          go_wp2_with fail
          go_quiet ((go_at_call 59; first | (with_reducible exact qs0 (HN1.out _)) | (with_reducible exact qs0 (HN2.out _)) | (with_reducible exact qs (HN1.out _)) | (with_reducible exact qs (HN2.out _))))
          go_wp2_with fail
          refine (HIS.out _).mono ?_
          rintro e w' ⟨rfl, rfl⟩
          go_wp2_with fail
          go_ret3
          exact ⟨by rw [HF.out.1, HF.out.2.1, HF.out.2.2]; rfl, bdDN B2.out _⟩
        rw [g3] at HIS
        have hsm := smB_iff.1 g3
        unfold Sm1 at hsm
        obtain ⟨a', rfl⟩ : ∃ a' : Nat, a = (a' : Int) := ⟨a.toNat, by omega⟩
        obtain ⟨c1', rfl⟩ : ∃ c' : Nat, cc = (c' : Int) := ⟨cc.toNat, by omega⟩
        have HFi := Lib.hid (fun w => first_any a' c1' w (by omega) (by omega))
        have n5 : decide (a' ≤ 64) = true := decide_eq_true (by omega)
        by_cases g4 : bl s = hdL a' c1'
        case pos =>
          have HF := HBT.out true (Lib.hid (by rw [HTT.out, e4, e5, g3]; simpa using g4))
          have es : sL (hdL a' c1') = s := by rw [← g4, sL_bl]
          rw [es] at HFi
          have ee : (s.toList == s.toList) = true := by simp
          clear g1 g2 g3 g4 es HNB hsm
          go_wp2_with fail
          go_quiet ((go_at_call 59; first | (with_reducible exact qs0 (HN1.out _)) | (with_reducible exact qs0 (HN2.out _)) | (with_reducible exact qs (HN1.out _)) | (with_reducible exact qs (HN2.out _))))
          go_wp2_with fail
          refine (HIS.out _).mono ?_
          rintro e w' ⟨rfl, rfl⟩
          go_wp2_with fail
          refine (HFi.out _).mono ?_
          rintro e w' ⟨rfl, rfl⟩
          go_wp2_with fail
          go_ret3
          exact ⟨by rw [HF.out.1, HF.out.2.1, HF.out.2.2]; rfl, bdDN B2.out _⟩
        case neg =>
          have HF := HBT.out false (Lib.hid (by rw [HTT.out, e4, e5, g3]; simpa using g4))
          have ee : ((sL (hdL a' c1')).toList == s.toList) = false := by rw [bl_eqb]; exact decide_eq_false fun h => g4 (by rw [← h, bl_sL])
          generalize sL (hdL a' c1') = y at *
          clear g1 g2 g3 g4 HNB hsm
          go_wp2_with fail
          go_quiet ((go_at_call 59; first | (with_reducible exact qs0 (HN1.out _)) | (with_reducible exact qs0 (HN2.out _)) | (with_reducible exact qs (HN1.out _)) | (with_reducible exact qs (HN2.out _))))
          go_wp2_with fail
          refine (HIS.out _).mono ?_
          rintro e w' ⟨rfl, rfl⟩
          go_wp2_with fail
          refine (HFi.out _).mono ?_
          rintro e w' ⟨rfl, rfl⟩
          go_wp2_with fail
          go_ret3
          exact ⟨by rw [HF.out.1, HF.out.2.1, HF.out.2.2]; rfl, bdDN B2.out _⟩
      · have h3' : ¬ (hwW s).length = 3 := by rw [← hnl]; exact h3
        have HNB := Lib.hid (show hwN s = 0 ∧ hwX s = 0 ∧ hwB s = false from ⟨HN.out.trans (if_neg h3'), HX.out.trans (if_neg h3'), HB.out.trans (if_neg h3')⟩)
        have e3 : ((n : Int) != 3) = true := by rw [bne_iff_ne]; omega
        have e3' : (n != 3) = true := by rw [bne_iff_ne]; exact h3
        clear h3 h3' hnl
        go_wp2_with fail
        go_ret3
        exact ⟨by rw [HNB.out.1, HNB.out.2.1, HNB.out.2.2]; rfl, B2.out⟩
end Go.Proofs.YtklhjiagkkhldaaDoor
