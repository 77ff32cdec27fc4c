/-
  Texts merged into one (Val, Fit): contracts of the functions of package lure, what is reckoned of games. Conditions: as each says.
-/
import Derived.Test.YtoenecgjiejljaaDoorMt7
import Derived.Test.YtoenecgjiejljaaDoorMt10
import Derived.Deep.Light
namespace Go.Proofs.YtoenecgjiejljaaDoor
open Go.RowKit
set_option linter.unusedVariables false

theorem eInt' : Elem Tryd.prog 53 3 (.int .i64 0) 1 8 := ⟨Tryd.underlying53, Tryd.infoInt, rfl, by decide, by decide⟩
theorem cut_any (s : ByteArray) (w : World) (h6 : 6 ≤ s.size) (hsz : s.size ≤ 1000) :
    Calls Tryd.prog 50 #[.string s] w fun e w' => e = .returned (.tuple #[.string (headB s), .string (tailB s)]) ∧ ∃ n, w' = w.drewN n := by
  unfold headB tailB
  obtain ⟨k, hk⟩ : ∃ k, s.size = k + 6 := ⟨s.size - 6, by omega⟩
  have e1 : ((s.size : Int) - 6) = (k : Int) := by omega
  have e2 : s.size - 6 = k := by omega
  rw [e2]
  have K := Lib.hid hk
  clear hk e2
  have hks : k ≤ s.size := by have := K.out; omega
  go_enter Tryd.func50, Tryd.ntmps50
  go_wp2
  go_quiet (fail)
  go_wp2
  go_ret2
  exact ⟨rfl, _, rfl⟩
theorem digitsOf_any (t : ByteArray) (w : World) (ht : t.size ≤ 100) (hn : allNum t = true) :
    Calls Tryd.prog 51 #[.string t] w (MadeInts w (digs t)) := by
  have HN := Lib.hid hn
  clear hn
  obtain ⟨i0, hi, hz0, hz1, hz2⟩ := info_parts Tryd.infoInt
  go_enter Tryd.func51, Tryd.ntmps51
  go_wp2_with (at_make; refine wpList_make_own _ rfl _ _ 53 rfl w.heap.size 3 i0 (.int .i64 0) 1 Tryd.underlying53 hi hz0 hz1 .i64 .i64 _ 6 rfl rfl rfl (by rw [hz2]; omega) (by simp only [maxLen]; omega) (Nat.le_refl _) ?_; intro w1 hown1 hg1; have O1 := Lib.hid hown1; have B1 := Lib.hid ((Below.refl w.heap.size w).grown hg1 (Nat.le_refl _) (by simp)); clear hown1 hg1)
  go_loopw [3] (fun v wr => ∃ (pos : Nat) (A : Option Addr) (c : Nat), pos ≤ t.size ∧ v = .slice A pos c ∧ wr.heap[w1.heap.size]? = some (.stringIter t pos) ∧ wr.ownsRow w.heap.size 3 1 v pos (ints (digsK t pos)) ∧ Below w.heap.size w wr) (fun _ wr => t.size - wr.iterPos w1.heap.size)
  case atStart => exact ⟨0, _, _, by omega, rfl, World.iter_heap w1 t 0, O1.out.alloc _, B1.out.alloc B1.out.size _⟩
  case round =>
    obtain ⟨pos, A, c, hpos, rfl, hit, hown, hb⟩ := hrel
    have hpos0 := iterPos_of hit
    by_cases hp : pos < t.size
    · have hb1 := bAt_get t pos hp
      have hnum := allNum_at HN.out hp
      rw [isNum_iff, hb1] at hnum
      obtain ⟨n1, n2⟩ := hnum
      have hnx : ∀ ty, (Instr.next (.pointer (some ⟨w1.heap.size, 0, none⟩)) true ty).run Tryd.prog wr = _ := fun ty => Lib.run_next_ascii_at wr w1.heap.size t pos ty hit hp (by omega)
      have hit2 := Lib.iterAt_heap wr w1.heap.size t pos (pos + 1) hit
      have hb2 := Lib.below_iterAt hb (k := w1.heap.size) B1.out.size t (pos + 1)
      have hown2 := own_iterAt hown hit (pos + 1)
      generalize hW1 : wr.iterAt w1.heap.size t (pos + 1) = W1 at *
      generalize hd : ((t[pos]'hp).toNat : Int) = d at *
      have P0 := Lib.hid hpos0
      have D := Lib.hid hb1
      have IT := Lib.hid hit2
      have B2 := Lib.hid hb2
      have O2 := Lib.hid hown2
      clear hW1 hd hpos0 hb1 hit2 hb2 hown2 hit hown hb
      go_wp2_with (at_builtin; refine app eInt' rfl _ _ rfl rfl (O2.out.alloc _) (B2.out.alloc B2.out.size _) (size_alloc' B2.out.size _) rfl (Rd.one W1 (.int .i64 (d - 48)) 3 (Nat.lt_succ_self _)) (by simp) (ints_one [d - 48]) (pos + 1) rfl (by omega) ?_; intro A4 c4 w4 o4 b4 g4 _; have I4 := Lib.hid (iter_grown (O2.out.alloc _) (iter_alloc IT.out _) g4); have O4 := Lib.hid o4; have B4 := Lib.hid b4; clear o4 b4 g4)
      go_roundw
      case rel => exact ⟨pos + 1, A4, c4, by omega, rfl, I4.out, by rw [digsK_succ, ints_append, D.out]; exact O4.out, B4.out⟩
      case measure => rw [iterPos_of I4.out, P0.out]; omega
    · have hnx : ∀ ty, (Instr.next (.pointer (some ⟨w1.heap.size, 0, none⟩)) true ty).run Tryd.prog wr = _ := fun ty => Lib.run_next_end_at wr w1.heap.size t pos ty hit hp
      have hps : pos = t.size := by omega
      have HP := Lib.hid hps
      have O := Lib.hid hown
      have BB := Lib.hid hb
      clear hps hown hb hit
      go_wp2
      go_ret
      exact ⟨A, c, by rw [digs, digsK_length, HP.out]; rfl, by have := Rd.of_own O.out; rw [HP.out] at this; exact this, BB.out⟩
set_option maxHeartbeats 1000000 in
theorem formed_any (s : ByteArray) (worn : Bool) (w : World) (hsz : s.size ≤ 1000000) :
    Calls Tryd.prog 56 #[.string s, .bool worn] w fun e w' => e = .returned (.bool (formB s worn)) ∧ w = w' := by
  by_cases hs : s.size = 7 ∨ s.size = 8
  · have HS := Lib.hid hs
    obtain ⟨q, hq⟩ : ∃ q, ((s.size : Int) != 7) = q := ⟨_, rfl⟩
    have h8 : q = true → ((s.size : Int) != 8) = false := by
      intro h; rw [h] at hq; simp at hq ⊢; omega
    cases q
    all_goals
      have h8' := h8
      simp only [forall_const, Bool.false_eq_true, false_implies] at h8'
      clear h8 hs
      go_enter Tryd.func56, Tryd.ntmps56
      go_wp2
      go_loop [5] (fun i => ∃ k : Nat, k ≤ s.size ∧ i = .int .i64 k ∧ ∀ j, j < k → okAt worn (s.size - 6) j (bAt s j) = true) (fun i => s.size - (intOf i).toNat)
      case atStart => exact ⟨0, by omega, rfl, fun j hj => by omega⟩
      case round =>
        obtain ⟨k, hk, rfl, hall⟩ := hrel
        have HA := Lib.hid hall
        clear hall hq h8'
        by_cases hlt : k < s.size
        · have HB := Lib.hid (bAt_get s k hlt)
          cases worn
          all_goals
            go_wp2
            all_goals first
              | (go_round
                 case rel => exact ⟨k + 1, by omega, by go_num, fun j hj => by
                   rcases Nat.lt_or_ge j k with h | h
                   · exact HA.out j h
                   · obtain rfl : j = k := by omega
                     rw [HB.out]; go_light; simp only [okAt, isUp, isNum]; split <;> simp_all <;> omega⟩
                 case measure => simp [intOf]; omega)
              | (go_ret
                 exact ⟨by rw [formB_bad hlt (by rw [HB.out]; go_light; simp only [okAt, isUp, isNum]; split <;> simp_all <;> omega)]; rfl, rfl⟩)
        · have hps : k = s.size := by omega
          have HP := Lib.hid hps
          clear hps
          go_wp2
          go_ret
          exact ⟨by rw [formB_ok HS.out (fun i hi => HA.out i (by rw [HP.out]; exact hi))]; rfl, rfl⟩
  · have h7 : ((s.size : Int) != 7) = true := by simp; omega
    have h8 : ((s.size : Int) != 8) = true := by simp; omega
    rw [formB_size (by omega) (by omega)]
    clear hs
    go_enter Tryd.func56, Tryd.ntmps56
    go_wp2
    go_ret
    exact ⟨rfl, rfl⟩
theorem tail_any (s : ByteArray) (w : World) (h6 : 6 ≤ s.size) (hsz : s.size ≤ 1000) :
    Calls Tryd.prog 58 #[.string s] w (MadeInts w (tailD s)) := by
  obtain ⟨z, hz⟩ : ∃ z, s.size = z + 6 := ⟨s.size - 6, by omega⟩
  have HZ := Lib.hid hz
  have e1 : ((s.size : Int) - 6) = (z : Int) := by omega
  clear hz
  go_enter Tryd.func58, Tryd.ntmps58
  go_wp2
  go_loopw [3, 4] (fun v i wr => ∃ (k : Nat) (A : Option Addr) (c : Nat), k ≤ 6 ∧ i = .int .i64 ((z : Int) + k) ∧ v = .slice A k c ∧ wr.ownsRow w.heap.size 3 1 v k (ints (tailK s k)) ∧ Below w.heap.size w wr) (fun _ i _ => (s.size - intOf i).toNat)
  case atStart => exact ⟨0, none, 0, by omega, by simp, rfl, World.ownsRow_nil _ _ _ _, Below.refl _ _⟩
  case round =>
    obtain ⟨k, A, c, hk, rfl, rfl, hown, hb⟩ := hrel
    have O := Lib.hid hown
    have BB := Lib.hid hb
    clear hown hb
    by_cases hlt : k < 6
    · have hp : z + k < s.size := by have := HZ.out; omega
      have hb1 := bAt_get s (z + k) hp
      have hr := bAt_range s (z + k)
      rw [hb1] at hr
      generalize hd : ((s[z + k]'hp).toNat : Int) = d at *
      have D := Lib.hid hb1
      obtain ⟨r0, r1⟩ := hr
      clear hb1
      go_wp2_with (at_builtin; refine app eInt' rfl _ _ rfl rfl (O.out.alloc _) (BB.out.alloc BB.out.size _) (size_alloc' BB.out.size _) rfl (Rd.one wr (.int .i64 (d - 48)) 3 (Nat.lt_succ_self _)) (by simp) (ints_one [d - 48]) (k + 1) rfl (by omega) ?_; intro A4 c4 w4 o4 b4 g4 _; have O4 := Lib.hid o4; have B4 := Lib.hid b4; clear o4 b4 g4)
      go_roundw
      case rel => exact ⟨k + 1, A4, c4, by omega, by go_num, rfl, by rw [tailK_succ, ints_append, HZ.out, Nat.add_sub_cancel, D.out]; exact O4.out, B4.out⟩
      case measure => have := HZ.out; simp [intOf]; omega
    · have hk6 : k = 6 := by omega
      subst hk6
      have hnp : ¬ ((z : Int) + 6 < (s.size : Int)) := by have := HZ.out; omega
      go_wp2
      go_ret
      exact ⟨A, c, by rw [tailD, tailK_length]; rfl, Rd.of_own O.out, BB.out⟩
end Go.Proofs.YtoenecgjiejljaaDoor
namespace Go.Proofs.YtoenecgjiejljaaDoor
open Go.RowKit
set_option linter.unusedVariables false

theorem Valid_any (s : ByteArray) (w : World) (hsz : s.size ≤ 1000) (ht : TabsR w) :
    Calls Tryd.prog 18 #[.string s] w fun e w' => e = .returned (.int .i64 (validE s)) ∧ Below w.heap.size w w' := by
  have HT := Lib.hid ht
  clear ht
  unfold validE
  cases hf : formB s false
  · have F := Lib.hid hf
    have H1 := Lib.hid (hasForm_any s false w (by omega))
    rw [hf] at H1
    clear hf
    go_enter Tryd.func18, Tryd.ntmps18
    go_wp2_with fail
    refine H1.out.mono ?_
    rintro e w' ⟨rfl, hb⟩
    go_wp2_with fail
    go_ret
    exact ⟨rfl, hb⟩
  · have F := Lib.hid hf
    have H1 := Lib.hid (hasForm_any s false w (by omega))
    rw [hf] at H1
    have hs := form_size hf
    have H2 := Lib.hid (fun w => cut_any s w (by omega) hsz)
    have H3 := Lib.hid (fun w => digitsOf_any (tailB s) w (by rw [size_tailB (by omega)]; omega) (form_tail hf))
    have HD := Lib.hid (dig_tail hf)
    have HG := Lib.hid (digs_tailB (s := s) (by omega))
    have HL := Lib.hid (tailK_length s 6)
    clear hf hs
    obtain ⟨S, hS⟩ : ∃ S, sumL (tailD s) = S := ⟨_, rfl⟩
    have HSS := Lib.hid hS
    rw [hS]
    clear hS
    cases hz : (S == 0)
    · have hz' : (S != 0) = true := by simpa using hz
      have hne : S ≠ 0 := by simpa using hz
      rw [if_neg hne]
      clear hne
      simp only [if_true]
      go_enter Tryd.func18, Tryd.ntmps18
      go_wp2_with fail
      refine H1.out.mono ?_
      rintro e w1 ⟨rfl, hb⟩
      have B1 := Lib.hid hb
      clear hb
      go_wp2_with fail
      refine (H2.out w1).mono ?_
      rintro e w' ⟨rfl, n, rfl⟩
      go_wp2_with fail
      refine (H3.out (w1.drewN n)).mono ?_
      rintro e w2 ⟨A, c, rfl, hr, hb⟩
      have R2 := Lib.hid hr
      have B2 := Lib.hid (show Below w.heap.size w w2 from B1.out.trans ((below_drewN (Below.refl _ _) n).trans hb |>.mono B1.out.size))
      clear hb hr
      rw [HG.out] at R2
      rw [HG.out, show (tailD s).length = 6 from HL.out]
      go_wp2_with fail
      refine (sum_n A 6 c (tailD s) w2 HL.out R2.out HD.out (by omega) (HT.out.below' B2.out)).mono ?_
      rintro e w' ⟨rfl, m, rfl⟩
      rw [HSS.out]
      go_wp2_with fail
      go_ret
      exact ⟨rfl, below_drewN B2.out m⟩
    · have hz' : (S != 0) = false := by simpa using hz
      have hne : S = 0 := by simpa using hz
      rw [if_pos hne]
      clear hne
      simp only [if_true]
      go_enter Tryd.func18, Tryd.ntmps18
      go_wp2_with fail
      refine H1.out.mono ?_
      rintro e w1 ⟨rfl, hb⟩
      have B1 := Lib.hid hb
      clear hb
      go_wp2_with fail
      refine (H2.out w1).mono ?_
      rintro e w' ⟨rfl, n, rfl⟩
      go_wp2_with fail
      refine (H3.out (w1.drewN n)).mono ?_
      rintro e w2 ⟨A, c, rfl, hr, hb⟩
      have R2 := Lib.hid hr
      have B2 := Lib.hid (show Below w.heap.size w w2 from B1.out.trans ((below_drewN (Below.refl _ _) n).trans hb |>.mono B1.out.size))
      clear hb hr
      rw [HG.out] at R2
      rw [HG.out, show (tailD s).length = 6 from HL.out]
      go_wp2_with fail
      refine (sum_n A 6 c (tailD s) w2 HL.out R2.out HD.out (by omega) (HT.out.below' B2.out)).mono ?_
      rintro e w' ⟨rfl, m, rfl⟩
      rw [HSS.out]
      go_wp2_with fail
      go_ret
      exact ⟨rfl, below_drewN B2.out m⟩
theorem rValid_any (s : ByteArray) (w : World) (hsz : s.size ≤ 1000) :
    Calls Tryd.prog 19 #[.string s] w fun e w' => e = .returned (.int .i64 (validE s)) ∧ Below w.heap.size w w' := by
  unfold validE
  cases hf : formB s false
  · have H1 := Lib.hid (formed_any s false w (by omega))
    rw [hf] at H1
    clear hf
    go_enter Tryd.func19, Tryd.ntmps19
    go_wp2_with fail
    refine H1.out.mono ?_
    rintro e w' ⟨rfl, rfl⟩
    go_wp2_with fail
    go_ret
    exact ⟨rfl, Below.refl _ _⟩
  · have H1 := Lib.hid (formed_any s false w (by omega))
    rw [hf] at H1
    have hs := form_size hf
    have H3 := Lib.hid (fun w => tail_any s w (by omega) (by omega))
    have HD := Lib.hid (dig_tail hf)
    have HL := Lib.hid (tailK_length s 6)
    clear hf hs
    obtain ⟨S, hS⟩ : ∃ S, sumL (tailD s) = S := ⟨_, rfl⟩
    have HSS := Lib.hid hS
    rw [hS]
    clear hS
    cases hz : (S == 0)
    · have hz' : (S != 0) = true := by simpa using hz
      have hne : S ≠ 0 := by simpa using hz
      rw [if_neg hne]
      clear hne
      simp only [if_true]
      go_enter Tryd.func19, Tryd.ntmps19
      go_wp2_with fail
      refine H1.out.mono ?_
      rintro e w' ⟨rfl, rfl⟩
      go_wp2_with fail
      refine (H3.out w).mono ?_
      rintro e w2 ⟨A, c, rfl, hr, hb⟩
      have R2 := Lib.hid hr
      have B2 := Lib.hid hb
      clear hb hr
      rw [show (tailD s).length = 6 from HL.out]
      go_wp2_with fail
      refine (rsum_is A 6 c (tailD s) S w2 HSS.out HL.out R2.out HD.out (by omega)).mono ?_
      rintro e w' ⟨rfl, rfl⟩
      go_wp2_with fail
      go_ret
      exact ⟨rfl, B2.out⟩
    · have hz' : (S != 0) = false := by simpa using hz
      have hne : S = 0 := by simpa using hz
      rw [if_pos hne]
      clear hne
      simp only [if_true]
      go_enter Tryd.func19, Tryd.ntmps19
      go_wp2_with fail
      refine H1.out.mono ?_
      rintro e w' ⟨rfl, rfl⟩
      go_wp2_with fail
      refine (H3.out w).mono ?_
      rintro e w2 ⟨A, c, rfl, hr, hb⟩
      have R2 := Lib.hid hr
      have B2 := Lib.hid hb
      clear hb hr
      rw [show (tailD s).length = 6 from HL.out]
      go_wp2_with fail
      refine (rsum_is A 6 c (tailD s) S w2 HSS.out HL.out R2.out HD.out (by omega)).mono ?_
      rintro e w' ⟨rfl, rfl⟩
      go_wp2_with fail
      go_ret
      exact ⟨rfl, B2.out⟩
theorem IsWorn_any (s : ByteArray) (w : World) (hsz : s.size ≤ 1000) :
    Calls Tryd.prog 69 #[.string s] w fun e w' => e = .returned (.bool (formB s true)) ∧ Below w.heap.size w w' := by
  go_enter Tryd.func69, Tryd.ntmps69
  go_wp2_with fail
  refine (hasForm_any s true w (by omega)).mono ?_
  rintro e w' ⟨rfl, hb⟩
  go_wp2_with fail
  go_ret
  exact ⟨rfl, hb⟩
theorem rIsWorn_any (s : ByteArray) (w : World) (hsz : s.size ≤ 1000) :
    Calls Tryd.prog 72 #[.string s] w fun e w' => e = .returned (.bool (formB s true)) ∧ w = w' := by
  go_enter Tryd.func72, Tryd.ntmps72
  go_wp2_with fail
  refine (formed_any s true w (by omega)).mono ?_
  rintro e w' ⟨rfl, rfl⟩
  go_wp2_with fail
  go_ret
  exact ⟨rfl, rfl⟩
theorem fits_any (a b : ByteArray) (w : World) (ha : a.size ≤ 1000) (hasc : ∀ i, i < a.size → bAt a i < 128) :
    Calls Tryd.prog 78 #[.string a, .string b] w fun e w' => e = .returned (.bool (fitsB a b)) ∧ Below w.heap.size w w' := by
  by_cases hs : a.size = b.size
  · have HS := Lib.hid hs
    have h1 : ((a.size : Int) != (b.size : Int)) = false := by simp; omega
    have HA := Lib.hid hasc
    clear hs hasc
    go_enter Tryd.func78, Tryd.ntmps78
    go_wp2
    clear h1
    go_loopw [] (fun wr => ∃ pos, pos ≤ a.size ∧ wr = w.iter a pos ∧ ∀ i, i < pos → bAt a i = 63 ∨ bAt a i = bAt b i) (fun wr => a.size - wr.iterPos w.heap.size)
    case atStart => exact ⟨0, by omega, rfl, fun i hi => by omega⟩
    case round =>
      obtain ⟨pos, hpos, rfl, hall⟩ := hrel
      have HR := Lib.hid hall
      clear hall
      by_cases hp : pos < a.size
      · have hpb : pos < b.size := by have := HS.out; omega
        have E1 := Lib.hid (bAt_get a pos hp)
        have E2 := Lib.hid (bAt_get b pos hpb)
        have hnx : ∀ ty, (Instr.next (.pointer (some ⟨w.heap.size, 0, none⟩)) true ty).run Tryd.prog (w.iter a pos) = _ := fun ty => run_next_ascii w a pos ty hp (by have := HA.out pos hp; rw [E1.out] at this; omega)
        generalize ((a[pos]'hp).toNat : Int) = d at *
        have W := Lib.hid (show wrap32 ((b[pos]'hpb).toNat : Int) = ((b[pos]'hpb).toNat : Int) by have := UInt8.toNat_lt (b[pos]'hpb); unfold wrap32; omega)
        go_wp2
        all_goals first
          | (go_roundw
             case rel => exact ⟨pos + 1, by omega, rfl, fun i hi => by
               rcases Nat.lt_or_ge i pos with h | h
               · exact HR.out i h
               · obtain rfl : i = pos := by omega
                 rw [E1.out, E2.out]; have := W.out; simp_all⟩
             case measure => simp; omega)
          | (go_ret
             exact ⟨by rw [fitsB_bad hp (by rw [E1.out]; simp_all) (by rw [E1.out, E2.out]; have := W.out; simp_all)]; rfl, iter_below _ _ _⟩)
      · have hnx : ∀ ty, (Instr.next (.pointer (some ⟨w.heap.size, 0, none⟩)) true ty).run Tryd.prog (w.iter a pos) = _ := fun ty => run_next_end w a pos ty hp
        have hps : pos = a.size := by omega
        have HP := Lib.hid hps
        clear hps
        go_wp2
        go_ret
        exact ⟨by rw [fitsB_ok HS.out (fun i hi => HR.out i (by rw [HP.out]; exact hi))]; rfl, iter_below _ _ _⟩
  · have h1 : ((a.size : Int) != (b.size : Int)) = true := by simp; omega
    rw [fitsB_size hs]
    clear hs
    go_enter Tryd.func78, Tryd.ntmps78
    go_wp2
    go_ret
    exact ⟨rfl, Below.refl _ _⟩
def fitsE (a b : ByteArray) : Int := if formB a true then validE b else 2
def fitsV (a b : ByteArray) : Bool := if formB a true then (if validE b = 0 then fitsB a b else false) else false
theorem Fits_any (a b : ByteArray) (w : World) (ha : a.size ≤ 1000) (hb : b.size ≤ 1000) (ht : TabsR w) :
    Calls Tryd.prog 29 #[.string a, .string b] w fun e w' => e = .returned (.tuple #[.bool (fitsV a b), .int .i64 (fitsE a b)]) ∧ Below w.heap.size w w' := by
  have HT := Lib.hid ht
  clear ht
  unfold fitsV fitsE
  have H1 := Lib.hid (IsWorn_any a w ha)
  cases hf : formB a true
  · rw [hf] at H1
    clear hf
    go_enter Tryd.func29, Tryd.ntmps29
    go_wp2_with fail
    refine H1.out.mono ?_
    rintro e w' ⟨rfl, hbl⟩
    go_wp2_with fail
    go_ret2
    exact ⟨rfl, hbl⟩
  · rw [hf] at H1
    have HA := Lib.hid (fun i hi => form_ascii hf (i := i) hi)
    clear hf
    have H2 := Lib.hid (fun w => Valid_any b w hb)
    generalize validE b = E at *
    by_cases h0 : E = 0
    · subst h0
      go_enter Tryd.func29, Tryd.ntmps29
      go_wp2_with fail
      refine H1.out.mono ?_
      rintro e w1 ⟨rfl, hbl⟩
      have B1 := Lib.hid hbl
      clear hbl
      go_wp2_with fail
      refine (H2.out w1 (HT.out.below' B1.out)).mono ?_
      rintro e w2 ⟨rfl, hbl⟩
      have B2 := Lib.hid (B1.out.trans (hbl.mono B1.out.size))
      clear hbl
      go_wp2_with fail
      refine (fits_any a b w2 ha HA.out).mono ?_
      rintro e w3 ⟨rfl, hbl⟩
      go_wp2_with fail
      go_ret2
      exact ⟨rfl, B2.out.trans (hbl.mono B2.out.size)⟩
    · have hE : (E == 0) = false := by simpa using h0
      have hE' : (E != 0) = true := by simpa using h0
      simp only [if_true, if_neg h0]
      clear h0
      go_enter Tryd.func29, Tryd.ntmps29
      go_wp2_with fail
      refine H1.out.mono ?_
      rintro e w1 ⟨rfl, hbl⟩
      have B1 := Lib.hid hbl
      clear hbl
      go_wp2_with fail
      refine (H2.out w1 (HT.out.below' B1.out)).mono ?_
      rintro e w2 ⟨rfl, hbl⟩
      have B2 := Lib.hid (B1.out.trans (hbl.mono B1.out.size))
      clear hbl
      go_wp2_with fail
      go_ret2
      exact ⟨rfl, B2.out⟩
end Go.Proofs.YtoenecgjiejljaaDoor
