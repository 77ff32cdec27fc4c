/-
  What can be left over, as the reference finds it: the walk of ends. Condition: the code is one and can be read.
-/
import Derived.Test.YtjongjndoaojnaaEn1
namespace Go.Proofs.Ytjongjndoaojnaa
open Go.RowKit
set_option linter.unusedVariables false

/-- What is left over of two signals is found, so far. -/
def Pb (C : List ByteArray) (i k : Nat) (L : List (List UInt8)) : Prop := ∀ (a b : Nat) x y, C[a]? = some x → C[b]? = some y → b < a → (a < i ∨ (a = i ∧ b < k)) → lefB x y = true → bl (lefS x y) ∈ L
theorem Pb.next {C : List ByteArray} {i k : Nat} {L L' : List (List UInt8)} {x y : ByteArray} (h : Pb C i k L) (hx : C[i]? = some x) (hy : C[k]? = some y) (hs : ∀ z ∈ L, z ∈ L') (hn : lefB x y = true → bl (lefS x y) ∈ L') : Pb C i (k + 1) L' := by
  intro a b x' y' hx' hy' hba ho hl
  by_cases hc : a = i ∧ b = k
  · obtain ⟨rfl, rfl⟩ := hc
    rw [hx] at hx'
    rw [hy] at hy'
    cases hx'
    cases hy'
    exact hn hl
  · exact hs _ (h a b x' y' hx' hy' hba (by omega) hl)
theorem Pb.row {C : List ByteArray} {i : Nat} {L : List (List UInt8)} (h : Pb C i i L) : Pb C (i + 1) 0 L := fun a b x y hx hy hba ho hl => h a b x y hx hy hba (by omega) hl
/-- What is left over of the first n ends and of a signal is found. -/
def Pc (C : List ByteArray) (n : Nat) (L : List ByteArray) (M : List (List UInt8)) : Prop := ∀ (m : Nat) u, m < n → L[m]? = some u → ∀ s ∈ C, lefB u s = true → bl (lefS u s) ∈ M
theorem Pc.up {C : List ByteArray} {n : Nat} {L L' : List ByteArray} {M M' : List (List UInt8)} (h : Pc C n L M) (hp : L <+: L') (hs : ∀ z ∈ M, z ∈ M') (hn : n < L.length) : Pc C n L' M' := by
  intro m u hm hu s hs' hl
  obtain ⟨t, rfl⟩ := hp
  rw [List.getElem?_append_left (by omega)] at hu
  exact hs _ (h m u hm hu s hs' hl)
/-- Of this end, what is left over with the first signals is found. -/
def Qb (C : List ByteArray) (u : ByteArray) (i : Nat) (M : List (List UInt8)) : Prop := ∀ s ∈ C.take i, lefB u s = true → bl (lefS u s) ∈ M
theorem Qb.next {C : List ByteArray} {u s : ByteArray} {i : Nat} {M M' : List (List UInt8)} (h : Qb C u i M) (hd : C[i]? = some s) (hs : ∀ z ∈ M, z ∈ M') (hn : lefB u s = true → bl (lefS u s) ∈ M') : Qb C u (i + 1) M' := by
  intro x hx hl
  rw [List.take_add_one, hd] at hx
  rcases List.mem_append.1 hx with h1 | h1
  · exact hs _ (h x h1 hl)
  · have : x = s := by simpa using h1
    subst this
    exact hn hl
theorem Pc.next {C : List ByteArray} {n : Nat} {L : List ByteArray} {M : List (List UInt8)} {u : ByteArray} (h : Pc C n L M) (hu : L[n]? = some u) (hq : Qb C u C.length M) : Pc C (n + 1) L M := by
  intro m x hm hx s hs hl
  rcases Nat.lt_or_ge m n with h1 | h1
  · exact h m x h1 hx s hs hl
  · obtain rfl : m = n := by omega
    rw [hu] at hx
    cases hx
    exact hq s (by rw [List.take_length]; exact hs) hl
/-- All ends that are not empty, each once. -/
structure Ends (C : List ByteArray) (L : List ByteArray) : Prop where
  bd : Bd C (Cl L)
  all : ∀ t, End (Cl C) t → t ≠ [] → t ∈ Cl L
theorem ends_all {C L : List ByteArray} (hV : Vd C) (hb : Bd C (Cl L)) (h1 : Pb C C.length 0 (Cl L)) (h2 : Pc C L.length L (Cl L)) : Ends C L := by
  refine ⟨hb, fun t ht hne => ?_⟩
  have key : ∀ t, End (Cl C) t → t = [] ∨ t ∈ Cl L := by
    refine end_all (P := fun t => t = [] ∨ t ∈ Cl L) ?_ ?_
    · intro x hx y hy hxy t he
      by_cases ht : t = []
      · exact .inl ht
      · right
        obtain ⟨⟨l1, l2⟩, l3, l4⟩ := lef_of he ht
        obtain ⟨i, hi, hxi⟩ := List.getElem_of_mem hx
        obtain ⟨j, hj, hyj⟩ := List.getElem_of_mem hy
        have hxi' : C[i]? = some x := by rw [List.getElem?_eq_getElem hi, hxi]
        have hyj' : C[j]? = some y := by rw [List.getElem?_eq_getElem hj, hyj]
        rcases Nat.lt_trichotomy i j with h | h | h
        · have := h1 j i y x hyj' hxi' h (.inl hj) l3
          rw [l4] at this
          exact this
        · subst h
          rw [hxi'] at hyj'
          cases hyj'
          exact absurd rfl hxy
        · have := h1 i j x y hxi' hyj' h (.inl hi) l1
          rw [l2] at this
          exact this
    · intro u hu hune s hs t hst
      by_cases ht : t = []
      · exact .inl ht
      · right
        rcases hu with h | h
        · exact absurd h hune
        · obtain ⟨v, hv, rfl⟩ := List.mem_map.1 h
          obtain ⟨l1, l2⟩ := lef_all hst ht
          obtain ⟨m, hm⟩ := List.getElem?_of_mem hv
          have := h2 m v (List.getElem?_eq_some_iff.1 hm).1 hm s hs l1
          rw [l2] at this
          exact this
  exact (key t ht).resolve_left hne
set_option maxRecDepth 8000 in
set_option maxHeartbeats 1000000 in
theorem ends_any (A : Option Addr) (c : Nat) (C : List ByteArray) (w : World) (hr : Rd w w.heap.size A (txts C)) (hV : Vd C) :
    Calls Try.prog 71 #[.slice A C.length c] w fun e w' => ∃ L A' c', e = .returned (.slice A' L.length c') ∧ Ends C L ∧ w'.ownsRow w.heap.size 9 1 (.slice A' L.length c') L.length (txts L) ∧ Below w.heap.size w w' := by
  have HR := Lib.hid hr
  have HV := Lib.hid hV
  have hC12 := hV.le
  clear hr hV
  go_enter Try.func71, Try.ntmps71
  go_wp2_with fail
  go_loopw [3, 4] (fun v n wr => ∃ (i : Nat) (L : List ByteArray) (A' : Option Addr) (c' : Nat), i ≤ C.length ∧ v = .slice A' L.length c' ∧ n = .int .i64 i ∧ wr.ownsRow w.heap.size 9 1 (.slice A' L.length c') L.length (txts L) ∧ Below w.heap.size w wr ∧ Bd C (Cl L) ∧ Pb C i 0 (Cl L)) (fun _ n _ => C.length - (intOf n).toNat)
  case atStart => exact ⟨0, [], none, 0, by omega, rfl, rfl, ⟨rfl, .inl ⟨rfl, rfl⟩⟩, Below.refl _ _, Bd.nil_ C, fun a b x y _ _ h1 h2 => by omega⟩
  case round =>
    obtain ⟨i, L, A', c', hi, rfl, rfl, h1, h2, h3, h4⟩ := hrel
    have S0 := Lib.hid (And.intro h1 (And.intro h2 (And.intro h3 h4)))
    clear h1 h2 h3 h4
    by_cases hlt : i < C.length
    · go_wp2_with fail
      go_loopw [3, 5] (fun v n wr => ∃ (k : Nat) (L : List ByteArray) (A' : Option Addr) (c' : Nat), k ≤ i ∧ v = .slice A' L.length c' ∧ n = .int .i64 k ∧ wr.ownsRow w.heap.size 9 1 (.slice A' L.length c') L.length (txts L) ∧ Below w.heap.size w wr ∧ Bd C (Cl L) ∧ Pb C i k (Cl L)) (fun _ n _ => i - (intOf n).toNat)
      case atStart => exact ⟨0, L, A', c', by omega, rfl, rfl, S0.out.1, S0.out.2.1, S0.out.2.2.1, S0.out.2.2.2⟩
      case round =>
        clear S0
        obtain ⟨k, L, A', c', hk, rfl, rfl, h1, h2, h3, h4⟩ := hrel
        have OW := Lib.hid h1
        have BW := Lib.hid h2
        have BDS := Lib.hid h3
        have PB := Lib.hid h4
        have hLb := h3.bound HV.out
        rw [cl_len] at hLb
        clear h1 h2 h3 h4
        by_cases hlt2 : k < i
        · obtain ⟨b1, o1, x, hA1, hx, hc1⟩ := (HR.out.below BW.out (Nat.le_refl _)).txt i hlt
          obtain ⟨b2, o2, y, hA2, hy, hc2⟩ := (HR.out.below BW.out (Nat.le_refl _)).txt k (by omega)
          have HAA := Lib.hid hA1
          rw [hA1] at hA2
          cases hA2
          subst hA1
          have hxz := (sgB_iff.1 (HV.out.sg x (List.mem_of_getElem? hx.out))).2.1
          have hyz := (sgB_iff.1 (HV.out.sg y (List.mem_of_getElem? hy.out))).2.1
          have b0 : (0 : Int) ≤ (i : Int) := by omega
          have b1' : (i : Int) < (C.length : Int) := by omega
          have b2' : (0 : Int) ≤ (k : Int) := by omega
          have b3 : (k : Int) < (C.length : Int) := by omega

          have HLO := Lib.hid (fun w' => leftover_any x y w' (by omega) (by omega))
          have OWD := Lib.hid (fun m => (show (wr.drewN m).ownsRow w.heap.size 9 1 (.slice A' L.length c') L.length (txts L) from OW.out))
          have BWD := Lib.hid (fun m => bdN BW.out m)
          cases hb : lefB x y
          · rw [hb] at HLO
            have HN := Lib.hid (show Pb C i (k + 1) (Cl L) from PB.out.next hx.out hy.out (fun z hz => hz) (fun h => by rw [hb] at h; cases h))
            clear hb
            go_wp2_with fail
            go_quiet ((go_at_call 96; exact qn (HLO.out _)))
            go_wp2_with fail
            go_roundw
            case rel => exact ⟨k + 1, L, A', c', by omega, rfl, by go_num, OWD.out _, BWD.out _, BDS.out, HN.out⟩
            case measure => simp [intOf]; omega
          · rw [hb] at HLO
            have HT := Lib.hid (lef_base (List.mem_of_getElem? hx.out) (List.mem_of_getElem? hy.out) hb)
            have HT2 := Lib.hid (lef_inv hb).2
            have htz := lefS_size x y
            obtain ⟨t, ht⟩ : ∃ t, t = lefS x y := ⟨_, rfl⟩
            have HTE := Lib.hid ht
            rw [← ht] at HLO HT HT2 htz
            have HH := Lib.hid (fun m => has_any A' c' L t (wr.drewN m) (Rd.of_own (OWD.out m)) (by omega))
            clear ht
            cases hin : inB t L
            · simp only [hin] at HH
              have HNI := Lib.hid (show bl t ∉ Cl L from fun h => by
                obtain ⟨t2, h2, h3⟩ := List.mem_map.1 h
                have := inB_iff.2 h2
                rw [bl_inj h3, hin] at this
                cases this)
              have BD2 := Lib.hid (show Bd C (Cl (L ++ [t])) by rw [cl_snoc]; exact BDS.out.snoc HT.out HNI.out HT2.out)
              have HL1 := Lib.hid (show (L ++ [t]).length = L.length + 1 by simp)
              have HN := Lib.hid (show Pb C i (k + 1) (Cl (L ++ [t])) from PB.out.next hx.out hy.out (fun z hz => by rw [cl_snoc]; exact List.mem_append_left _ hz) (fun _ => by rw [← HTE.out, cl_snoc]; simp))
              clear hin hb
              go_wp2_with fail
              go_quiet ((go_at_call 96; exact qn (HLO.out _)))
              go_wp2_with (first
                | (go_at_call 72; refine (HH.out _).mono ?_; rintro e w' ⟨rfl, rfl⟩)
                | ((with_reducible show wpList _ _ _ (⟨some 45, _, _, _, _, _⟩ :: _) _ _); refine app eStr rfl (.tmp 42) (.tmp 44) rfl rfl ((OWD.out _).alloc _) ((BWD.out _).alloc (BWD.out _).size (.cells #[.string t] 9)) (size_alloc' (BWD.out _).size _) rfl (Rd.one _ (.string t) 9 (Nat.lt_succ_self _)) (by simp) (txts_one [t]) (L ++ [t]).length (by simp) (by rw [HL1.out]; omega) ?_; intro A2 c2 w3 o2 b2 _ _; have O2 := Lib.hid (show w3.ownsRow w.heap.size 9 1 (.slice A2 (L ++ [t]).length c2) (L ++ [t]).length (txts (L ++ [t])) by rw [txts_append]; exact o2); have B2 := Lib.hid b2; clear o2 b2)
                | fail)
              go_roundw
              case rel => exact ⟨k + 1, L ++ [t], A2, c2, by omega, by rw [HL1.out], by go_num, O2.out, B2.out, BD2.out, HN.out⟩
              case measure => simp [intOf]; omega
            · simp only [hin] at HH
              have HI := Lib.hid (show bl t ∈ Cl L from List.mem_map_of_mem (inB_iff.1 hin))
              have HN := Lib.hid (show Pb C i (k + 1) (Cl L) from PB.out.next hx.out hy.out (fun z hz => hz) (fun _ => by rw [← HTE.out]; exact HI.out))
              clear hin hb
              go_wp2_with fail
              go_quiet ((go_at_call 96; exact qn (HLO.out _)))
              go_wp2_with (go_at_call 72; refine (HH.out _).mono ?_; rintro e w' ⟨rfl, rfl⟩)
              go_roundw
              case rel => exact ⟨k + 1, L, A', c', by omega, rfl, by go_num, OWD.out _, BWD.out _, BDS.out, HN.out⟩
              case measure => simp [intOf]; omega

        · have hks : k = i := by omega
          have PR := Lib.hid (show Pb C (i + 1) 0 (Cl L) from (hks ▸ PB.out).row)
          subst hks
          go_wp2_with fail
          go_roundw
          case rel => exact ⟨k + 1, L, A', c', by omega, rfl, by go_num, OW.out, BW.out, BDS.out, PR.out⟩
          case measure => simp [intOf]; omega
    · have hks : i = C.length := by omega
      subst hks
      have S1 := Lib.hid S0.out
      clear S0
      go_wp2_with fail
      go_loopw [3, 8] (fun v n wr => ∃ (q : Nat) (L : List ByteArray) (A' : Option Addr) (c' : Nat), q ≤ L.length ∧ v = .slice A' L.length c' ∧ n = .int .i64 q ∧ wr.ownsRow w.heap.size 9 1 (.slice A' L.length c') L.length (txts L) ∧ Below w.heap.size w wr ∧ Bd C (Cl L) ∧ Pb C C.length 0 (Cl L) ∧ Pc C q L (Cl L)) (fun _ n _ => 145 - (intOf n).toNat)
      case atStart => exact ⟨0, L, A', c', by omega, rfl, rfl, S1.out.1, S1.out.2.1, S1.out.2.2.1, S1.out.2.2.2, fun m u hm => by omega⟩
      case round =>
        clear S1
        obtain ⟨q, L, A', c', hq, rfl, rfl, h1, h2, h3, h4, h5⟩ := hrel
        have hLb := h3.bound HV.out
        rw [cl_len] at hLb
        by_cases hlt2 : q < L.length
        · obtain ⟨u, hu⟩ : ∃ u, L[q]? = some u := ⟨_, List.getElem?_eq_getElem hlt2⟩
          have HU := Lib.hid hu
          have S2 := Lib.hid (And.intro h1 (And.intro h2 (And.intro h3 (And.intro h4 h5))))
          have hq145 : q < 145 := by omega
          clear h1 h2 h3 h4 h5 hu
          go_wp2_with fail
          go_loopw [3, 9] (fun v n wr => ∃ (i : Nat) (L : List ByteArray) (A' : Option Addr) (c' : Nat), i ≤ C.length ∧ v = .slice A' L.length c' ∧ n = .int .i64 i ∧ wr.ownsRow w.heap.size 9 1 (.slice A' L.length c') L.length (txts L) ∧ Below w.heap.size w wr ∧ Bd C (Cl L) ∧ Qb C u i (Cl L) ∧ (Pb C C.length 0 (Cl L) ∧ Pc C q L (Cl L)) ∧ L[q]? = some u ∧ q < L.length) (fun _ n _ => C.length - (intOf n).toNat)
          case atStart => exact ⟨0, L, A', c', by omega, rfl, rfl, S2.out.1, S2.out.2.1, S2.out.2.2.1, fun s hs => by simp at hs, S2.out.2.2.2, HU.out, hlt2⟩
          case round =>
            clear S2 HU hlt2 hLb hq
            obtain ⟨i, L, A', c', hi, rfl, rfl, h1, h2, h3, h4, h5, h6, hn2⟩ := hrel
            have OW := Lib.hid h1
            have BW := Lib.hid h2
            have BDS := Lib.hid h3
            have QB := Lib.hid h4
            have PC := Lib.hid h5
            have hu : Hid (L[q]? = some u) := Lib.hid h6
            have hLb := h3.bound HV.out
            rw [cl_len] at hLb
            have HUN := Lib.hid (show bl u ≠ [] from fun e => h3.ne (by rw [← e]; exact List.mem_map_of_mem (List.mem_of_getElem? h6)))
            have huz : u.size ≤ 12 := end_le HV.out (h3.snd _ (List.mem_map_of_mem (List.mem_of_getElem? h6)))
            clear h1 h2 h3 h4 h5 h6
            by_cases hlt3 : i < C.length
            · obtain ⟨b1, o1, s, hA1, hd, hc1⟩ := (HR.out.below BW.out (Nat.le_refl _)).txt i hlt3
              obtain ⟨b2, o2, u2, hA2, hu2, hc2⟩ := (Rd.of_own OW.out).txt q hn2
              have hu3 := hu2.out
              rw [hu.out] at hu3
              cases hu3
              have HA1 := Lib.hid hA1
              have HA2 := Lib.hid hA2
              subst hA1 hA2
              have hsz := (sgB_iff.1 (HV.out.sg s (List.mem_of_getElem? hd.out))).2.1
              have b0 : (0 : Int) ≤ (i : Int) := by omega
              have b1' : (i : Int) < (C.length : Int) := by omega
              have b2' : (0 : Int) ≤ (q : Int) := by omega
              have b3 : (q : Int) < (L.length : Int) := by omega

              have HLO := Lib.hid (fun w' => leftover_any u s w' (by omega) (by omega))
              have OWD := Lib.hid (fun m => (show (wr.drewN m).ownsRow w.heap.size 9 1 (.slice (some ⟨b2, o2, none⟩) L.length c') L.length (txts L) from OW.out))
              have BWD := Lib.hid (fun m => bdN BW.out m)
              cases hb : lefB u s
              · rw [hb] at HLO
                have HN := Lib.hid (show Qb C u (i + 1) (Cl L) from QB.out.next hd.out (fun z hz => hz) (fun h => by rw [hb] at h; cases h))
                clear hb
                go_wp2_with fail
                go_quiet ((go_at_call 96; exact qn (HLO.out _)))
                go_wp2_with fail
                go_roundw
                case rel => exact ⟨i + 1, L, (some ⟨b2, o2, none⟩), c', by omega, rfl, by go_num, OWD.out _, BWD.out _, BDS.out, HN.out, PC.out, hu.out, hn2⟩
                case measure => simp [intOf]; omega
              · rw [hb] at HLO
                have HT := Lib.hid (lef_step (BDS.out.snd _ (List.mem_map_of_mem (List.mem_of_getElem? hu.out))) (HUN.out) (List.mem_of_getElem? hd.out) hb)
                have HT2 := Lib.hid (lef_inv hb).2
                have htz := lefS_size u s
                obtain ⟨t, ht⟩ : ∃ t, t = lefS u s := ⟨_, rfl⟩
                have HTE := Lib.hid ht
                rw [← ht] at HLO HT HT2 htz
                have HH := Lib.hid (fun m => has_any (some ⟨b2, o2, none⟩) c' L t (wr.drewN m) (Rd.of_own (OWD.out m)) (by omega))
                clear ht
                cases hin : inB t L
                · simp only [hin] at HH
                  have HNI := Lib.hid (show bl t ∉ Cl L from fun h => by
                    obtain ⟨t2, h2, h3⟩ := List.mem_map.1 h
                    have := inB_iff.2 h2
                    rw [bl_inj h3, hin] at this
                    cases this)
                  have BD2 := Lib.hid (show Bd C (Cl (L ++ [t])) by rw [cl_snoc]; exact BDS.out.snoc HT.out HNI.out HT2.out)
                  have HL1 := Lib.hid (show (L ++ [t]).length = L.length + 1 by simp)
                  have HN := Lib.hid (show Qb C u (i + 1) (Cl (L ++ [t])) from QB.out.next hd.out (fun z hz => by rw [cl_snoc]; exact List.mem_append_left _ hz) (fun _ => by rw [← HTE.out, cl_snoc]; simp))
                  clear hin hb
                  go_wp2_with fail
                  go_quiet ((go_at_call 96; exact qn (HLO.out _)))
                  go_wp2_with (first
                    | (go_at_call 72; refine (HH.out _).mono ?_; rintro e w' ⟨rfl, rfl⟩)
                    | ((with_reducible show wpList _ _ _ (⟨some 80, _, _, _, _, _⟩ :: _) _ _); refine app eStr rfl (.tmp 77) (.tmp 79) rfl rfl ((OWD.out _).alloc _) ((BWD.out _).alloc (BWD.out _).size (.cells #[.string t] 9)) (size_alloc' (BWD.out _).size _) rfl (Rd.one _ (.string t) 9 (Nat.lt_succ_self _)) (by simp) (txts_one [t]) (L ++ [t]).length (by simp) (by rw [HL1.out]; omega) ?_; intro A2 c2 w3 o2 b2 _ _; have O2 := Lib.hid (show w3.ownsRow w.heap.size 9 1 (.slice A2 (L ++ [t]).length c2) (L ++ [t]).length (txts (L ++ [t])) by rw [txts_append]; exact o2); have B2 := Lib.hid b2; clear o2 b2)
                    | fail)
                  go_roundw
                  case rel => exact ⟨i + 1, L ++ [t], A2, c2, by omega, by rw [HL1.out], by go_num, O2.out, B2.out, BD2.out, HN.out, ⟨fun a b x y h1 h2 h3 h4 h5 => by rw [cl_snoc]; exact List.mem_append_left _ (PC.out.1 a b x y h1 h2 h3 h4 h5), PC.out.2.up (List.prefix_append _ _) (fun z hz => by rw [cl_snoc]; exact List.mem_append_left _ hz) hn2⟩, by rw [List.getElem?_append_left hn2]; exact hu.out, by rw [HL1.out]; omega⟩
                  case measure => simp [intOf]; omega
                · simp only [hin] at HH
                  have HI := Lib.hid (show bl t ∈ Cl L from List.mem_map_of_mem (inB_iff.1 hin))
                  have HN := Lib.hid (show Qb C u (i + 1) (Cl L) from QB.out.next hd.out (fun z hz => hz) (fun _ => by rw [← HTE.out]; exact HI.out))
                  clear hin hb
                  go_wp2_with fail
                  go_quiet ((go_at_call 96; exact qn (HLO.out _)))
                  go_wp2_with (go_at_call 72; refine (HH.out _).mono ?_; rintro e w' ⟨rfl, rfl⟩)
                  go_roundw
                  case rel => exact ⟨i + 1, L, (some ⟨b2, o2, none⟩), c', by omega, rfl, by go_num, OWD.out _, BWD.out _, BDS.out, HN.out, PC.out, hu.out, hn2⟩
                  case measure => simp [intOf]; omega

            · have hks : i = C.length := by omega
              have PN := Lib.hid (show Pc C (q + 1) L (Cl L) from PC.out.2.next hu.out (hks ▸ QB.out))
              subst hks
              go_wp2_with fail
              go_roundw
              case rel => exact ⟨q + 1, L, A', c', by omega, rfl, by go_num, OW.out, BW.out, BDS.out, PC.out.1, PN.out⟩
              case measure => simp [intOf]; omega
        · have hks : q = L.length := by omega
          have HE := Lib.hid (ends_all HV.out h3 h4 (hks ▸ h5))
          have OW := Lib.hid h1
          have BW := Lib.hid h2
          clear h1 h2 h3 h4 h5
          subst hks
          go_wp2_with fail
          go_ret
          exact ⟨L, A', c', rfl, HE.out, OW.out, BW.out⟩
end Go.Proofs.Ytjongjndoaojnaa
