/-
  Texts merged into one (Sht, Rn3): contracts of the functions of package lure, what is reckoned of games. Conditions: as each says.
-/
import Derived.Shelf.Sort.Plain
import Derived.Shelf.Slices.In.SortNone
import Derived.Test.YtoenecgjiejljaaDoorProg
import Derived.Test.YtoenecgjiejljaaDoorMt8
import Derived.Test.YtoenecgjiejljaaDoorMt11
import Derived.Sort.OwnSorted
namespace Go.Proofs.YtoenecgjiejljaaDoor
open Go.Shelf
def Tryd.lays190_ren : Go.Shelf.Ren := ⟨fun | 190 => 66 | 125 => 117 | 258 => 116 | 128 => 162 | 129 => 163 | 302 => 153 | 303 => 154 | 304 => 155 | 305 => 156 | 306 => 157 | 307 => 158 | 308 => 159 | 309 => 160 | 310 => 161 | 333 => 194 | 329 => 195 | 330 => 196 | 334 => 197 | 335 => 198 | 336 => 177 | 344 => 211 | n => n, fun | 31 => 32 | 9 => 9 | 3 => 3 | 46 => 42 | 0 => 0 | 51 => 150 | 53 => 153 | 4 => 4 | 183 => 158 | 182 => 157 | 131 => 161 | 5 => 5 | 218 => 185 | 222 => 189 | 228 => 198 | 229 => 147 | n => n, fun | n => n⟩
theorem Tryd.lays190 : Go.Proofs.Lays.n190 Tryd.prog Tryd.lays190_ren := {
  mixed := by kernel_rfl
  f125 := Tryd.func117.trans (congrArg some (by kernel_rfl))
  f128 := Tryd.func162.trans (congrArg some (by kernel_rfl))
  f129 := Tryd.func163.trans (congrArg some (by kernel_rfl))
  f190 := Tryd.func66.trans (congrArg some (by kernel_rfl))
  f258 := Tryd.func116.trans (congrArg some (by kernel_rfl))
  f302 := Tryd.func153.trans (congrArg some (by kernel_rfl))
  f303 := Tryd.func154.trans (congrArg some (by kernel_rfl))
  f304 := Tryd.func155.trans (congrArg some (by kernel_rfl))
  f305 := Tryd.func156.trans (congrArg some (by kernel_rfl))
  f306 := Tryd.func157.trans (congrArg some (by kernel_rfl))
  f307 := Tryd.func158.trans (congrArg some (by kernel_rfl))
  f308 := Tryd.func159.trans (congrArg some (by kernel_rfl))
  f309 := Tryd.func160.trans (congrArg some (by kernel_rfl))
  f310 := Tryd.func161.trans (congrArg some (by kernel_rfl))
  f329 := Tryd.func195.trans (congrArg some (by kernel_rfl))
  f330 := Tryd.func196.trans (congrArg some (by kernel_rfl))
  f333 := Tryd.func194.trans (congrArg some (by kernel_rfl))
  f334 := Tryd.func197.trans (congrArg some (by kernel_rfl))
  f335 := Tryd.func198.trans (congrArg some (by kernel_rfl))
  f336 := Tryd.func177.trans (congrArg some (by kernel_rfl))
  f344 := Tryd.func211.trans (congrArg some (by kernel_rfl))
  t0 := Tryd.underlying0
  a0 := Tryd.isAgg0
  z0 := Tryd.sizeOf0
  v0 := Tryd.zeroValue0
  t3 := Tryd.underlying3
  a3 := Tryd.isAgg3
  z3 := Tryd.sizeOf3
  v3 := Tryd.zeroValue3
  t4 := Tryd.underlying4
  a4 := Tryd.isAgg4
  z4 := Tryd.sizeOf4
  v4 := Tryd.zeroValue4
  t5 := Tryd.underlying5
  a5 := Tryd.isAgg5
  z5 := Tryd.sizeOf5
  v5 := Tryd.zeroValue5
  t9 := Tryd.underlying9
  a9 := Tryd.isAgg9
  z9 := Tryd.sizeOf9
  v9 := Tryd.zeroValue9
  t31 := Tryd.underlying32
  a31 := Tryd.isAgg32
  z31 := Tryd.sizeOf32
  v31 := Tryd.zeroValue32
  t46 := Tryd.underlying42
  a46 := Tryd.isAgg42
  z46 := Tryd.sizeOf42
  v46 := Tryd.zeroValue42
  t51 := Tryd.underlying150
  a51 := Tryd.isAgg150
  z51 := Tryd.sizeOf150
  v51 := Tryd.zeroValue150
  t53 := Tryd.underlying153
  a53 := Tryd.isAgg153
  z53 := Tryd.sizeOf153
  v53 := Tryd.zeroValue153
  t131 := Tryd.underlying161
  a131 := Tryd.isAgg161
  z131 := Tryd.sizeOf161
  v131 := Tryd.zeroValue161
  t182 := Tryd.underlying157
  a182 := Tryd.isAgg157
  z182 := Tryd.sizeOf157
  v182 := Tryd.zeroValue157
  t183 := Tryd.underlying158
  a183 := Tryd.isAgg158
  z183 := Tryd.sizeOf158
  v183 := Tryd.zeroValue158
  t218 := Tryd.underlying185
  a218 := Tryd.isAgg185
  z218 := Tryd.sizeOf185
  v218 := Tryd.zeroValue185
  t222 := Tryd.underlying189
  a222 := Tryd.isAgg189
  z222 := Tryd.sizeOf189
  v222 := Tryd.zeroValue189
  t228 := Tryd.underlying198
  a228 := Tryd.isAgg198
  z228 := Tryd.sizeOf198
  v228 := Tryd.zeroValue198
  t229 := Tryd.underlying147
  a229 := Tryd.isAgg147
  z229 := Tryd.sizeOf147
  v229 := Tryd.zeroValue147 }
end Go.Proofs.YtoenecgjiejljaaDoor
namespace Go.Proofs.YtoenecgjiejljaaDoor
open Go.RowKit
set_option linter.unusedVariables false

theorem own_base {w : World} {B B' n : Nat} {e : TypeId} {size : Nat} {v : Value} {xs : List Value} (h : w.ownsRow B e size v n xs) (hB : B' ≤ B) : w.ownsRow B' e size v n xs := by
  refine ⟨h.1, ?_⟩
  rcases h.2 with h1 | ⟨g, cap, cur, hv, hbg, rest⟩
  · exact .inl h1
  · exact .inr ⟨g, cap, cur, hv, Nat.le_trans hB hbg, rest⟩
theorem tsl_enc (l : List (List UInt8)) : tsl l = l.map encStr := by
  unfold tsl txts
  rw [List.map_map]
  rfl
theorem srt_len (l : List (List UInt8)) : (srt l).length = l.length := by simp [srt]
/-- slices.Sort at a list of texts of the call's own. -/
theorem sort_any (l : List (List UInt8)) (A : Option Addr) (c B : Nat) (w0 w : World) (hl : l.length ≤ 1000) (ho : w.ownsRow B 9 1 (.slice A l.length c) l.length (tsl l)) (hb : Below B w0 w) (hB : B ≤ w.heap.size) :
    Calls Tryd.prog 66 #[.slice A l.length c] w fun e w' => e = .returned (.tuple #[]) ∧ w'.ownsRow B 9 1 (.slice A l.length c) l.length (tsl (srt l)) ∧ Below B w0 w' := by
  have ho' := ho
  rw [tsl_enc] at ho
  rcases ho.2 with ⟨hnil, h0⟩ | ⟨g, cap, cur, hv, hbase, hblk, h1, h2, h3, h4⟩
  · have hl0 : l = [] := List.eq_nil_of_length_eq_zero h0
    subst hl0
    refine (Any.slices_Sort_string_none Tryd.lays190 A c w).mono ?_
    rintro e w' ⟨rfl, rfl⟩
    refine ⟨rfl, ?_, hb⟩
    rw [show srt [] = ([] : List (List UInt8)) from List.eq_nil_of_length_eq_zero (srt_len [])]
    exact ho'
  · cases hv
    refine (Any.slices_Sort_string Tryd.lays190 g 0 c l w (holds_of_block hblk (by simpa using h4)) (Array.getElem?_eq_some_iff.1 hblk).1 (by omega)).mono ?_
    rintro e w' ⟨rfl, n, os, rfl⟩
    refine ⟨rfl, ?_, Below.app hb ho (grownBy_sorted _) hB (Nat.le_refl _)⟩
    rw [tsl_enc]
    exact ownsRow_sorted (srt_len l) hbase hblk h1 h2 h3
def rgV (y : List UInt8) : Bool := decide (validE (sL y) = 0)
def nrT (s : ByteArray) : List (List UInt8) := cgL (bl s) (s.size - 6) 6 ++ xgL (bl s) (s.size - 6) 5
def nrL (s : ByteArray) : List (List UInt8) := srt ((nrT s).filter rgV)
theorem nrT_size {s : ByteArray} {x : List UInt8} (h : x ∈ nrT s) : x.length = s.size := by
  rw [← bl_len]
  rcases List.mem_append.1 h with h | h
  · obtain ⟨i, hi, hx⟩ := List.mem_flatMap.1 h
    obtain ⟨d, hd, ho, rfl⟩ := cgP_mem.1 hx
    simp [cg]
  · obtain ⟨i, hi, ho, rfl⟩ := xgL_mem.1 h
    simp [xg]
theorem nrT_len (s : ByteArray) : (nrT s).length ≤ 65 := by
  unfold nrT
  rw [List.length_append]
  have := cgL_len (bl s) (s.size - 6) 6
  have := xgL_len (bl s) (s.size - 6) 5
  omega
theorem take_snoc {α : Type} {l : List α} {k : Nat} {x : α} (h : l[k]? = some x) : l.take (k + 1) = l.take k ++ [x] := by
  rw [List.take_add_one, h]
  rfl
theorem filter_snoc {V : List UInt8 → Bool} {l : List (List UInt8)} {k : Nat} {x : List UInt8} (h : l[k]? = some x) : (l.take (k + 1)).filter V = (l.take k).filter V ++ if V x = true then [x] else [] := by
  rw [take_snoc h, List.filter_append]
  cases hv : V x <;> simp [hv]
theorem Near_not (s : ByteArray) (w : World) (hsz : s.size ≤ 1000) (hf : formB s false = false) :
    Calls Tryd.prog 22 #[.string s] w fun e w' => e = .returned (.tuple #[.slice none 0 0, .int .i64 2]) ∧ Below w.heap.size w w' := by
  have H1 := Lib.hid (hasForm_any s false w (by omega))
  rw [hf] at H1
  clear hf
  go_enter Tryd.func22, Tryd.ntmps22
  go_wp2_with fail
  refine H1.out.mono ?_
  rintro e w1 ⟨rfl, hb1⟩
  have B1 := Lib.hid hb1
  clear hb1
  go_wp2_with fail
  go_ret2
  exact ⟨rfl, B1.out⟩
set_option maxRecDepth 8000 in
set_option maxHeartbeats 4000000 in
theorem Near_any (s : ByteArray) (w : World) (hf : formB s false = true) (hT : TabsR w) :
    Calls Tryd.prog 22 #[.string s] w fun e w' => ∃ A c, e = .returned (.tuple #[.slice A (nrL s).length c, .int .i64 0]) ∧ w'.ownsRow w.heap.size 9 1 (.slice A (nrL s).length c) (nrL s).length (tsl (nrL s)) ∧ Below w.heap.size w w' := by
  have hs := form_size hf
  have hs8 : s.size ≤ 8 := by omega
  have HT := Lib.hid hT
  have H1 := Lib.hid (hasForm_any s false w (by omega))
  rw [hf] at H1
  have H2 := Lib.hid (fun w => changes_own s (s.size - 6) w (by omega) (by omega))
  have H3 := Lib.hid (fun w => exchanges_any s (s.size - 6) w (by omega) (by omega))
  have HL := Lib.hid (nrT_len s)
  have HZ := Lib.hid (fun x (h : x ∈ nrT s) => nrT_size h)
  have HD := Lib.hid (show nrL s = srt ((nrT s).filter rgV) from rfl)
  have HE := Lib.hid (show nrT s = cgL (bl s) (s.size - 6) 6 ++ xgL (bl s) (s.size - 6) 5 from rfl)
  have l1 := cgL_len (bl s) (s.size - 6) 6
  have l2 := xgL_len (bl s) (s.size - 6) 5
  generalize nrL s = R at *
  generalize nrT s = T at *
  generalize cgL (bl s) (s.size - 6) 6 = C at *
  generalize xgL (bl s) (s.size - 6) 5 = X at *
  clear hs hf hT
  go_enter Tryd.func22, Tryd.ntmps22
  go_wp2_with fail
  refine H1.out.mono ?_
  rintro e w1 ⟨rfl, hb1⟩
  have B1 := Lib.hid hb1
  clear hb1
  go_wp2_with fail
  refine (H2.out w1).mono ?_
  rintro e w2 ⟨A2, c2, rfl, ho2, hb2⟩
  have O2 := Lib.hid ho2
  have B2 := Lib.hid (B1.out.trans (hb2.mono B1.out.size))
  have Z2 := Lib.hid hb2.size
  clear ho2 hb2
  go_wp2_with fail
  refine (H3.out w2).mono ?_
  rintro e w3 ⟨A3, c3, rfl, hr3, hb3⟩
  have R3 := Lib.hid hr3
  have O3 := Lib.hid (own_base (own_below O2.out hb3) B1.out.size)
  have B3 := Lib.hid (B2.out.trans (hb3.mono B2.out.size))
  clear hr3 hb3
  have lx : (tsl X).length = X.length * 1 := by rw [tsl_len, Nat.mul_one]
  have HN := Lib.hid (show C.length + X.length = T.length by rw [HE.out, List.length_append])
  go_wp2_with (at_builtin; refine app eTx rfl _ _ rfl rfl O3.out B3.out B3.out.size rfl R3.out lx (txts_one _) T.length HN.out (by have := HL.out; omega) ?_; intro A4 c4 w4 o4 b4 g4 _; have O4 := Lib.hid o4; have B4 := Lib.hid b4; clear o4 b4 g4)
  have R4 := Lib.hid (Rd.of_own O4.out)
  have HTL := Lib.hid (show tsl C ++ tsl X = tsl T by rw [HE.out, tsl_app])
  rw [HTL.out] at R4
  go_loopw [4, 16] (fun v i wr => ∃ (k : Nat) (A : Option Addr) (c : Nat), k ≤ T.length ∧ i = .int .i64 k ∧ v = .slice A ((T.take k).filter rgV).length c ∧ wr.ownsRow w4.heap.size 9 1 v ((T.take k).filter rgV).length (tsl ((T.take k).filter rgV)) ∧ Below w4.heap.size w4 wr) (fun _ i _ => T.length - (intOf i).toNat)
  case atStart => exact ⟨0, none, 0, by omega, rfl, rfl, World.ownsRow_nil _ _ _ _, Below.refl _ _⟩
  case round =>
    obtain ⟨k, A, c, hk, rfl, rfl, hown, hb⟩ := hrel
    have O := Lib.hid hown
    have BB := Lib.hid hb
    have hfl := List.length_filter_le rgV (T.take k)
    rw [List.length_take] at hfl
    have hTl := HL.out
    clear hown hb
    by_cases hlt : k < T.length
    · have RW := Lib.hid (R4.out.below BB.out (Nat.le_refl _))
      obtain ⟨b, o, x, rfl, hx, hcell⟩ := RW.out.txt k (by simpa using hlt)
      obtain ⟨y, hy, rfl⟩ : ∃ y, T[k]? = some y ∧ sL y = x := by
        have := hx.out
        rw [List.getElem?_map] at this
        simpa using this
      have hsz := HZ.out y (List.mem_of_getElem? hy)
      have HV := Lib.hid (Valid_any (sL y) wr (by rw [sL_size]; omega) (HT.out.below' (B4.out.trans (BB.out.mono B4.out.size))))
      have HF := Lib.hid (filter_snoc (V := rgV) hy)
      have HG := Lib.hid (show rgV y = decide (validE (sL y) = 0) from rfl)
      generalize validE (sL y) = E at *
      clear hx hsz hy
      by_cases he : E = 0
      · have x1 : (E == 0) = true := by rw [beq_iff_eq]; exact he
        have HX := Lib.hid (show (T.take (k + 1)).filter rgV = (T.take k).filter rgV ++ [y] by rw [HF.out, HG.out, decide_eq_true he]; rfl)
        have HXl := Lib.hid (show ((T.take (k + 1)).filter rgV).length = ((T.take k).filter rgV).length + 1 by rw [HX.out, List.length_append]; rfl)
        have HTt := Lib.hid (show tsl ((T.take (k + 1)).filter rgV) = tsl ((T.take k).filter rgV) ++ [.string (sL y)] by rw [HX.out, tsl_app]; rfl)
        generalize sL y = x at *
        generalize ((T.take k).filter rgV).length = n at *
        generalize tsl ((T.take k).filter rgV) = W at *
        clear he
        go_wp2_with fail
        refine HV.out.mono ?_
        rintro e w5 ⟨rfl, hb5⟩
        have O5 := Lib.hid (own_below O.out hb5)
        have B5 := Lib.hid (BB.out.trans (hb5.mono BB.out.size))
        clear hb5
        go_wp2_with (at_builtin; refine app eTx rfl _ _ rfl rfl (O5.out.alloc _) (B5.out.alloc B5.out.size _) (size_alloc' B5.out.size _) rfl (Rd.one w5 (.string x) 9 (Nat.lt_succ_self _)) (by simp) (txts_one [x]) (n + 1) rfl (by omega) ?_; intro A6 c6 w6 o6 b6 g6 _; have O6 := Lib.hid o6; have B6 := Lib.hid b6; clear o6 b6 g6)
        go_roundw
        case rel => exact ⟨k + 1, A6, c6, by omega, by go_num, by rw [HXl.out], by rw [HXl.out, HTt.out]; exact O6.out, B6.out⟩
        case measure => simp [intOf]; omega
      · have x1 : (E == 0) = false := by rw [beq_eq_false_iff_ne]; exact he
        have HX := Lib.hid (show (T.take (k + 1)).filter rgV = (T.take k).filter rgV by rw [HF.out, HG.out, decide_eq_false he]; simp)
        generalize sL y = x at *
        clear he
        go_wp2_with fail
        refine HV.out.mono ?_
        rintro e w5 ⟨rfl, hb5⟩
        have O5 := Lib.hid (own_below O.out hb5)
        have B5 := Lib.hid (BB.out.trans (hb5.mono BB.out.size))
        clear hb5
        go_wp2_with fail
        go_roundw
        case rel => exact ⟨k + 1, A, c, by omega, by go_num, by rw [HX.out], by rw [HX.out]; exact O5.out, B5.out⟩
        case measure => simp [intOf]; omega
    · obtain rfl : k = T.length := by omega
      rw [List.take_length] at O ⊢
      have HS := Lib.hid (sort_any (T.filter rgV) A c w4.heap.size w4 wr (Nat.le_trans (List.length_filter_le ..) (by omega)) O.out BB.out BB.out.size)
      have HDl := Lib.hid (show R.length = (T.filter rgV).length by rw [HD.out, srt_len])
      rw [← HD.out] at HS
      generalize (T.filter rgV).length = n at *
      go_wp2_with fail
      refine HS.out.mono ?_
      rintro e w5 ⟨rfl, ho5, hb5⟩
      have O5 := Lib.hid (own_base ho5 B4.out.size)
      have B5 := Lib.hid (B4.out.trans (hb5.mono B4.out.size))
      clear ho5 hb5
      go_wp2_with fail
      go_ret2
      exact ⟨A, c, by rw [HDl.out]; rfl, by rw [HDl.out]; exact O5.out, B5.out⟩

theorem put_len (s : List UInt8) (l : List (List UInt8)) : (putF s false l).length ≤ l.length + 1 := by
  induction l with
  | nil => simp [putF]
  | cons y l ih =>
    rw [putF_false]
    split
    · rw [List.length_cons, putF_true]
      exact Nat.succ_le_succ (List.length_filter_le ..)
    · simp only [List.length_cons]
      omega
theorem putF_ne {s y : List UInt8} {l : List (List UInt8)} (h : ¬ y = s) : putF s true (y :: l) = y :: putF s true l := if_neg h
theorem putF_eq {s y : List UInt8} {l : List (List UInt8)} (h : y = s) : putF s true (y :: l) = putF s true l := if_pos h
theorem sL_toList (l : List UInt8) : (sL l).toList = l := by rw [Lib.toList_data]; simp [sL]
theorem tri8 (s y : List UInt8) : s < y ∨ s = y ∨ y < s := by
  rcases List.le_total s y with h | h
  · rcases List.le_iff_lt_or_eq.1 h with h | h
    · exact .inl h
    · exact .inr (.inl h)
  · rcases List.le_iff_lt_or_eq.1 h with h | h
    · exact .inr (.inr h)
    · exact .inr (.inl h.symm)
set_option maxRecDepth 8000 in
set_option maxHeartbeats 4000000 in
theorem put_any (l : List (List UInt8)) (s : List UInt8) (A : Option Addr) (c : Nat) (w : World) (hr : Rd w w.heap.size A (tsl l)) (hl : l.length ≤ 100) :
    Calls Tryd.prog 68 #[.slice A l.length c, .string (sL s)] w fun e w' => ∃ A' c', e = .returned (.slice A' (putF s false l).length c') ∧ w'.ownsRow w.heap.size 9 1 (.slice A' (putF s false l).length c') (putF s false l).length (tsl (putF s false l)) ∧ Below w.heap.size w w' := by
  have HR := Lib.hid hr
  clear hr
  have HPl := put_len s l
  go_enter Tryd.func68, Tryd.ntmps68
  go_wp2_with fail
  go_loopw [5, 6, 7] (fun v b i wr => ∃ (k : Nat) (A : Option Addr) (c : Nat) (dn : Bool) (acc : List (List UInt8)), k ≤ l.length ∧ i = .int .i64 k ∧ b = .bool dn ∧ v = .slice A acc.length c ∧ acc ++ putF s dn (l.drop k) = putF s false l ∧ wr.ownsRow w.heap.size 9 1 v acc.length (tsl acc) ∧ Below w.heap.size w wr) (fun _ _ i _ => l.length - (intOf i).toNat)
  case atStart => exact ⟨0, none, 0, false, [], by omega, rfl, rfl, rfl, by simp, World.ownsRow_nil _ _ _ _, Below.refl _ _⟩
  case round =>
    obtain ⟨k, A, c, dn, acc, hk, rfl, rfl, rfl, heq, hown, hb⟩ := hrel
    have O := Lib.hid hown
    have BB := Lib.hid hb
    clear hown hb
    have hal : acc.length ≤ 101 := by have := congrArg List.length heq; rw [List.length_append] at this; omega
    by_cases hlt : k < l.length
    · have RW := Lib.hid (HR.out.below BB.out (Nat.le_refl _))
      obtain ⟨b, o, x, rfl, hx, hcell⟩ := RW.out.txt k (by simpa using hlt)
      obtain ⟨y, hy, rfl⟩ : ∃ y, l[k]? = some y ∧ sL y = x := by
        have := hx.out
        rw [List.getElem?_map] at this
        simpa using this
      rw [List.drop_eq_getElem_cons hlt, show l[k] = y by rw [List.getElem?_eq_getElem hlt] at hy; injection hy] at heq
      have hty : (tsl l)[k]? = some (.string (sL y)) := by unfold tsl txts; rw [List.getElem?_map, List.getElem?_map, hy]; rfl
      have HC := Lib.hid (fun w' (hb' : Below w.heap.size w w') => show w'.cell? ⟨b, o + k, none⟩ = some (.string (sL y)) by
        obtain ⟨b2, o2, e2, _, h2⟩ := (HR.out.below hb' (Nat.le_refl _)).at_ hty
        cases e2
        exact h2)
      clear hx hy hty
      obtain ⟨n, hna⟩ : ∃ n, acc.length = n := ⟨_, rfl⟩
      have hna' := Lib.hid hna
      obtain ⟨T, hTT⟩ : ∃ T, tsl acc = T := ⟨_, rfl⟩
      have HTa := Lib.hid hTT
      have HTa' := Lib.hid hTT
      rw [hTT] at O
      rw [hna] at O hal ⊢
      clear hTT
      rcases tri8 s y with hc | hc | hc
      · have hne : ¬ y = s := fun e => absurd (e ▸ hc) (List.lt_irrefl _)
        have hnl := hc
        have f1 : Op.bytesLess (sL s).toList (sL y).toList = true := by rw [sL_toList, sL_toList, bytesLess_eq]; exact decide_eq_true hc
        have f2 : ((sL s).toList == (sL y).toList) = false := by rw [sL_toList, sL_toList]; exact beq_eq_false_iff_ne.2 (fun e => hne e.symm)
        have f3 : ((sL y).toList == (sL s).toList) = false := by rw [sL_toList, sL_toList]; exact beq_eq_false_iff_ne.2 hne
        obtain ⟨xs, hxs⟩ : ∃ xs, sL s = xs := ⟨_, rfl⟩
        obtain ⟨ys, hys⟩ : ∃ ys, sL y = ys := ⟨_, rfl⟩
        rw [hxs] at f1 f2 f3 ⊢
        rw [hys] at f1 f2 f3 hcell HC
        cases dn
        · rw [putF_false] at heq
          have HQ := Lib.hid (show acc ++ [s] ++ [y] ++ putF s true (l.drop (k + 1)) = putF s false l by rw [← heq, if_pos (List.le_of_lt hc), putF_ne hne]; simp)
          have HL2 := Lib.hid (show (acc ++ [s] ++ [y]).length = n + 2 by simp only [List.length_append, List.length_cons, List.length_nil]; omega)
          have HT2 := Lib.hid (show tsl (acc ++ [s] ++ [y]) = T ++ [.string xs] ++ [.string ys] by simp only [tsl_app, HTa.out, ← hxs, ← hys]; rfl)
          clear heq hc hne hnl hxs hys hna HTa
          go_wp2_with (first | (at_builtin; refine app eTx rfl _ _ rfl rfl (O4.out.alloc _) (B4.out.alloc B4.out.size _) (size_alloc' B4.out.size _) rfl (Rd.one w4 (.string ys) 9 (Nat.lt_succ_self _)) (by simp) (txts_one [ys]) (n + 1 + 1) rfl (by omega) ?_; intro A6 c6 w6 o6 b6 g6 _; have O6 := Lib.hid o6; have B6 := Lib.hid b6; clear o6 b6 g6) | (at_builtin; refine app eTx rfl _ _ rfl rfl (O.out.alloc _) (BB.out.alloc BB.out.size _) (size_alloc' BB.out.size _) rfl (Rd.one wr (.string xs) 9 (Nat.lt_succ_self _)) (by simp) (txts_one [xs]) (n + 1) rfl (by omega) ?_; intro A4 c4 w4 o4 b4 g4 _; have O4 := Lib.hid o4; have B4 := Lib.hid b4; have hcell4 := HC.out w4 b4; clear o4 b4 g4))
          go_roundw
          case rel => exact ⟨k + 1, _, _, true, acc ++ [s] ++ [y], by omega, by go_num, rfl, by rw [HL2.out], HQ.out, by rw [HL2.out, HT2.out]; exact O6.out, B6.out⟩
          case measure => simp [intOf]; omega
        · have HQ := Lib.hid (show acc ++ [y] ++ putF s true (l.drop (k + 1)) = putF s false l by rw [← heq, putF_ne hne]; simp)
          have HL2 := Lib.hid (show (acc ++ [y]).length = n + 1 by simp only [List.length_append, List.length_cons, List.length_nil]; omega)
          have HT2 := Lib.hid (show tsl (acc ++ [y]) = T ++ [.string ys] by simp only [tsl_app, HTa.out, ← hys]; rfl)
          clear heq hc hne hnl hxs hys hna HTa
          go_wp2_with (at_builtin; refine app eTx rfl _ _ rfl rfl (O.out.alloc _) (BB.out.alloc BB.out.size _) (size_alloc' BB.out.size _) rfl (Rd.one wr (.string ys) 9 (Nat.lt_succ_self _)) (by simp) (txts_one [ys]) (n + 1) rfl (by omega) ?_; intro A4 c4 w4 o4 b4 g4 _; have O4 := Lib.hid o4; have B4 := Lib.hid b4; clear o4 b4 g4)
          go_roundw
          case rel => exact ⟨k + 1, _, _, true, acc ++ [y], by omega, by go_num, rfl, by rw [HL2.out], HQ.out, by rw [HL2.out, HT2.out]; exact O4.out, B4.out⟩
          case measure => simp [intOf]; omega
      · have hne := hc
        have hnl := hc
        have f1 : Op.bytesLess (sL s).toList (sL y).toList = false := by rw [sL_toList, sL_toList, bytesLess_eq]; exact decide_eq_false (by rw [hc]; exact List.lt_irrefl _)
        have f2 : ((sL s).toList == (sL y).toList) = true := by rw [sL_toList, sL_toList]; rw [hc]; simp
        have f3 : ((sL y).toList == (sL s).toList) = true := by rw [sL_toList, sL_toList]; rw [hc]; simp
        obtain ⟨xs, hxs⟩ : ∃ xs, sL s = xs := ⟨_, rfl⟩
        obtain ⟨ys, hys⟩ : ∃ ys, sL y = ys := ⟨_, rfl⟩
        rw [hxs] at f1 f2 f3 ⊢
        rw [hys] at f1 f2 f3 hcell HC
        cases dn
        · rw [putF_false] at heq
          have HQ := Lib.hid (show acc ++ [s] ++ putF s true (l.drop (k + 1)) = putF s false l by rw [← heq, if_pos (by rw [hc]; exact List.le_refl _), putF_eq hc.symm]; simp)
          have HL2 := Lib.hid (show (acc ++ [s]).length = n + 1 by simp only [List.length_append, List.length_cons, List.length_nil]; omega)
          have HT2 := Lib.hid (show tsl (acc ++ [s]) = T ++ [.string xs] by simp only [tsl_app, HTa.out, ← hxs]; rfl)
          clear heq hc hne hnl hxs hys hna HTa
          go_wp2_with (at_builtin; refine app eTx rfl _ _ rfl rfl (O.out.alloc _) (BB.out.alloc BB.out.size _) (size_alloc' BB.out.size _) rfl (Rd.one wr (.string xs) 9 (Nat.lt_succ_self _)) (by simp) (txts_one [xs]) (n + 1) rfl (by omega) ?_; intro A4 c4 w4 o4 b4 g4 _; have O4 := Lib.hid o4; have B4 := Lib.hid b4; have hcell4 := HC.out w4 b4; clear o4 b4 g4)
          go_roundw
          case rel => exact ⟨k + 1, _, _, true, acc ++ [s], by omega, by go_num, rfl, by rw [HL2.out], HQ.out, by rw [HL2.out, HT2.out]; exact O4.out, B4.out⟩
          case measure => simp [intOf]; omega
        · have HQ := Lib.hid (show acc ++ putF s true (l.drop (k + 1)) = putF s false l by rw [← heq, putF_eq hc.symm])
          clear heq hc hne hnl hxs hys hna HTa
          go_wp2_with fail
          go_roundw
          case rel => exact ⟨k + 1, _, _, true, acc, by omega, by go_num, rfl, by rw [hna'.out], HQ.out, by rw [hna'.out, HTa'.out]; exact O.out, BB.out⟩
          case measure => simp [intOf]; omega
      · have hne : ¬ y = s := fun e => absurd (e ▸ hc) (List.lt_irrefl _)
        have hnl : ¬ s ≤ y := List.not_le.2 hc
        have f1 : Op.bytesLess (sL s).toList (sL y).toList = false := by rw [sL_toList, sL_toList, bytesLess_eq]; exact decide_eq_false (fun h => absurd (List.lt_trans h hc) (List.lt_irrefl _))
        have f2 : ((sL s).toList == (sL y).toList) = false := by rw [sL_toList, sL_toList]; exact beq_eq_false_iff_ne.2 (fun e => hne e.symm)
        have f3 : ((sL y).toList == (sL s).toList) = false := by rw [sL_toList, sL_toList]; exact beq_eq_false_iff_ne.2 hne
        obtain ⟨xs, hxs⟩ : ∃ xs, sL s = xs := ⟨_, rfl⟩
        obtain ⟨ys, hys⟩ : ∃ ys, sL y = ys := ⟨_, rfl⟩
        rw [hxs] at f1 f2 f3 ⊢
        rw [hys] at f1 f2 f3 hcell HC
        cases dn
        · rw [putF_false] at heq
          have HQ := Lib.hid (show acc ++ [y] ++ putF s false (l.drop (k + 1)) = putF s false l by rw [← heq, if_neg hnl]; simp)
          have HL2 := Lib.hid (show (acc ++ [y]).length = n + 1 by simp only [List.length_append, List.length_cons, List.length_nil]; omega)
          have HT2 := Lib.hid (show tsl (acc ++ [y]) = T ++ [.string ys] by simp only [tsl_app, HTa.out, ← hys]; rfl)
          clear heq hc hne hnl hxs hys hna HTa
          go_wp2_with (at_builtin; refine app eTx rfl _ _ rfl rfl (O.out.alloc _) (BB.out.alloc BB.out.size _) (size_alloc' BB.out.size _) rfl (Rd.one wr (.string ys) 9 (Nat.lt_succ_self _)) (by simp) (txts_one [ys]) (n + 1) rfl (by omega) ?_; intro A4 c4 w4 o4 b4 g4 _; have O4 := Lib.hid o4; have B4 := Lib.hid b4; clear o4 b4 g4)
          go_roundw
          case rel => exact ⟨k + 1, _, _, false, acc ++ [y], by omega, by go_num, rfl, by rw [HL2.out], HQ.out, by rw [HL2.out, HT2.out]; exact O4.out, B4.out⟩
          case measure => simp [intOf]; omega
        · have HQ := Lib.hid (show acc ++ [y] ++ putF s true (l.drop (k + 1)) = putF s false l by rw [← heq, putF_ne hne]; simp)
          have HL2 := Lib.hid (show (acc ++ [y]).length = n + 1 by simp only [List.length_append, List.length_cons, List.length_nil]; omega)
          have HT2 := Lib.hid (show tsl (acc ++ [y]) = T ++ [.string ys] by simp only [tsl_app, HTa.out, ← hys]; rfl)
          clear heq hc hne hnl hxs hys hna HTa
          go_wp2_with (at_builtin; refine app eTx rfl _ _ rfl rfl (O.out.alloc _) (BB.out.alloc BB.out.size _) (size_alloc' BB.out.size _) rfl (Rd.one wr (.string ys) 9 (Nat.lt_succ_self _)) (by simp) (txts_one [ys]) (n + 1) rfl (by omega) ?_; intro A4 c4 w4 o4 b4 g4 _; have O4 := Lib.hid o4; have B4 := Lib.hid b4; clear o4 b4 g4)
          go_roundw
          case rel => exact ⟨k + 1, _, _, true, acc ++ [y], by omega, by go_num, rfl, by rw [HL2.out], HQ.out, by rw [HL2.out, HT2.out]; exact O4.out, B4.out⟩
          case measure => simp [intOf]; omega
    · obtain rfl : k = l.length := by omega
      rw [List.drop_length] at heq
      have HE := Lib.hid heq
      clear heq
      cases dn
      · have HQ := Lib.hid (show putF s false l = acc ++ [s] by rw [← HE.out]; rfl)
        have HL2 := Lib.hid (show (putF s false l).length = acc.length + 1 by rw [HQ.out, List.length_append]; rfl)
        have HT2 := Lib.hid (show tsl (putF s false l) = tsl acc ++ [.string (sL s)] by rw [HQ.out, tsl_app]; rfl)
        generalize sL s = xs at *
        generalize acc.length = n at *
        generalize tsl acc = T at *
        go_wp2_with (at_builtin; refine app eTx rfl _ _ rfl rfl (O.out.alloc _) (BB.out.alloc BB.out.size _) (size_alloc' BB.out.size _) rfl (Rd.one wr (.string xs) 9 (Nat.lt_succ_self _)) (by simp) (txts_one [xs]) (n + 1) rfl (by omega) ?_; intro A4 c4 w4 o4 b4 g4 _; have O4 := Lib.hid o4; have B4 := Lib.hid b4; clear o4 b4 g4)
        go_ret
        exact ⟨A4, c4, by rw [HL2.out]; rfl, by rw [HL2.out, HT2.out]; exact O4.out, B4.out⟩
      · have HQ := Lib.hid (show putF s false l = acc by rw [← HE.out]; simp [putF])
        go_wp2_with fail
        go_ret
        exact ⟨A, c, by rw [HQ.out]; rfl, by rw [HQ.out]; exact O.out, BB.out⟩
end Go.Proofs.YtoenecgjiejljaaDoor
