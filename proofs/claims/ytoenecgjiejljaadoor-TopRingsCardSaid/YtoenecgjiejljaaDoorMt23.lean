/-
  Texts merged into one (Rca, Rn5): contracts of the functions of package lure, what is reckoned of games. Conditions: as each says.
-/
import Derived.Test.YtoenecgjiejljaaDoorMt21
import Derived.Test.YtoenecgjiejljaaDoorMt22
import Derived.Deep.RegionWith
import Derived.Test.YtoenecgjiejljaaDoorMt12
namespace Go.Proofs.YtoenecgjiejljaaDoor
open Go.RowKit
set_option linter.unusedVariables false

/-- A store into a row of the call's own. -/
theorem own_put {w : World} {base n c g k : Nat} {e : TypeId} {xs : List Value} (h : w.ownsRow base e 1 (.slice (some ⟨g, 0, none⟩) n c) n xs) (u : Value) :
    (w.setCell ⟨g, k, none⟩ u).ownsRow base e 1 (.slice (some ⟨g, 0, none⟩) n c) n (xs.set k u) ∧ w.frozen? ⟨g, k, none⟩ = false ∧ base ≤ g := by
  rcases h.2 with ⟨hv, _⟩ | ⟨g', cap, cur, hv, hbg, hg, hnc, hcm, hcs, htake⟩
  · cases hv
  · injection hv with h1 h2 h3
    injection h1 with h1
    injection h1 with h1
    subst h1; subst h3
    refine ⟨⟨by rw [List.length_set]; exact h.1, .inr ⟨g, c, cur.setIfInBounds k u, rfl, hbg, blk_set hg k u, hnc, hcm, by simpa using hcs, ?_⟩⟩, blk_free hg k, hbg⟩
    rw [Array.toList_setIfInBounds, List.take_set, htake]
theorem own_some {w : World} {base n c : Nat} {A : Option Addr} {e : TypeId} {xs : List Value} (h : w.ownsRow base e 1 (.slice A n c) n xs) (hn : 0 < n) : ∃ g, A = some ⟨g, 0, none⟩ := by
  rcases h.2 with ⟨hv, h0⟩ | ⟨g', cap, cur, hv, _⟩
  · omega
  · injection hv with h1
    exact ⟨g', h1⟩
/-- What stands at a worn place. -/
def tg (a r : List Int) : Nat := if nW r = 0 then dst a r else 0
theorem tg_lt {a r : List Int} (ha : ∀ x ∈ a, Dig x) (hr : WDig r) (hl : r.length < 6) : tg a r < 10 := by
  unfold tg
  split
  · rename_i h; exact (dst_lt ha (nW_dig hr h) hl).1
  · omega
theorem nW_digs {a : List Int} (ha : ∀ x ∈ a, Dig x) : nW a = 0 := by
  unfold nW
  rw [List.countP_eq_zero]
  intro x hx
  have := (ha x hx).1
  simp only [decide_eq_true_eq]
  omega
theorem wdig_of {a : List Int} (ha : ∀ x ∈ a, Dig x) : WDig a := fun x hx => .inr (ha x hx)
theorem tg_iff {a r : List Int} (ha : ∀ x ∈ a, Dig x) (hr : WDig r) (hl : a.length + 1 + r.length = 6) {d : Nat} (hd : d ≤ tg a r) : wyL (a ++ (d : Int) :: r) 0 ≠ 0 ↔ d = tg a r := by
  have h10 := tg_lt ha hr (by omega)
  have hw : WDig (a ++ (d : Int) :: r) := fun x hx => by
    rcases List.mem_append.1 hx with hx | hx
    · exact .inr (ha x hx)
    · rcases List.mem_cons.1 hx with rfl | hx
      · exact .inr (nat_dig (by omega))
      · exact hr x hx
  have hn : nW (a ++ (d : Int) :: r) = nW r := by rw [nW_append, nW_cons, nW_digs ha, if_neg (by omega)]; omega
  have hy := wyl_zero hw (by simp; omega)
  rw [hn] at hy
  unfold tg at hd ⊢
  by_cases h0 : nW r = 0
  · rw [if_pos h0] at hd ⊢
    have hdd := dst_is ha (nW_dig hr h0) (by omega) (d := d) (by have := (dst_lt ha (nW_dig hr h0) (by omega)).1; omega)
    rw [← hdd]
    rcases hy with ⟨_, h1, h2⟩ | ⟨_, h1, h2⟩ | ⟨h1, _⟩
    · rw [h2]; exact ⟨fun _ => h1, fun _ => by omega⟩
    · rw [h2]; exact ⟨fun h => absurd rfl h, fun h => absurd h h1⟩
    · exact absurd h0 h1
  · rw [if_neg h0] at hd ⊢
    rcases hy with ⟨h1, _⟩ | ⟨h1, _⟩ | ⟨_, h2⟩
    · exact absurd h1 h0
    · exact absurd h1 h0
    · rw [h2]
      exact ⟨fun _ => by omega, fun _ => Nat.pos_iff_ne_zero.1 (Nat.pow_pos (by omega))⟩
theorem gr_worn (a r : List Int) : gr a ((-1) :: r) = gr (a ++ [(tg a r : Int)]) r := by
  rw [gr, if_pos (by decide)]
  unfold tg
  split <;> rfl
theorem gr_digit {x : Int} (hx : ¬ x < 0) (a r : List Int) : gr a (x :: r) = gr (a ++ [x]) r := by rw [gr, if_neg hx]
theorem set_mid (a r : List Int) (x d : Int) : (a ++ x :: r).set a.length d = a ++ d :: r := by
  rw [List.set_append_right _ _ (Nat.le_refl _), Nat.sub_self, List.set_cons_zero]
theorem hdF_next {l : List UInt8} {k : Nat} {c : UInt8} (h : l[k]? = some c) : sL (hdF (l.take (k + 1))) = sL (hdF (l.take k)) ++ sL [if c = 63 then 65 else c] := by
  rw [sL_app, List.take_add_one, h]
  unfold hdF
  simp only [Option.toList_some, List.map_append, List.map_cons, List.map_nil]
theorem ints_set (l : List Int) (k : Nat) (d : Int) : (ints l).set k (.int .i64 d) = ints (l.set k d) := by unfold ints; rw [List.map_set]
theorem gr6_len : ∀ (r a : List Int), (gr a r).length = a.length + r.length
  | [], a => by simp [gr]
  | x :: r, a => by
    unfold gr
    split <;> rw [gr6_len r] <;> simp <;> omega
end Go.Proofs.YtoenecgjiejljaaDoor
namespace Go.Proofs.YtoenecgjiejljaaDoor
open Go.RowKit
set_option linter.unusedVariables false

theorem ring_at {s : ByteArray} (h : formB s false = true) {i : Nat} (hi : i < s.size) : okAt false (s.size - 6) i (bAt s i) = true := by
  simp only [formB, Bool.and_eq_true] at h
  exact List.all_eq_true.1 h.2 i (List.mem_range.2 hi)
theorem ring_byte {s : ByteArray} {i : Nat} {b : UInt8} (h : (bl s)[i]? = some b) : bAt s i = (b.toNat : Int) := by
  unfold bAt
  rw [List.getD_eq_getElem?_getD, show s.data.toList = bl s from rfl, h]
  rfl
theorem ring_hd {s : ByteArray} (h : formB s false = true) : Lett (bl (headB s)) := by
  have hs := form_size h
  have hl : (bl (headB s)).length = s.size - 6 := head_len
  refine ⟨by rw [hl]; omega, fun c hc => ?_⟩
  obtain ⟨i, hi, he⟩ := List.getElem_of_mem hc
  have h2 := ring_byte (s := headB s) (i := i) (b := c) (by rw [List.getElem?_eq_getElem hi, he])
  have h1 : bAt (headB s) i = bAt s i := by unfold headB; rw [bAt_extract _ _ _ _ (by omega), Nat.zero_add]
  have := ring_at h (i := i) (by omega)
  unfold okAt at this
  rw [if_pos (by omega), ← h1, h2] at this
  simpa using this
theorem ring_bl {s : ByteArray} (h : formB s false = true) : bl s = bl (headB s) ++ (tailD s).map dgB := by
  have hs := form_size h
  have hl : (bl (headB s)).length = s.size - 6 := head_len
  apply List.ext_getElem?
  intro j
  by_cases hj : j < s.size - 6
  · rw [List.getElem?_append_left (by omega)]
    unfold headB
    rw [bl_extract, List.drop_zero, List.getElem?_take, if_pos (by omega)]
  · rw [List.getElem?_append_right (by omega), hl, List.getElem?_map]
    by_cases h6 : j < s.size
    · have hb : j < (bl s).length := by rw [bl_len]; exact h6
      rw [tail_at (by omega), List.getElem?_eq_getElem hb, show s.size - 6 + (j - (s.size - 6)) = j by omega]
      have h2 := ring_byte (s := s) (i := j) (List.getElem?_eq_getElem hb)
      have := ring_at h (i := j) h6
      unfold okAt at this
      rw [if_neg (by omega), h2] at this
      rw [h2]
      simp only [Option.map_some]
      rw [dgB_of]
      rw [isDg_iff]
      rw [Bool.false_and, Bool.or_false, isNum_iff] at this
      omega
    · have ht : (tailD s).length = 6 := tailK_length s 6
      rw [List.getElem?_eq_none (by rw [bl_len]; omega), List.getElem?_eq_none (by omega)]
      rfl
theorem dgB_nat (d : Nat) : dgB (d : Int) = UInt8.ofNat (48 + d) := rfl
theorem cg_rT {hd : List UInt8} {D : List Int} {i d : Nat} : sL (cg (hd ++ D.map dgB) (hd.length + i) d) = rT hd (D.set i (d : Int)) := by
  unfold cg rT
  rw [List.set_append_right _ _ (by omega), Nat.add_sub_cancel_left, List.map_set, dgB_nat]
theorem gD_map {hd : List UInt8} {D : List Int} {i : Nat} (hi : i < D.length) : (hd ++ D.map dgB).getD (hd.length + i) 0 = dgB (D.getD i 0) := by
  rw [List.getD_eq_getElem?_getD, List.getElem?_append_right (by omega), Nat.add_sub_cancel_left, List.getElem?_map, List.getElem?_eq_getElem hi, List.getD_eq_getElem?_getD, List.getElem?_eq_getElem hi]
  rfl
def xD (D : List Int) (i : Nat) : List Int := (D.set i (D.getD (i + 1) 0)).set (i + 1) (D.getD i 0)
theorem xg_rT {hd : List UInt8} {D : List Int} {i : Nat} (hi : i + 1 < D.length) : sL (xg (hd ++ D.map dgB) (hd.length + i)) = rT hd (xD D i) := by
  unfold xg rT xD
  rw [Nat.add_assoc, gD_map hi, gD_map (show i < D.length by omega), List.set_append_right _ _ (by omega), List.set_append_right _ _ (by omega), Nat.add_sub_cancel_left, Nat.add_sub_cancel_left, List.map_set, List.map_set]
theorem xD_len (D : List Int) (i : Nat) : (xD D i).length = D.length := by simp [xD]
theorem set_dig {D : List Int} (h : ∀ x ∈ D, Dig x) {i : Nat} {d : Int} (hd : Dig d) : ∀ x ∈ D.set i d, Dig x := by
  intro x hx
  rcases List.mem_or_eq_of_mem_set hx with h1 | h1
  · exact h x h1
  · rw [h1]; exact hd
theorem gD_dig {D : List Int} (h : ∀ x ∈ D, Dig x) (i : Nat) : Dig (D.getD i 0) := by
  rw [List.getD_eq_getElem?_getD]
  cases hx : D[i]? with
  | none => exact ⟨by decide, by decide⟩
  | some x => exact h x (List.mem_of_getElem? hx)
theorem xD_dig {D : List Int} (h : ∀ x ∈ D, Dig x) (i : Nat) : ∀ x ∈ xD D i, Dig x := set_dig (set_dig h (gD_dig h _)) (gD_dig h _)
theorem rgV_rT {hd : List UInt8} {D : List Int} {y : List UInt8} (hh : Lett hd) (hD : D.length = 6) (hd' : ∀ x ∈ D, Dig x) (hy : sL y = rT hd D) : rgV y = decide (sumL D = 0) := by
  unfold rgV
  rw [hy, rT_valid hh hD hd']
  by_cases h : sumL D = 0
  · rw [if_pos h, decide_eq_true h]; rfl
  · rw [if_neg h, decide_eq_false h]; rfl
/-- What the reference keeps. -/
def nrW (u y : List UInt8) : Bool := !decide (y = u) && rgV y
def nrP (u : List UInt8) (L : List (List UInt8)) : List (List UInt8) := putAll (L.filter (nrW u))
theorem nrP_snoc {u y : List UInt8} {L : List (List UInt8)} : nrP u (L ++ [y]) = if nrW u y = true then putF y false (nrP u L) else nrP u L := by
  unfold nrP
  rw [List.filter_append]
  cases h : nrW u y
  · rw [List.filter_cons_of_neg (by simp [h]), List.filter_nil, List.append_nil]; rfl
  · rw [List.filter_cons_of_pos h, List.filter_nil, putAll_snoc]; rfl
theorem fold_len : ∀ (l o : List (List UInt8)), (l.foldl (fun o s => putF s false o) o).length ≤ o.length + l.length
  | [], o => by simp
  | y :: l, o => by
    rw [List.foldl_cons, List.length_cons]
    have := fold_len l (putF y false o)
    have := put_len y o
    omega
theorem nrP_len (u : List UInt8) (L : List (List UInt8)) : (nrP u L).length ≤ L.length := by
  unfold nrP putAll
  have h1 := fold_len (L.filter (nrW u)) []
  have h2 := List.length_filter_le (nrW u) L
  rw [List.length_nil] at h1
  omega
theorem nrL_put {s : ByteArray} (h : 6 ≤ s.size) : nrL s = nrP (bl s) (rfL (bl s) (s.size - 6) 6) := by
  have hl : (bl s).length = (s.size - 6) + 6 := by rw [bl_len]; omega
  refine srt_put ?_ fun x => ?_
  · exact (near_apart (bl s) (s.size - 6) hl).filter _
  · rw [show ((rfL (bl s) (s.size - 6) 6).filter (nrW (bl s))) = (rfL (bl s) (s.size - 6) 6).filter fun y => !decide (y = bl s) && rgV y from rfl]
    exact near_same (bl s) (s.size - 6) hl rgV x
theorem rfL_next {u : List UInt8} {h k : Nat} : rfL u h (k + 1) = rfL u h k ++ rfP u h k := by
  unfold rfL
  rw [List.range_succ, List.flatMap_append]
  simp
theorem range_map_snoc {β : Type} (f : Nat → β) (d : Nat) : (List.range (d + 1)).map f = (List.range d).map f ++ [f d] := by rw [List.range_succ, List.map_append]; rfl
theorem rfL_len (u : List UInt8) (h : Nat) : ∀ k, (rfL u h k).length ≤ 11 * k
  | 0 => by simp [rfL]
  | k + 1 => by
    rw [rfL_next, List.length_append]
    have := rfL_len u h k
    have h2 : (rfP u h k).length ≤ 11 := by
      unfold rfP
      rw [List.length_append, List.length_map, List.length_range]
      split <;> simp
    omega
theorem nrP_one {s : ByteArray} {D : List Int} {y : List UInt8} (hf : formB s false = true) (hD : D.length = 6) (hd' : ∀ x ∈ D, Dig x) (hy : sL y = rT (bl (headB s)) D) (M : List (List UInt8)) :
    nrP (bl s) (M ++ [y]) = if rT (bl (headB s)) D = s then nrP (bl s) M else if sumL D = 0 then putF y false (nrP (bl s) M) else nrP (bl s) M := by
  rw [nrP_snoc]
  unfold nrW
  rw [rgV_rT (ring_hd hf) hD hd' hy, ← hy]
  have e : decide (y = bl s) = decide (sL y = s) := by
    rw [decide_eq_decide]
    exact ⟨fun e => by rw [e, sL_bl], fun e => by rw [← e, bl_sL]⟩
  rw [e]
  by_cases h1 : sL y = s
  · rw [if_pos h1, decide_eq_true h1]; rfl
  · rw [if_neg h1, decide_eq_false h1]
    by_cases h2 : sumL D = 0
    · rw [if_pos h2, decide_eq_true h2]; rfl
    · rw [if_neg h2, decide_eq_false h2]; rfl
theorem nrP_cg {s : ByteArray} (hf : formB s false = true) {h k d : Nat} (hh : (bl (headB s)).length = h) (hd : d < 10) (M : List (List UInt8)) :
    sL (cg (bl s) (h + k) d) = rT (bl (headB s)) ((tailD s).set k (d : Int)) ∧ nrP (bl s) (M ++ [cg (bl s) (h + k) d]) = if rT (bl (headB s)) ((tailD s).set k (d : Int)) = s then nrP (bl s) M else if sumL ((tailD s).set k (d : Int)) = 0 then putF (cg (bl s) (h + k) d) false (nrP (bl s) M) else nrP (bl s) M := by
  have e : sL (cg (bl s) (h + k) d) = rT (bl (headB s)) ((tailD s).set k (d : Int)) := by
    rw [← hh]
    conv => { lhs; rw [ring_bl hf] }
    exact cg_rT
  exact ⟨e, nrP_one hf (by rw [List.length_set]; exact tailK_length s 6) (set_dig (dig_tail hf) ⟨by omega, by omega⟩) e M⟩
theorem nrP_xg {s : ByteArray} (hf : formB s false = true) {h k : Nat} (hh : (bl (headB s)).length = h) (hk : k + 1 < 6) (M : List (List UInt8)) :
    sL (xg (bl s) (h + k)) = rT (bl (headB s)) (xD (tailD s) k) ∧ nrP (bl s) (M ++ [xg (bl s) (h + k)]) = if rT (bl (headB s)) (xD (tailD s) k) = s then nrP (bl s) M else if sumL (xD (tailD s) k) = 0 then putF (xg (bl s) (h + k)) false (nrP (bl s) M) else nrP (bl s) M := by
  have hl : (tailD s).length = 6 := tailK_length s 6
  have e : sL (xg (bl s) (h + k)) = rT (bl (headB s)) (xD (tailD s) k) := by
    rw [← hh]
    conv => { lhs; rw [ring_bl hf] }
    exact xg_rT (by omega)
  exact ⟨e, nrP_one hf (by rw [xD_len]; exact hl) (xD_dig (dig_tail hf) k) e M⟩
theorem head_text (s : ByteArray) (l : List Int) : headB s ++ sL (l.map dgB) = rT (bl (headB s)) l := by
  unfold rT
  rw [← sL_app, sL_bl]

theorem tail_own (s : ByteArray) (w : World) (h6 : 6 ≤ s.size) (hsz : s.size ≤ 1000) :
    Calls Tryd.prog 58 #[.string s] w fun e w' => ∃ A c, e = .returned (.slice A 6 c) ∧ w'.ownsRow w.heap.size 3 1 (.slice A 6 c) 6 (ints (tailD s)) ∧ Below w.heap.size w w' := by
  obtain ⟨z, hz⟩ : ∃ z, s.size = z + 6 := ⟨s.size - 6, by omega⟩
  have HZ := Lib.hid hz
  have e1 : ((s.size : Int) - 6) = (z : Int) := by omega
  clear hz
  go_enter Tryd.func58, Tryd.ntmps58
  go_wp2
  go_loopw [3, 4] (fun v i wr => ∃ (k : Nat) (A : Option Addr) (c : Nat), k ≤ 6 ∧ i = .int .i64 ((z : Int) + k) ∧ v = .slice A k c ∧ wr.ownsRow w.heap.size 3 1 v k (ints (tailK s k)) ∧ Below w.heap.size w wr) (fun _ i _ => (s.size - intOf i).toNat)
  case atStart => exact ⟨0, none, 0, by omega, by simp, rfl, World.ownsRow_nil _ _ _ _, Below.refl _ _⟩
  case round =>
    obtain ⟨k, A, c, hk, rfl, rfl, hown, hb⟩ := hrel
    have O := Lib.hid hown
    have BB := Lib.hid hb
    clear hown hb
    by_cases hlt : k < 6
    · have hp : z + k < s.size := by have := HZ.out; omega
      have hb1 := bAt_get s (z + k) hp
      have hr := bAt_range s (z + k)
      rw [hb1] at hr
      generalize hd : ((s[z + k]'hp).toNat : Int) = d at *
      have D := Lib.hid hb1
      obtain ⟨r0, r1⟩ := hr
      clear hb1
      go_wp2_with (at_builtin; refine app eInt' rfl _ _ rfl rfl (O.out.alloc _) (BB.out.alloc BB.out.size _) (size_alloc' BB.out.size _) rfl (Rd.one wr (.int .i64 (d - 48)) 3 (Nat.lt_succ_self _)) (by simp) (ints_one [d - 48]) (k + 1) rfl (by omega) ?_; intro A4 c4 w4 o4 b4 g4 _; have O4 := Lib.hid o4; have B4 := Lib.hid b4; clear o4 b4 g4)
      go_roundw
      case rel => exact ⟨k + 1, A4, c4, by omega, by go_num, rfl, by rw [tailK_succ, ints_append, HZ.out, Nat.add_sub_cancel, D.out]; exact O4.out, B4.out⟩
      case measure => have := HZ.out; simp [intOf]; omega
    · have hk6 : k = 6 := by omega
      subst hk6
      have hnp : ¬ ((z : Int) + 6 < (s.size : Int)) := by have := HZ.out; omega
      go_wp2
      go_ret
      exact ⟨A, c, rfl, O.out, BB.out⟩
theorem rNear_not (s : ByteArray) (w : World) (hsz : s.size ≤ 1000) (hf : formB s false = false) :
    Calls Tryd.prog 23 #[.string s] w fun e w' => e = .returned (.tuple #[.slice none 0 0, .int .i64 2]) ∧ Below w.heap.size w w' := by
  have H1 := Lib.hid (formed_any s false w (by omega))
  rw [hf] at H1
  clear hf
  go_enter Tryd.func23, Tryd.ntmps23
  go_wp2_with fail
  refine (H1.out).mono ?_
  rintro e w' ⟨rfl, rfl⟩
  go_wp2_with fail
  go_ret2
  exact ⟨rfl, Below.refl _ _⟩
set_option maxRecDepth 8000 in
set_option maxHeartbeats 4000000 in
theorem rNear_any (s : ByteArray) (w : World) (hf : formB s false = true) :
    Calls Tryd.prog 23 #[.string s] w fun e w' => ∃ A c, e = .returned (.tuple #[.slice A (nrL s).length c, .int .i64 0]) ∧ Rd w' w'.heap.size A (tsl (nrL s)) ∧ Below w.heap.size w w' := by
  have hs := form_size hf
  have H1 := Lib.hid (formed_any s false w (by omega))
  rw [hf] at H1
  have hs8 : s.size ≤ 8 := by omega
  have HD := Lib.hid (dig_tail hf)
  have HL := Lib.hid (show (tailD s).length = 6 from tailK_length s 6)
  obtain ⟨h, hh⟩ : ∃ h, s.size = h + 6 := ⟨s.size - 6, by omega⟩
  have hhl : (bl (headB s)).length = h := by rw [head_len]; omega
  have hhs : (headB s).size = h := by rw [← bl_len]; exact hhl
  have HT := Lib.hid (fun w => tail_own s w (by omega) (by omega))
  have HX := Lib.hid (fun A c l w (hn : l.length = 6) hr (hl : ∀ x ∈ l, Dig x) => text_ok (headB s) A 6 c l w hn hr hl (by omega) (by omega))
  simp only [head_text] at HX
  have HS := Lib.hid (fun A c l w (hn : l.length = 6) hr (hl : ∀ x ∈ l, Dig x) => rsum_n A 6 c l w hn hr hl (by omega))
  have HC := Lib.hid (fun k d hd M => nrP_cg hf (k := k) (d := d) hhl hd M)
  have HG := Lib.hid (fun k hk M => nrP_xg hf (k := k) hhl hk M)
  have HR := Lib.hid (show nrL s = nrP (bl s) (rfL (bl s) h 6) by rw [nrL_put (by omega), hh, Nat.add_sub_cancel])
  have HPl := Lib.hid (fun M => nrP_len (bl s) M)
  have HLl := Lib.hid (fun k => rfL_len (bl s) h k)
  have HLn := Lib.hid (fun k => rfL_next (u := bl s) (h := h) (k := k))
  have HP := Lib.hid (fun M x A c w hr hl => put_any M x A c w hr hl)
  have q1 : ((s.size : Int) - 6) = (h : Int) := by omega
  have q2 : (0 : Int) ≤ (h : Int) := by omega
  have q3 : (h : Int) ≤ (s.size : Int) := by omega
  have HE := Lib.hid (show s.extract 0 h = headB s by unfold headB; rw [hh, Nat.add_sub_cancel])
  generalize nrL s = R at *
  generalize bl s = u at *
  generalize headB s = hb at *
  generalize tailD s = D at *
  clear hs hf hh hhl hhs
  go_enter Tryd.func23, Tryd.ntmps23
  go_wp2_with fail
  refine (H1.out).mono ?_
  rintro e w' ⟨rfl, rfl⟩
  go_wp2_with fail
  rw [HE.out]
  go_loopw [5, 6] (fun v i wr => ∃ (k : Nat) (A : Option Addr) (c : Nat), k ≤ 6 ∧ i = .int .i64 k ∧ v = .slice A (nrP u (rfL u h k)).length c ∧ Rd wr wr.heap.size A (tsl (nrP u (rfL u h k))) ∧ Below w.heap.size w wr) (fun _ i _ => 6 - (intOf i).toNat)
  case atStart => exact ⟨0, none, 0, by omega, rfl, rfl, Rd.nil_, Below.refl _ _⟩
  case round =>
    obtain ⟨k, A, c, hk, rfl, rfl, hrd, hbb⟩ := hrel
    have RR := Lib.hid hrd
    have BB := Lib.hid hbb
    clear hrd hbb
    by_cases hlt : k < 6
    · have HN := Lib.hid (HLn.out k)
      have hLl := HLl.out k
      have k0 : (0 : Int) ≤ (k : Int) := by omega
      have k6 : (k : Int) < 6 := by omega
      generalize hLe : rfL u h k = L at *
      clear hLe
      obtain ⟨wo, hwo⟩ : ∃ wo : World, wo = wr := ⟨_, rfl⟩
      rw [← hwo] at RR BB ⊢
      clear hwo
      go_wp2_with fail
      go_loopw [5, 7] (fun v j wr => ∃ (d : Nat) (A : Option Addr) (c : Nat), d ≤ 10 ∧ j = .int .i64 d ∧ v = .slice A (nrP u (L ++ (List.range d).map (cg u (h + k)))).length c ∧ Rd wr wr.heap.size A (tsl (nrP u (L ++ (List.range d).map (cg u (h + k))))) ∧ Below w.heap.size w wr) (fun _ j _ => 10 - (intOf j).toNat)
      case atStart => exact ⟨0, A, c, by omega, rfl, by simp, by simpa using RR.out, BB.out⟩
      case round =>
        obtain ⟨d, A, c, hd, rfl, rfl, hrd, hbb⟩ := hrel
        have R0 := Lib.hid hrd
        have B0 := Lib.hid hbb
        clear hrd hbb
        by_cases hd10 : d < 10
        · obtain ⟨hX0, hN0⟩ := HC.out k d hd10 (L ++ (List.range d).map (cg u (h + k)))
          rw [List.append_assoc, ← range_map_snoc] at hN0
          have HN0 := Lib.hid hN0
          have hMl := HPl.out (L ++ (List.range d).map (cg u (h + k)))
          rw [List.length_append, List.length_map, List.length_range] at hMl
          generalize cg u (h + k) d = y at *
          generalize nrP u (L ++ (List.range d).map (cg u (h + k))) = M at *
          obtain ⟨M', hM'⟩ : ∃ M', nrP u (L ++ (List.range (d + 1)).map (cg u (h + k))) = M' := ⟨_, rfl⟩
          have HM' := Lib.hid hM'
          rw [hM'] at hN0 HN0
          clear hM'
          have HY := Lib.hid hX0
          clear hX0 hN0
          have d0 : (0 : Int) ≤ (d : Int) := by omega
          have dd : Dig (d : Int) := ⟨by omega, by omega⟩
          have HD2 := Lib.hid (set_dig HD.out (i := k) dd)
          have HL2 := Lib.hid (show (D.set k (d : Int)).length = 6 by rw [List.length_set]; exact HL.out)
          have hMl' : M.length ≤ 100 := by omega
          have hD1 : (ints D)[k]? = some (.int .i64 (D.getD k 0)) := by
            unfold ints
            rw [List.getElem?_map, List.getElem?_eq_getElem (by rw [HL.out]; omega), List.getD_eq_getElem?_getD, List.getElem?_eq_getElem (by rw [HL.out]; omega)]
            rfl
          have HD1 := Lib.hid hD1
          clear dd hD1
          go_wp2_with fail
          refine (HT.out wr).mono ?_
          rintro e w1 ⟨A1, c1, rfl, ho1, hb1⟩
          obtain ⟨g, rfl⟩ := own_some ho1 (by omega)
          have P1 := Lib.hid (own_put ho1 (k := k) (.int .i64 (d : Int)))
          have f1 := P1.out.2.1
          have hc1 : w1.cell? ⟨g, k, none⟩ = some (.int .i64 (D.getD k 0)) := by rw [ho1.cellAt k (by omega)]; exact HD1.out
          have B1 := Lib.hid hb1
          clear ho1 hb1
          go_wp2_with fail
          have O2 := Lib.hid (show (w1.setCell ⟨g, k, none⟩ (.int .i64 (d : Int))).ownsRow wr.heap.size 3 1 (.slice (some ⟨g, 0, none⟩) 6 c1) 6 (ints (D.set k (d : Int))) from by
            have := P1.out.1
            rw [ints_set] at this
            exact this)
          have B2 := Lib.hid (show Below wr.heap.size wr (w1.setCell ⟨g, k, none⟩ (.int .i64 (d : Int))) from Below.setCell B1.out P1.out.2.2 _)
          generalize w1.setCell ⟨g, k, none⟩ (.int .i64 (d : Int)) = w2 at *
          clear P1 f1 hc1
          have R2 := Lib.hid (Rd.of_own O2.out)
          have RM2 := Lib.hid ((R0.out.below B2.out (Nat.le_refl _)).more B2.out.size)
          have BB2 := Lib.hid (B0.out.trans (B2.out.mono B0.out.size))
          refine (HX.out _ c1 (D.set k (d : Int)) w2 HL2.out R2.out HD2.out).mono ?_
          rintro e w3 ⟨rfl, rfl⟩
          have hS := Lib.hid (HS.out (some ⟨g, 0, none⟩) c1 (D.set k (d : Int)) w2 HL2.out R2.out HD2.out)
          generalize sumL (D.set k (d : Int)) = S at *
          generalize rT (bl hb) (D.set k (d : Int)) = X at *
          generalize D.set k (d : Int) = D2 at *
          by_cases hxs : X = s
          · have e1 : (X.toList == s.toList) = true := by rw [bl_eqb, decide_eq_true hxs]
            have HM := Lib.hid (show M' = M by rw [HN0.out, if_pos hxs])
            clear hxs
            go_wp2_with fail
            go_roundw
            case rel => exact ⟨d + 1, A, c, by omega, by go_num, by rw [HM'.out, HM.out], by rw [HM'.out, HM.out]; exact RM2.out, BB2.out⟩
            case measure => simp [intOf]; omega
          · have e1 : (X.toList == s.toList) = false := by rw [bl_eqb, decide_eq_false hxs]
            by_cases hs0 : S = 0
            · have HM := Lib.hid (show M' = putF y false M by rw [HN0.out, if_neg hxs, if_pos hs0])
              have e2 : (S == 0) = true := by rw [beq_iff_eq]; exact hs0
              have hP := HP.out M y A c w2 RM2.out hMl'
              rw [HY.out, ← HM.out] at hP
              have HPP := Lib.hid hP
              clear hxs hs0 hP
              generalize M.length = mn at *
              go_wp2_with fail
              refine hS.out.mono ?_
              rintro e w4 ⟨rfl, rfl⟩
              go_wp2_with fail
              refine HPP.out.mono ?_
              rintro e w5 ⟨A5, c5, rfl, ho5, hb5⟩
              have R5 := Lib.hid (Rd.of_own ho5)
              have B5 := Lib.hid (BB2.out.trans (hb5.mono BB2.out.size))
              clear ho5 hb5
              go_wp2_with fail
              go_roundw
              case rel => exact ⟨d + 1, A5, c5, by omega, by go_num, by rw [HM'.out], by rw [HM'.out]; exact R5.out, B5.out⟩
              case measure => simp [intOf]; omega
            · have HM := Lib.hid (show M' = M by rw [HN0.out, if_neg hxs, if_neg hs0])
              have e2 : (S == 0) = false := by rw [beq_eq_false_iff_ne]; exact hs0
              clear hxs hs0
              go_wp2_with fail
              refine hS.out.mono ?_
              rintro e w4 ⟨rfl, rfl⟩
              go_wp2_with fail
              go_roundw
              case rel => exact ⟨d + 1, A, c, by omega, by go_num, by rw [HM'.out, HM.out], by rw [HM'.out, HM.out]; exact RM2.out, BB2.out⟩
              case measure => simp [intOf]; omega
        · obtain rfl : d = 10 := by omega
          have hMl := HPl.out (L ++ (List.range 10).map (cg u (h + k)))
          rw [List.length_append, List.length_map, List.length_range] at hMl
          have hMl' : (nrP u (L ++ (List.range 10).map (cg u (h + k)))).length ≤ 100 := by omega
          have hGk := fun k' (hk' : k' + 1 < 6) => HG.out k' hk' (L ++ (List.range 10).map (cg u (h + k)))
          obtain ⟨M, hM⟩ : ∃ M, nrP u (L ++ (List.range 10).map (cg u (h + k))) = M := ⟨_, rfl⟩
          have HM0 := Lib.hid hM
          simp only [hM] at hGk
          rw [hM] at hMl hMl' R0 ⊢
          clear hM hMl
          by_cases hk0 : 0 < k
          · obtain ⟨p, hp⟩ : ∃ p, k = p + 1 := ⟨k - 1, by omega⟩
            have HPK := Lib.hid hp
            obtain ⟨hX0, hN0⟩ := hGk p (by omega)
            have HN2 := Lib.hid (show rfL u h (k + 1) = (L ++ (List.range 10).map (cg u (h + k))) ++ [xg u (h + p)] by
              rw [HN.out]
              unfold rfP
              rw [if_pos hk0, ← List.append_assoc, show h + k - 1 = h + p by omega])
            rw [← HN2.out] at hN0
            obtain ⟨M', hM'⟩ : ∃ M', nrP u (rfL u h (k + 1)) = M' := ⟨_, rfl⟩
            have HM' := Lib.hid hM'
            rw [hM'] at hN0
            have HN0 := Lib.hid hN0
            have HY := Lib.hid hX0
            generalize xg u (h + p) = y at *
            have e0 : decide ((0 : Int) < (k : Int)) = true := decide_eq_true (by omega)
            have e0' : decide (0 < k) = true := decide_eq_true hk0
            have e3 : (k : Int) - 1 = (p : Int) := by omega
            have p0 : (0 : Int) ≤ (p : Int) := by omega
            have p6 : (p : Int) < 6 := by omega
            have HD2 := Lib.hid (xD_dig HD.out p)
            have HL2 := Lib.hid (show (xD D p).length = 6 by rw [xD_len]; exact HL.out)
            have hDc := Lib.hid (fun j (hj : j < 6) => show (ints D)[j]? = some (.int .i64 (D.getD j 0)) by
              unfold ints
              rw [List.getElem?_map, List.getElem?_eq_getElem (by rw [HL.out]; omega), List.getD_eq_getElem?_getD, List.getElem?_eq_getElem (by rw [HL.out]; omega)]
              rfl)
            have HXD := Lib.hid (show (D.set p (D.getD k 0)).set k (D.getD p 0) = xD D p by rw [hp]; rfl)
            clear hX0 hN0 hGk hM' hk0 hp
            go_wp2_with fail
            refine (HT.out wr).mono ?_
            rintro e w1 ⟨A1, c1, rfl, ho1, hb1⟩
            obtain ⟨g, rfl⟩ := own_some ho1 (by omega)
            have P1 := Lib.hid (own_put ho1 (k := p) (.int .i64 (D.getD k 0)))
            have P2 := Lib.hid (own_put P1.out.1 (k := k) (.int .i64 (D.getD p 0)))
            have f1 := P1.out.2.1
            have f1' : w1.frozen? ⟨g, k, none⟩ = false := (own_put ho1 (k := k) (.int .i64 0)).2.1
            have hc1 : w1.cell? ⟨g, k, none⟩ = some (.int .i64 (D.getD k 0)) := by rw [ho1.cellAt k (by omega)]; exact hDc.out k (by omega)
            have hc2 : w1.cell? ⟨g, p, none⟩ = some (.int .i64 (D.getD p 0)) := by rw [ho1.cellAt p (by omega)]; exact hDc.out p (by omega)
            have B1 := Lib.hid hb1
            have O1 := Lib.hid ho1
            clear ho1 hb1
            generalize D.getD k 0 = a1 at *
            generalize D.getD p 0 = a2 at *
            go_wp2_with fail
            go_region
            go_wp2_with fail
            have O2 := Lib.hid (show ((w1.setCell ⟨g, p, none⟩ (.int .i64 a1)).setCell ⟨g, k, none⟩ (.int .i64 a2)).drew.ownsRow wr.heap.size 3 1 (.slice (some ⟨g, 0, none⟩) 6 c1) 6 (ints (xD D p)) from by
              have := own_drew1 P2.out.1
              rw [ints_set, ints_set, HXD.out] at this
              exact this)
            have B2 := Lib.hid (show Below wr.heap.size wr ((w1.setCell ⟨g, p, none⟩ (.int .i64 a1)).setCell ⟨g, k, none⟩ (.int .i64 a2)).drew from (Below.setCell (Below.setCell B1.out P1.out.2.2 _) P2.out.2.2 _).drew)
            generalize ((w1.setCell ⟨g, p, none⟩ (.int .i64 a1)).setCell ⟨g, k, none⟩ (.int .i64 a2)).drew = w2 at *
            clear P1 P2 f1 f1' hc1 hc2 HXD
            have R2 := Lib.hid (Rd.of_own O2.out)
            have RM2 := Lib.hid ((R0.out.below B2.out (Nat.le_refl _)).more B2.out.size)
            have BB2 := Lib.hid (B0.out.trans (B2.out.mono B0.out.size))
            refine (HX.out _ c1 (xD D p) w2 HL2.out R2.out HD2.out).mono ?_
            rintro e w3 ⟨rfl, rfl⟩
            have hS := Lib.hid (HS.out (some ⟨g, 0, none⟩) c1 (xD D p) w2 HL2.out R2.out HD2.out)
            generalize sumL (xD D p) = S at *
            generalize rT (bl hb) (xD D p) = X at *
            generalize xD D p = D2 at *
            by_cases hxs : X = s
            · have e1 : (X.toList == s.toList) = true := by rw [bl_eqb, decide_eq_true hxs]
              have HM := Lib.hid (show M' = M by rw [HN0.out, if_pos hxs])
              clear hxs
              go_wp2_with fail
              go_roundw
              case rel => exact ⟨k + 1, A, c, by omega, by go_num, by rw [HM'.out, HM.out], by rw [HM'.out, HM.out]; exact RM2.out, BB2.out⟩
              case measure => simp [intOf]; omega
            · have e1 : (X.toList == s.toList) = false := by rw [bl_eqb, decide_eq_false hxs]
              by_cases hs0 : S = 0
              · have HM := Lib.hid (show M' = putF y false M by rw [HN0.out, if_neg hxs, if_pos hs0])
                have e2 : (S == 0) = true := by rw [beq_iff_eq]; exact hs0
                have hP := HP.out M y A c w2 RM2.out hMl'
                rw [HY.out, ← HM.out] at hP
                have HPP := Lib.hid hP
                clear hxs hs0 hP
                generalize M.length = mn at *
                go_wp2_with fail
                refine hS.out.mono ?_
                rintro e w4 ⟨rfl, rfl⟩
                go_wp2_with fail
                refine HPP.out.mono ?_
                rintro e w5 ⟨A5, c5, rfl, ho5, hb5⟩
                have R5 := Lib.hid (Rd.of_own ho5)
                have B5 := Lib.hid (BB2.out.trans (hb5.mono BB2.out.size))
                clear ho5 hb5
                go_wp2_with fail
                go_roundw
                case rel => exact ⟨k + 1, A5, c5, by omega, by go_num, by rw [HM'.out], by rw [HM'.out]; exact R5.out, B5.out⟩
                case measure => simp [intOf]; omega
              · have HM := Lib.hid (show M' = M by rw [HN0.out, if_neg hxs, if_neg hs0])
                have e2 : (S == 0) = false := by rw [beq_eq_false_iff_ne]; exact hs0
                clear hxs hs0
                go_wp2_with fail
                refine hS.out.mono ?_
                rintro e w4 ⟨rfl, rfl⟩
                go_wp2_with fail
                go_roundw
                case rel => exact ⟨k + 1, A, c, by omega, by go_num, by rw [HM'.out, HM.out], by rw [HM'.out, HM.out]; exact RM2.out, BB2.out⟩
                case measure => simp [intOf]; omega
          · have hk00 : k = 0 := by omega
            have HM' := Lib.hid (show nrP u (rfL u h (k + 1)) = M by
              rw [HN.out]
              unfold rfP
              rw [if_neg hk0, List.append_nil]
              exact HM0.out)
            have e0 : decide ((0 : Int) < (k : Int)) = false := decide_eq_false (by omega)
            have e0' : decide (0 < k) = false := decide_eq_false hk0
            clear hk0 hk00 hGk
            go_wp2_with fail
            refine (HT.out wr).mono ?_
            rintro e w1 ⟨A1, c1, rfl, ho1, hb1⟩
            have B1 := Lib.hid (B0.out.trans (hb1.mono B0.out.size))
            have RM1 := Lib.hid ((R0.out.below hb1 (Nat.le_refl _)).more hb1.size)
            clear ho1 hb1
            go_wp2_with fail
            go_roundw
            case rel => exact ⟨k + 1, A, c, by omega, by go_num, by rw [HM'.out], by rw [HM'.out]; exact RM1.out, B1.out⟩
            case measure => simp [intOf]; omega
    · obtain rfl : k = 6 := by omega
      rw [← HR.out] at RR ⊢
      go_wp2_with fail
      go_ret2
      exact ⟨A, c, rfl, RR.out, BB.out⟩
end Go.Proofs.YtoenecgjiejljaaDoor
