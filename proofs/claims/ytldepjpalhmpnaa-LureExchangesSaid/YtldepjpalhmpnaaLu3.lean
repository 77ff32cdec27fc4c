/-
  Games: the walks of Validate of both sides, of Large. Condition: the game can be read.
-/
import Derived.Test.YtldepjpalhmpnaaLu2
import Derived.Test.YtldepjpalhmpnaaGen
namespace Go.Proofs.Ytldepjpalhmpnaa
open Go.RowKit
set_option linter.unusedVariables false

theorem box_game (w : World) (g : Gv) (t : TypeId) (hr : RdG w w.heap.size g) : ∃ W, w.alloc (.cells #[.slice g.A0 g.own.length g.c0, .slice g.A1 g.rs.length g.c1] t) = W ∧ W.cell? ⟨w.heap.size, 0, none⟩ = some (.slice g.A0 g.own.length g.c0) ∧
    W.cell? ⟨w.heap.size, 1, none⟩ = some (.slice g.A1 g.rs.length g.c1) ∧ w.heap.size < W.heap.size ∧ Below w.heap.size w W ∧ RdG W W.heap.size g := by
  obtain ⟨W, e, h0, h1, h2, h3⟩ := one_pt w (.slice g.A0 g.own.length g.c0) (.slice g.A1 g.rs.length g.c1) t
  exact ⟨W, e, h0, h1, h2, h3, hr.up h3⟩
theorem okRow_at {G : Gm} {k : Nat} {d : Int} {l : List Int} (hd : G.own[k]? = some d) (hl : G.row k = l) : okRow G k = ((decide (d = 0) || decide (d = 1)) && (!decide (l.length = 0) && setL G.own.length l)) := by
  unfold okRow
  rw [who_at hd, hl]
theorem okRow_next {G : Gm} {k : Nat} (ha : ∀ j, j < k → okRow G j = true) (h : okRow G k = true) : ∀ j, j < k + 1 → okRow G j = true := fun j hj => by
  rcases Nat.lt_or_ge j k with h1 | h1
  · exact ha j h1
  · obtain rfl : j = k := by omega
    exact h
theorem cell_keep {w w' : World} {b n i : Nat} {v : Value} (h : w.cell? ⟨b, i, none⟩ = some v) (hb : Below n w w') (hn : b < n) : w'.cell? ⟨b, i, none⟩ = some v := (hb.cell (p := ⟨b, i, none⟩) hn).trans h
set_option maxRecDepth 4000 in
set_option maxHeartbeats 1600000 in
theorem Validate_any (g : Gv) (w : World) (hr : RdG w w.heap.size g) (hf : Gfit g) :
    Calls Try.prog 15 #[g.v] w fun e w' => e = .returned (.int .i64 (gE g.G)) ∧ Below w.heap.size w w' := by
  obtain ⟨W, hW, p0, p1, hz, hb, hr1⟩ := box_game w g 25 hr
  obtain ⟨n0, m0, n1, m1, hfr⟩ := hf
  obtain ⟨A0, c0, own, A1, c1, rs⟩ := g
  have R0 := Lib.hid (show Rd W W.heap.size A0 (ints own) from hr1.o)
  have R1 := Lib.hid (show RdR W W.heap.size A1 rs from hr1.r)
  have B0 := Lib.hid hb
  have HF := Lib.hid (show ∀ r ∈ rs, r.l.length ≤ r.c ∧ r.c ≤ maxLen from hfr)
  clear hfr
  simp only at hW p0 p1 n0 n1 m0 m1
  unfold Gv.v
  simp only
  obtain ⟨G, hG⟩ : ∃ G, Gv.G ⟨A0, c0, own, A1, c1, rs⟩ = G := ⟨_, rfl⟩
  rw [hG]
  have hGo : G.own = own := by rw [← hG]; rfl
  have hGm : G.mv.length = rs.length := by rw [← hG]; simp [Gv.G]
  have HRow := Lib.hid (fun k A c l (h : rs[k]? = some ⟨A, c, l⟩) => (show G.row k = l by rw [← hG]; exact row_of h))
  have HV := Lib.hid (fun A c (L : List Int) lim w h hn hl => isSet_any A c L lim w h hn hl)
  clear hr hr1 hb hG
  unfold maxLen at m0 m1
  by_cases hlg : own.length = 0 ∨ 16 < own.length
  · have HE := Lib.hid (gE_large (G := G) (by rw [hGo]; exact hlg))
    clear hGo hGm
    by_cases h0 : own.length = 0
    · have e1 : ((own.length : Int) == 0) = true := by rw [h0]; rfl
      clear hlg h0
      go_enter Try.func15, Try.ntmps15
      go_wp2_with fail
      go_ret
      exact ⟨by rw [HE.out]; rfl, B0.out⟩
    · have e1 : ((own.length : Int) == 0) = false := by rw [beq_eq_false_iff_ne]; omega
      have e2 : decide ((16 : Int) < (own.length : Int)) = true := by rw [decide_eq_true_eq]; omega
      clear hlg h0
      go_enter Try.func15, Try.ntmps15
      go_wp2_with fail
      go_ret
      exact ⟨by rw [HE.out]; rfl, B0.out⟩
  · have e1 : ((own.length : Int) == 0) = false := by rw [beq_eq_false_iff_ne]; omega
    have e2 : decide ((16 : Int) < (own.length : Int)) = false := by rw [decide_eq_false_iff_not]; omega
    have hlg' : ¬ (G.own.length = 0 ∨ 16 < G.own.length) := by rw [hGo]; exact hlg
    by_cases hln : rs.length = own.length
    · have e3 : ((rs.length : Int) != (own.length : Int)) = false := by rw [hln]; simp
      have HB := Lib.hid (fun p (hp : p < own.length) h => gE_bad (p := p) hlg' (by rw [hGo]; exact hp) h)
      have HO := Lib.hid (fun (h : ∀ p, p < own.length → okRow G p = true) => gE_ok hlg' (by rw [hGm, hGo]; exact hln) (by rw [hGo]; exact h))
      have HK := Lib.hid (fun k d l (hd : own[k]? = some d) hl => okRow_at (G := G) (k := k) (d := d) (l := l) (by rw [hGo]; exact hd) hl)
      rw [hGo] at HK
      clear hGo hGm hlg'
      have hn16 : own.length ≤ 16 := by omega
      have HLN := Lib.hid hln
      clear hlg hln
      go_enter Try.func15, Try.ntmps15
      go_wp2_with fail
      clear hW e3
      go_loopw [23] (fun i wr => ∃ k : Nat, k ≤ own.length ∧ i = .int .i64 k ∧ (∀ j, j < k → okRow G j = true) ∧ wr = W) (fun i _ => own.length - (intOf i).toNat)
      case atStart => exact ⟨0, by omega, rfl, fun j hj => by omega, rfl⟩
      case round =>
        obtain ⟨k, hk, rfl, hall, rfl⟩ := hrel
        have HA := Lib.hid hall
        clear hall
        by_cases hlt : k < own.length
        · obtain ⟨b, o, d, rfl, hd, hc⟩ := R0.out.int k hlt
          obtain ⟨b', o', A', c', l, rfl, hx, hc', hl⟩ := R1.out.row k (by have := HLN.out; omega)
          have hok := HK.out k d l hd.out (HRow.out k _ _ _ hx.out)
          have hkr : (k : Int) < (rs.length : Int) := by have := HLN.out; omega
          have hkr2 : k < rs.length := by have := HLN.out; omega
          by_cases hd01 : d = 0 ∨ d = 1
          · have ed : ((d != 0) && (d != 1)) = false := by rcases hd01 with rfl | rfl <;> rfl
            have edd : (decide (d = 0) || decide (d = 1)) = true := by rcases hd01 with rfl | rfl <;> rfl
            rw [edd, Bool.true_and] at hok
            by_cases hl0 : l.length = 0
            · have HE := Lib.hid (HB.out k hlt (by rw [hok, hl0]; rfl))
              have e4 : ((l.length : Int) == 0) = true := by rw [hl0]; rfl
              clear hok edd hl0
              rcases hd01 with rfl | rfl
              · clear ed
                go_wp2_with fail
                go_ret
                exact ⟨by rw [HE.out]; rfl, B0.out⟩
              · clear ed
                go_wp2_with fail
                go_ret
                exact ⟨by rw [HE.out]; rfl, B0.out⟩
            · have e4 : ((l.length : Int) == 0) = false := by rw [beq_eq_false_iff_ne]; omega
              rw [decide_eq_false hl0, Bool.not_false, Bool.true_and] at hok
              have HS := Lib.hid (fun w (h : Rd w w.heap.size A' (ints l)) (hn : l.length ≤ 9223372036854775807) => HV.out A' c' l own.length w h hn (by omega))
              have hll : l.length ≤ 9223372036854775807 := by have := HF.out _ (List.mem_of_getElem? hx.out); unfold maxLen at this; simp only at this; omega
              cases hs : setL own.length l
              · have HE := Lib.hid (HB.out k hlt (by rw [hok, hs]))
                rw [hs] at HS
                clear hok edd hl0 hs
                rcases hd01 with rfl | rfl
                · clear ed
                  go_wp2_with fail
                  refine (HS.out _ hl.out hll).mono ?_
                  rintro e w' ⟨rfl, rfl⟩
                  go_wp2_with fail
                  go_ret
                  exact ⟨by rw [HE.out]; rfl, B0.out⟩
                · clear ed
                  go_wp2_with fail
                  refine (HS.out _ hl.out hll).mono ?_
                  rintro e w' ⟨rfl, rfl⟩
                  go_wp2_with fail
                  go_ret
                  exact ⟨by rw [HE.out]; rfl, B0.out⟩
              · have HN := Lib.hid (okRow_next HA.out (by rw [hok, hs]))
                rw [hs] at HS
                clear hok edd hl0 hs
                rcases hd01 with rfl | rfl
                · clear ed
                  go_wp2_with fail
                  refine (HS.out _ hl.out hll).mono ?_
                  rintro e w' ⟨rfl, rfl⟩
                  go_wp2_with fail
                  go_roundw
                  case rel => exact ⟨k + 1, by omega, by go_num, HN.out, by first | rfl | trivial⟩
                  case measure => simp [intOf]; omega
                · clear ed
                  go_wp2_with fail
                  refine (HS.out _ hl.out hll).mono ?_
                  rintro e w' ⟨rfl, rfl⟩
                  go_wp2_with fail
                  go_roundw
                  case rel => exact ⟨k + 1, by omega, by go_num, HN.out, by first | rfl | trivial⟩
                  case measure => simp [intOf]; omega
          · have HE := Lib.hid (HB.out k hlt (by rw [hok, decide_eq_false (show ¬ d = 0 by omega), decide_eq_false (show ¬ d = 1 by omega)]; rfl))
            have e4 : (d != 0) = true := by rw [bne_iff_ne]; omega
            have e5 : (d != 1) = true := by rw [bne_iff_ne]; omega
            clear hok hd01
            go_wp2_with fail
            go_ret
            exact ⟨by rw [HE.out]; rfl, B0.out⟩
        · have hks : k = own.length := by omega
          subst hks
          have HE := Lib.hid (HO.out HA.out)
          go_wp2_with fail
          go_ret
          exact ⟨by rw [HE.out]; rfl, B0.out⟩
    · have e3 : ((rs.length : Int) != (own.length : Int)) = true := by rw [bne_iff_ne]; omega
      have e4 : (rs.length != own.length) = true := by rw [bne_iff_ne]; exact hln
      have HE := Lib.hid (gE_len hlg' (by rw [hGo, hGm]; exact hln))
      clear hGo hGm hlg' hlg hln
      go_enter Try.func15, Try.ntmps15
      go_wp2_with fail
      go_ret
      exact ⟨by rw [HE.out]; rfl, B0.out⟩
end Go.Proofs.Ytldepjpalhmpnaa
