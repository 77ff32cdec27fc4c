/-
  Games: the walks of Validate of the reference. Condition: the game can be read.
-/
import Derived.Test.YtldepjpalhmpnaaLu3
namespace Go.Proofs.Ytldepjpalhmpnaa
open Go.RowKit
set_option linter.unusedVariables false

theorem bdN {B : Nat} {w w' : World} (h : Below B w w') (n : Nat) : Below B w (w'.drewN n) := ⟨h.os, h.tape, h.output, h.size, h.block⟩
set_option maxRecDepth 4000 in
set_option maxHeartbeats 1600000 in
theorem rValidate_any (g : Gv) (w : World) (hr : RdG w w.heap.size g) (hf : Gfit g) :
    Calls Try.prog 18 #[g.v] w fun e w' => e = .returned (.int .i64 (gE g.G)) ∧ Below w.heap.size w w' := by
  obtain ⟨W, hW, p0, p1, hz, hb, hr1⟩ := box_game w g 25 hr
  obtain ⟨n0, m0, n1, m1, hfr⟩ := hf
  obtain ⟨A0, c0, own, A1, c1, rs⟩ := g
  have R0 := Lib.hid (show Rd W W.heap.size A0 (ints own) from hr1.o)
  have R1 := Lib.hid (show RdR W W.heap.size A1 rs from hr1.r)
  have B0 := Lib.hid hb
  have HF := Lib.hid (show ∀ r ∈ rs, r.l.length ≤ r.c ∧ r.c ≤ maxLen from hfr)
  clear hfr
  simp only at hW p0 p1 n0 n1 m0 m1
  unfold Gv.v
  simp only
  obtain ⟨G, hG⟩ : ∃ G, Gv.G ⟨A0, c0, own, A1, c1, rs⟩ = G := ⟨_, rfl⟩
  rw [hG]
  have hGo : G.own = own := by rw [← hG]; rfl
  have hGm : G.mv.length = rs.length := by rw [← hG]; simp [Gv.G]
  have HRow := Lib.hid (fun k A c l (h : rs[k]? = some ⟨A, c, l⟩) => (show G.row k = l by rw [← hG]; exact row_of h))
  have HN1 := Lib.hid (fun w => within_any (own.length : Int) 1 16 w)
  have HI := Lib.hid (fun d w => within_any d 0 1 w)
  have HV := Lib.hid (fun A c (L : List Int) lim w h hn (hl : (0 : Int) ≤ lim ∧ lim ≤ 9223372036854775807) => risSet_any A c L lim (lim - 1) w h hn (by omega) hl.1 hl.2)
  clear hr hr1 hb hG
  unfold maxLen at m0 m1
  by_cases hlg : own.length = 0 ∨ 16 < own.length
  · have HE := Lib.hid (gE_large (G := G) (by rw [hGo]; exact hlg))
    clear hGo hGm
    rw [show inW 1 16 (own.length : Int) = false from inW_no (by omega)] at HN1
    clear hlg
    go_enter Try.func18, Try.ntmps18
    go_wp2_with fail
    refine (HN1.out W).mono ?_
    rintro e w' ⟨rfl, rfl⟩
    go_wp2_with fail
    go_ret
    exact ⟨by rw [HE.out]; rfl, B0.out⟩
  · rw [show inW 1 16 (own.length : Int) = true from inW_yes (by omega) (by omega)] at HN1
    have hlg' : ¬ (G.own.length = 0 ∨ 16 < G.own.length) := by rw [hGo]; exact hlg
    by_cases hln : rs.length = own.length
    · have e3 : ((rs.length : Int) != (own.length : Int)) = false := by rw [hln]; simp
      have HB := Lib.hid (fun p (hp : p < own.length) h => gE_bad (p := p) hlg' (by rw [hGo]; exact hp) h)
      have HO := Lib.hid (fun (h : ∀ p, p < own.length → okRow G p = true) => gE_ok hlg' (by rw [hGm, hGo]; exact hln) (by rw [hGo]; exact h))
      have HK := Lib.hid (fun k d l (hd : own[k]? = some d) hl => okRow_at (G := G) (k := k) (d := d) (l := l) (by rw [hGo]; exact hd) hl)
      rw [hGo] at HK
      clear hGo hGm hlg'
      have hn16 : own.length ≤ 16 := by omega
      have HLN := Lib.hid hln
      clear hlg hln
      go_enter Try.func18, Try.ntmps18
      go_wp2_with fail
      refine (HN1.out W).mono ?_
      rintro e w' ⟨rfl, rfl⟩
      go_wp2_with fail
      clear hW e3
      go_loopw [4] (fun i wr => ∃ k : Nat, k ≤ own.length ∧ i = .int .i64 k ∧ (∀ j, j < k → okRow G j = true) ∧ ∃ m, wr = W.drewN m) (fun i _ => own.length - (intOf i).toNat)
      case atStart => exact ⟨0, by omega, rfl, fun j hj => by omega, 0, rfl⟩
      case round =>
        obtain ⟨k, hk, rfl, hall, m, rfl⟩ := hrel
        have HA := Lib.hid hall
        clear hall
        by_cases hlt : k < own.length
        · obtain ⟨b, o, d, rfl, hd, hc⟩ := R0.out.int k hlt
          obtain ⟨b', o', A', c', l, rfl, hx, hc', hl⟩ := R1.out.row k (by have := HLN.out; omega)
          have hok := HK.out k d l hd.out (HRow.out k _ _ _ hx.out)
          have hkr : (k : Int) < (rs.length : Int) := by have := HLN.out; omega
          have hkr2 : k < rs.length := by have := HLN.out; omega
          have HD := Lib.hid (fun w => HI.out d w)
          by_cases hd01 : d = 0 ∨ d = 1
          · rw [show inW 0 1 d = true from inW_yes (by omega) (by omega)] at HD
            have edd : (decide (d = 0) || decide (d = 1)) = true := by rcases hd01 with rfl | rfl <;> rfl
            rw [edd, Bool.true_and] at hok
            by_cases hl0 : l.length = 0
            · have HE := Lib.hid (HB.out k hlt (by rw [hok, hl0]; rfl))
              have e4 : ((l.length : Int) == 0) = true := by rw [hl0]; rfl
              clear hok edd hl0 hd01
              go_wp2_with fail
              refine (HD.out (W.drewN m)).mono ?_
              rintro e w' ⟨rfl, rfl⟩
              go_wp2_with fail
              go_ret
              exact ⟨by rw [HE.out]; rfl, bdN B0.out _⟩
            · have e4 : ((l.length : Int) == 0) = false := by rw [beq_eq_false_iff_ne]; omega
              rw [decide_eq_false hl0, Bool.not_false, Bool.true_and] at hok
              have HS := Lib.hid (fun w (h : Rd w w.heap.size A' (ints l)) (hn : l.length ≤ 9223372036854775807) => HV.out A' c' l own.length w h hn ⟨by omega, by omega⟩)
              have hll : l.length ≤ 9223372036854775807 := by have := HF.out _ (List.mem_of_getElem? hx.out); unfold maxLen at this; simp only at this; omega
              cases hs : setL own.length l
              · have HE := Lib.hid (HB.out k hlt (by rw [hok, hs]))
                rw [hs] at HS
                clear hok edd hl0 hs
                clear hd01
                go_wp2_with fail
                refine (HD.out (W.drewN m)).mono ?_
                rintro e w' ⟨rfl, rfl⟩
                go_wp2_with fail
                refine (HS.out (W.drewN m) hl.out hll).mono ?_
                rintro e w' ⟨rfl, m2, rfl⟩
                go_wp2_with fail
                go_ret
                exact ⟨by rw [HE.out]; rfl, bdN B0.out _⟩
              · have HN := Lib.hid (okRow_next HA.out (by rw [hok, hs]))
                rw [hs] at HS
                clear hok edd hl0 hs
                clear hd01
                go_wp2_with fail
                refine (HD.out (W.drewN m)).mono ?_
                rintro e w' ⟨rfl, rfl⟩
                go_wp2_with fail
                refine (HS.out (W.drewN m) hl.out hll).mono ?_
                rintro e w' ⟨rfl, m2, rfl⟩
                go_wp2_with fail
                go_roundw
                case rel => exact ⟨k + 1, by omega, by go_num, HN.out, _, rfl⟩
                case measure => simp [intOf]; omega
          · have HE := Lib.hid (HB.out k hlt (by rw [hok, decide_eq_false (show ¬ d = 0 by omega), decide_eq_false (show ¬ d = 1 by omega)]; rfl))
            rw [show inW 0 1 d = false from inW_no (by omega)] at HD
            clear hok hd01
            go_wp2_with fail
            refine (HD.out (W.drewN m)).mono ?_
            rintro e w' ⟨rfl, rfl⟩
            go_wp2_with fail
            go_ret
            exact ⟨by rw [HE.out]; rfl, bdN B0.out _⟩
        · have hks : k = own.length := by omega
          subst hks
          have HE := Lib.hid (HO.out HA.out)
          go_wp2_with fail
          go_ret
          exact ⟨by rw [HE.out]; rfl, bdN B0.out _⟩
    · have e3 : ((rs.length : Int) != (own.length : Int)) = true := by rw [bne_iff_ne]; omega
      have e4 : (rs.length != own.length) = true := by rw [bne_iff_ne]; exact hln
      have HE := Lib.hid (gE_len hlg' (by rw [hGo, hGm]; exact hln))
      clear hGo hGm hlg' hlg hln
      go_enter Try.func18, Try.ntmps18
      go_wp2_with fail
      refine (HN1.out W).mono ?_
      rintro e w' ⟨rfl, rfl⟩
      go_wp2_with fail
      go_ret
      exact ⟨by rw [HE.out]; rfl, B0.out⟩
end Go.Proofs.Ytldepjpalhmpnaa
