/-
  Common of the program: the walk; proofs of pages and of growth are accepted. Condition: the lists can be read.
-/
import Derived.Test.YtoenecgjiejljaaDoorBhd
import Derived.Test.YtoenecgjiejljaaDoorBt8
import Derived.Test.YtoenecgjiejljaaDoorBtc
namespace Go.Proofs.YtoenecgjiejljaaDoor
open Go.RowKit
set_option linter.unusedVariables false

theorem proof_checks {l : List ByteArray} {k : Nat} {s : ByteArray} (hE : prE l (k : Int) = 0) (hd : l[k]? = some s) : cpE (rootV l) s (k : Int) (l.length : Int) (prL l (k : Int)) = 0 := by
  obtain ⟨hv, h0, h1⟩ := pr_ok hE
  obtain ⟨h64, hall⟩ := vpE_ok hv
  have hps := hall s (List.mem_of_getElem? hd)
  have hpl : prL l (k : Int) = pfL (smsL l) k := by unfold prL; rw [hE, if_pos rfl]; rfl
  have hsm := pf_sm l.length (smsL l) k (smsL_len l) (smsL_sm l)
  have hlen := pf_len l.length (smsL l) k (smsL_len l)
  have hg : gI (smsL l) k = lfS s := gI_get (by simp [smsL, hd])
  have hcl := climb_pf l.length (smsL l) k (smsL_len l) (by omega)
  rw [hg] at hcl
  have hplE : plE (k : Int) (l.length : Int) = 0 := by unfold plE; rw [if_pos (by omega), if_pos (by omega)]
  have hcb : cbE (lfS s) (k : Int) (l.length : Int) (pfL (smsL l) k) = 0 := by
    unfold cbE
    rw [if_pos hplE, if_pos (smB_iff.2 (lfS_sm s)), if_pos (smsB_iff.2 hsm), if_pos (by rw [hlen]; rfl)]
  have hrv : rootV l = rt (smsL l) := if_pos hv
  unfold cpE
  rw [hps, if_pos rfl, hpl, if_pos hcb, hrv, if_pos (smB_iff.2 (rt_sm (smsL_sm l))), if_pos]
  unfold cbV
  rw [if_pos hcb]
  exact hcl
theorem gw_checks {l : List ByteArray} {k : Nat} (hE : gwE l (k : Int) = 0) : ufE (k : Int) (l.length : Int) (rootV (l.take k)) (gwL l (k : Int)) = 0 ∧ ufV (k : Int) (l.length : Int) (rootV (l.take k)) (gwL l (k : Int)) = (rootV (l.take k), rootV l) ∧ cgE (rootV (l.take k)) (rootV l) (k : Int) (l.length : Int) (gwL l (k : Int)) = 0 := by
  obtain ⟨hv, h0, h1⟩ := gw_ok hE
  obtain ⟨h64, hall⟩ := vpE_ok hv
  have hgl : gwL l (k : Int) = grL (smsL l) k true := by unfold gwL; rw [hE, if_pos rfl]; rfl
  have hvt := vpE_take hv k
  have hr1 : rootV (l.take k) = rt ((smsL l).take k) := by unfold rootV; rw [if_pos hvt, smsL_take]
  have hr2 : rootV l = rt (smsL l) := if_pos hv
  have s1 : Sm1 (rootV (l.take k)) := by rw [hr1]; exact rt_sm ((smsL_sm l).take k)
  have s2 : Sm1 (rootV l) := by rw [hr2]; exact rt_sm (smsL_sm l)
  have hlen : (gwL l (k : Int)).length = gsN ((k : Int)).toNat ((l.length : Int)).toNat true := by rw [hgl, gr_len l.length (smsL l) k true (smsL_len l)]; rfl
  have hu : ufE (k : Int) (l.length : Int) (rootV (l.take k)) (gwL l (k : Int)) = 0 := uf_of ⟨by omega, by omega, by omega⟩ s1 (by rw [hgl]; exact gr_sm l.length (smsL l) k true (smsL_len l) (smsL_sm l)) hlen
  have hV : ufV (k : Int) (l.length : Int) (rootV (l.take k)) (gwL l (k : Int)) = (rootV (l.take k), rootV l) := by
    unfold ufV
    rw [if_pos hu, hgl]
    have := un_grow l.length (smsL l) k true (rootV (l.take k)) (smsL_len l) (by omega) (by omega) (fun _ => hr1)
    rw [← hr1, ← hr2] at this
    exact this
  refine ⟨hu, hV, ?_⟩
  unfold cgE
  rw [if_pos hu, if_pos (smB_iff.2 s2), hV, if_pos ⟨rfl, rfl⟩]
def coE (a b : List ByteArray) : Int := if vpE a = 0 then vpE b else vpE a
def coV (a b : List ByteArray) : Int := if coE a b = 0 then (cmN a b : Int) else 0
theorem co_ok {a b : List ByteArray} (h : coE a b = 0) : vpE a = 0 ∧ vpE b = 0 := by
  unfold coE at h
  split at h
  · rename_i h1
    exact ⟨h1, h⟩
  · rename_i h1
    exact absurd h h1
theorem Common_any (A A' : Option Addr) (c c' : Nat) (a b : List ByteArray) (w : World) (hr : Rd w w.heap.size A (txts a)) (hr' : Rd w w.heap.size A' (txts b)) (hs : Sz a) (hs' : Sz b) (hl : a.length ≤ 9223372036854775807) (hl' : b.length ≤ 9223372036854775807) :
    Calls Tryd.prog 48 #[.slice A a.length c, .slice A' b.length c'] w fun e w' => e = .returned (.tuple #[.int .i64 (coV a b), .int .i64 (coE a b)]) ∧ Below w.heap.size w w' := by
  have H1 := Lib.hid (Validate_any A c a w hr hs hl)
  have H2 := Lib.hid (Validate_any A' c' b w hr' hs' hl')
  by_cases h1 : vpE a = 0
  case neg =>
    have HE := Lib.hid (show coE a b = vpE a from if_neg h1)
    have HV := Lib.hid (show coV a b = 0 from if_neg (by rw [HE.out]; exact h1))
    have e1 : (vpE a != 0) = true := by simpa using h1
    rw [HE.out, HV.out]
    generalize vpE a = E at *
    generalize a.length = q at *
    generalize b.length = q' at *
    clear h1 hr hr'
    go_enter Tryd.func48, Tryd.ntmps48
    go_wp2_with fail
    refine (H1.out).mono ?_
    rintro e w' ⟨rfl, rfl⟩
    go_wp2_with fail
    go_ret2
    exact ⟨rfl, Below.refl _ _⟩
  rw [h1] at H1
  by_cases h2 : vpE b = 0
  case neg =>
    have HE := Lib.hid (show coE a b = vpE b from if_pos h1)
    have HV := Lib.hid (show coV a b = 0 from if_neg (by rw [HE.out]; exact h2))
    have e1 : (vpE b != 0) = true := by simpa using h2
    rw [HE.out, HV.out]
    generalize vpE b = E at *
    generalize a.length = q at *
    generalize b.length = q' at *
    clear h1 h2 hr hr'
    go_enter Tryd.func48, Tryd.ntmps48
    go_wp2_with fail
    refine (H1.out).mono ?_
    rintro e w' ⟨rfl, rfl⟩
    go_wp2_with fail
    refine (H2.out).mono ?_
    rintro e w' ⟨rfl, rfl⟩
    go_wp2_with fail
    go_ret2
    exact ⟨rfl, Below.refl _ _⟩
  rw [h2] at H2
  have hE : coE a b = 0 := by unfold coE; rw [if_pos h1]; exact h2
  have HE := Lib.hid hE
  have HV := Lib.hid (show coV a b = cmN a b from if_pos hE)
  have HC := Lib.hid (common_any A A' c c' a b w hr hr' (vpE_ok h1).1 (vpE_ok h2).1)
  rw [HE.out, HV.out]
  generalize cmN a b = n at *
  generalize a.length = q at *
  generalize b.length = q' at *
  clear h1 h2 hr hr' hE
  go_enter Tryd.func48, Tryd.ntmps48
  go_wp2_with fail
  refine (H1.out).mono ?_
  rintro e w' ⟨rfl, rfl⟩
  go_wp2_with fail
  refine (H2.out).mono ?_
  rintro e w' ⟨rfl, rfl⟩
  go_wp2_with fail
  refine HC.out.mono ?_
  rintro e w' ⟨rfl, m, rfl⟩
  go_wp2_with fail
  go_ret2
  exact ⟨rfl, bdDN (Below.refl _ _) m⟩
end Go.Proofs.YtoenecgjiejljaaDoor
