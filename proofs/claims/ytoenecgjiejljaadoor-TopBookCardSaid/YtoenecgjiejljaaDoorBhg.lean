/-
  Write of the reference: the walk. Condition: the list can be read.
-/
import Derived.Test.YtoenecgjiejljaaDoorBhf
namespace Go.Proofs.YtoenecgjiejljaaDoor
open Go.RowKit
set_option linter.unusedVariables false

/-- The lines of pages. -/
def wrB (l : List ByteArray) : List UInt8 := l.flatMap fun s => bl s ++ [10]
/-- The text of a book. -/
def wrL (l : List ByteArray) : List UInt8 := hdL l.length (rt (smsL l)).toNat ++ wrB l
/-- What Write returns. -/
def wrS (l : List ByteArray) : List UInt8 := if vpE l = 0 then wrL l else []
theorem wr_next {l : List ByteArray} {h : List UInt8} {k : Nat} {s : ByteArray} (hk : l[k]? = some s) : sL (h ++ wrB (l.take k)) ++ (s ++ (⟨#[10]⟩ : ByteArray)) = sL (h ++ wrB (l.take (k + 1))) := by
  have e1 : (⟨#[10]⟩ : ByteArray) = sL [10] := rfl
  rw [List.take_add_one, hk, ← sL_bl s, e1, sL_app, sL_app]
  unfold wrB
  simp [bl_sL]
theorem wrB_len (l : List ByteArray) (h : ∀ s ∈ l, s.size ≤ 60) : (wrB l).length ≤ 61 * l.length := by
  unfold wrB
  induction l with
  | nil => simp
  | cons a r ih =>
    have h1 := h a (by simp)
    have h2 := ih fun s hs => h s (by simp [hs])
    have h3 : (bl a).length = a.size := bl_len a
    simp only [List.flatMap_cons, List.length_append, List.length_cons, List.length_nil]
    omega
theorem hdL_len {n x : Nat} (hn : n < 10000000000) (hx : x < 10000000000) : (hdL n x).length ≤ 40 := by
  have l1 := D_len 9 n (by omega)
  have l2 := D_len 9 x (by omega)
  have e : (hdL n x).length = 6 + (D n).length + 1 + (D x).length + 1 := by simp [hdL, canon, pgW]; omega
  omega
set_option maxRecDepth 8000 in
set_option maxHeartbeats 4000000 in
theorem rWrite_any (A : Option Addr) (c : Nat) (l : List ByteArray) (w : World) (hr : Rd w w.heap.size A (txts l)) (hs : Sz l) (hl : l.length ≤ 9223372036854775807) :
    Calls Tryd.prog 39 #[.slice A l.length c] w fun e w' => e = .returned (.tuple #[.string (sL (wrS l)), .int .i64 (vpE l)]) ∧ Below w.heap.size w w' := by
  have H1 := Lib.hid (rRoot_any A c l w hr hs hl)
  have HR := Lib.hid hr
  clear hr hs
  by_cases hv : vpE l = 0
  case neg =>
    have HW := Lib.hid (show wrS l = [] from if_neg hv)
    have z1 : (vpE l != 0) = true := by simpa using hv
    rw [HW.out]
    clear hv HW HR
    generalize vpE l = E at *
    go_enter Tryd.func39, Tryd.ntmps39
    go_wp2_with fail
    refine H1.out.mono ?_
    rintro e w1 ⟨rfl, hb⟩
    have B1 := Lib.hid hb
    clear hb
    go_wp2_with fail
    go_ret2
    exact ⟨rfl, B1.out⟩
  have hlen := (vpE_ok hv).1
  have hsm := rt_sm (smsL_sm l)
  have HW := Lib.hid (show wrS l = wrL l from if_pos hv)
  have e2 : rootV l = ((rt (smsL l)).toNat : Int) := by
    unfold rootV
    rw [if_pos hv, Int.toNat_of_nonneg hsm.1]
  rw [e2, hv] at H1
  rw [hv]
  have H2 := Lib.hid (fun w => first_any l.length (rt (smsL l)).toNat w (by omega) (by have := hsm.2; omega))
  have H60 := Lib.hid (show ∀ s ∈ l, s.size ≤ 60 from fun s hs => by
    have h := (vpE_ok hv).2 s hs
    unfold pgB at h
    simp only [Bool.and_eq_true, decide_eq_true_eq] at h
    exact h.1.2)
  have HL := Lib.hid (hdL_len (n := l.length) (x := (rt (smsL l)).toNat) (by omega) (by have := hsm.2; omega))
  have HE : wrL l = hdL l.length (rt (smsL l)).toNat ++ wrB (l.take l.length) := by rw [List.take_length]; rfl
  have HE' := Lib.hid HE
  generalize (rt (smsL l)).toNat = x at *
  generalize hdL l.length x = h at *
  clear hv hsm e2 HE
  have h0 : sL h = sL (h ++ wrB (l.take 0)) := by simp [wrB]
  rw [h0] at H2
  clear h0
  go_enter Tryd.func39, Tryd.ntmps39
  go_wp2_with fail
  refine H1.out.mono ?_
  rintro e w1 ⟨rfl, hb⟩
  have B1 := Lib.hid hb
  have R1 := Lib.hid (show Rd w1 w1.heap.size A (txts l) from (HR.out.below hb (Nat.le_refl _)).more hb.size)
  clear hb
  go_wp2_with fail
  refine (H2.out w1).mono ?_
  rintro e w2 ⟨rfl, rfl⟩
  go_wp2_with fail
  go_loopw [6, 7] (fun u i wr => ∃ k : Nat, k ≤ l.length ∧ i = .int .i64 k ∧ u = .string (sL (h ++ wrB (l.take k))) ∧ ∃ m, wr = w1.drewN m) (fun u i _ => l.length - (intOf i).toNat)
  case atStart => exact ⟨0, by omega, rfl, rfl, 0, rfl⟩
  case round =>
    obtain ⟨k, hk, rfl, rfl, m, rfl⟩ := hrel
    by_cases hlt : k < l.length
    · obtain ⟨b1, o1, s, rfl, hx, hc⟩ := R1.out.txt k hlt
      have HN := Lib.hid (wr_next (h := h) hx.out)
      have hlt' : (k : Int) < (l.length : Int) := by omega
      have b0 : (0 : Int) ≤ (k : Int) := by omega
      have hc' : (w1.drewN m).cell? ⟨b1, o1 + k, none⟩ = some (.string s) := hc
      obtain ⟨u0, hu0⟩ : ∃ u0, sL (h ++ wrB (l.take k)) = u0 := ⟨_, rfl⟩
      have s1 : s.size ≤ 60 := H60.out s (List.mem_of_getElem? hx.out)
      have s2 : u0.size ≤ 4000 := by
        rw [← hu0, sL_size, List.length_append]
        have h1 := HL.out
        have h2 := wrB_len (l.take k) fun s hs => H60.out s (List.mem_of_mem_take hs)
        rw [List.length_take] at h2
        omega
      rw [hu0] at HN
      have HU := Lib.hid hu0
      simp only [hu0]
      clear hu0
      go_wp2_with fail
      go_roundw
      case rel => exact ⟨k + 1, by omega, by go_num, by rw [← HN.out], _, rfl⟩
      case measure => simp [intOf]; omega
    · have hks : k = l.length := by omega
      subst hks
      have HF := Lib.hid (show sL (h ++ wrB (l.take l.length)) = sL (wrS l) from by rw [HW.out, HE'.out])
      go_wp2_with fail
      go_ret2
      exact ⟨by rw [HF.out]; rfl, bdDN B1.out m⟩
end Go.Proofs.YtoenecgjiejljaaDoor
