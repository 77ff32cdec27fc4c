/-
  What two messages leave over: the walk of the function inside leave that calls itself. Condition: how its variables lie.
-/
import Derived.Test.YtjongjndoaojnaaLv1
namespace Go.Proofs.Ytjongjndoaojnaa
open Go.RowKit
set_option linter.unusedVariables false

theorem Try.zeroBool (w : World) : (zeroValue 4).run Try.prog w = .ok (.bool false) w := by kernel_rfl
/-- What the function gives: the ends that it found, the two messages where they met. -/
def FolPost (B lb mb bs bc bf : Nat) (C : List ByteArray) (A : Option Addr) (c : Nat) (w : World) (L : List ByteArray) (m : Bool) (o : Option Nat) (u : List UInt8) (w' : World) : Prop :=
  ∃ L' m' AE' cE' va' vb', LvSt B lb mb bs bc bf C A c w' L' m' AE' cE' va' vb' ∧ Seen Try.prog 9 4 w' mb (nb L' m') (insB (Cl L') m') ∧ Grew C (Cl L) m (Cl L') m' ∧ InS (Cl L') m' u ∧ Kp lb mb o w w' ∧ Ob o (Value.slice AE' L'.length cE').ownBlock w.heap.size
theorem cl_snoc (L : List ByteArray) (u : ByteArray) : Cl (L ++ [u]) = Cl L ++ [bl u] := by simp
theorem nb_le {C : List ByteArray} {L : List ByteArray} {m : Bool} (hV : Vd C) (g : Bd C (Cl L)) : nb L m ≤ 145 := by
  have := g.bound hV
  rw [cl_len] at this
  have := Bool.toNat_le m
  unfold nb
  omega
theorem insB_snoc (L : List (List UInt8)) (m : Bool) (u x : List UInt8) : (decide (x = u) || insB L m x) = insB (L ++ [u]) m x := by
  unfold insB
  by_cases h1 : x = u
  · subst h1; simp
  · by_cases h2 : x ∈ L <;> simp [h1, h2]
theorem own_form_le {w : World} {base n c : Nat} {A : Option Addr} {e : TypeId} {size : Nat} {xs : List Value} (h : w.ownsRow base e size (.slice A n c) n xs) : n ≤ c := by
  obtain ⟨A', c', he, hc⟩ := own_form h
  injection he with _ _ h3
  omega
theorem ownB_any (A : Option Addr) (n n' c c' : Nat) : (Value.slice A n c).ownBlock = (Value.slice A n' c').ownBlock := by cases A <;> rfl
/-- Behind the stores of two messages that met. -/
theorem LvSt.met {B lb mb bs bc bf : Nat} {C : List ByteArray} {A : Option Addr} {c : Nat} {w : World} {L : List ByteArray} {AE : Option Addr} {cE : Nat} {va vb : Value} (h : LvSt B lb mb bs bc bf C A c w L false AE cE va vb) (ap : Ap B lb mb bs bc bf)
    {Aa Ab : Option Addr} {la l2 : List Int} {ca cb : Nat} (ha : Msl lb mb (Value.slice AE L.length cE).ownBlock w Aa la) (hb : Msl lb mb (Value.slice AE L.length cE).ownBlock w Ab l2) (hm : Meet C la l2) :
    LvSt B lb mb bs bc bf C A c (((w.setCell ⟨lb, 1, none⟩ (.slice Aa la.length ca)).setCell ⟨lb, 2, none⟩ (.slice Ab l2.length cb)).setCell ⟨lb, 3, none⟩ (.bool true)) L true AE cE (.slice Aa la.length ca) (.slice Ab l2.length cb) ∧
    w.grownBy (((w.setCell ⟨lb, 1, none⟩ (.slice Aa la.length ca)).setCell ⟨lb, 2, none⟩ (.slice Ab l2.length cb)).setCell ⟨lb, 3, none⟩ (.bool true)) (some lb) := by
  have hg : w.grownBy (((w.setCell ⟨lb, 1, none⟩ (.slice Aa la.length ca)).setCell ⟨lb, 2, none⟩ (.slice Ab l2.length cb)).setCell ⟨lb, 3, none⟩ (.bool true)) (some lb) :=
    ((grown_setC _ _ _ _).trans (grown_setC _ _ _ _)).trans (grown_setC _ _ _ _)
  have hk := Kp.grown (lb := lb) (mb := mb) (o := (Value.slice AE L.length cE).ownBlock) hg (.inr (.inl rfl))
  refine ⟨h.next ap hk Ob.refl ?_ (own_keepB h.hE fun j hj => hg.block j (own_ge h.hE j hj).2 fun e => h.o1 (by rw [hj, e])) (.inr ⟨rfl, Aa, la, ca, Ab, l2, cb, rfl, rfl, ha.keep hk Ob.refl, hb.keep hk Ob.refl, hm⟩), hg⟩
  rw [blk_set (blk_set (blk_set h.hl 1 _) 2 _) 3 _]
  rfl
/-- Behind the append of an end. -/
theorem LvSt.push {B lb mb bs bc bf : Nat} {C : List ByteArray} {A : Option Addr} {c : Nat} {w w1 : World} {L : List ByteArray} {m : Bool} {AE : Option Addr} {cE : Nat} {va vb : Value} (h : LvSt B lb mb bs bc bf C A c w L m AE cE va vb) (ap : Ap B lb mb bs bc bf)
    {u : ByteArray} {A' : Option Addr} {c' : Nat} (hown : w1.ownsRow B 9 1 (.slice A' (L ++ [u]).length c') (L ++ [u]).length (txts (L ++ [u]))) (hg : w.grownBy w1 (Value.slice AE L.length cE).ownBlock)
    (hor : (Value.slice A' (L ++ [u]).length c').ownBlock = (Value.slice AE L.length cE).ownBlock ∨ (Value.slice A' (L ++ [u]).length c').ownBlock = some w.heap.size) :
    LvSt B lb mb bs bc bf C A c (w1.setCell ⟨lb, 0, none⟩ (.slice A' (L ++ [u]).length c')) (L ++ [u]) m A' c' va vb ∧ Kp lb mb (Value.slice AE L.length cE).ownBlock w (w1.setCell ⟨lb, 0, none⟩ (.slice A' (L ++ [u]).length c')) ∧ Ob (Value.slice AE L.length cE).ownBlock (Value.slice A' (L ++ [u]).length c').ownBlock w.heap.size := by
  have l4 := lt_of_block h.hl
  have hob : Ob (Value.slice AE L.length cE).ownBlock (Value.slice A' (L ++ [u]).length c').ownBlock w.heap.size := by
    rcases hor with e | e
    · exact .inl e
    · exact .inr ⟨_, e, Nat.le_refl _⟩
  have hk : Kp lb mb (Value.slice AE L.length cE).ownBlock w (w1.setCell ⟨lb, 0, none⟩ (.slice A' (L ++ [u]).length c')) :=
    (Kp.grown hg (.inr (.inr (.inr rfl)))).trans hob (Kp.grown (grown_setC _ _ _ _) (.inr (.inl rfl)))
  refine ⟨h.next ap hk hob ?_ (own_keepB hown fun j hj => (grown_setC _ _ _ _).block j (own_ge hown j hj).2 fun e => ?_) (h.hM.keep hk hob), hk, hob⟩
  · rw [blk_set ((hg.block lb l4 fun e => h.o1 e.symm).trans h.hl) 0]
    rfl
  · rcases hor with e2 | e2
    · exact h.o1 (by rw [← e2, hj, e])
    · rw [hj] at e2
      injection e with e
      injection e2 with e2
      omega
theorem drp_end {C : List ByteArray} {s u : ByteArray} {k : Nat} {la l2 : List Int} (hd : C[k]? = some s) (he : End (Cl C) (bl u)) (hne : bl u ≠ []) (ha : Ahead C (bl u) la l2) (hp : pfx s u = true) :
    End (Cl C) (bl (drp u s.size)) ∧ Ahead C (bl (drp u s.size)) la (l2 ++ [(k : Int)]) ∧ stp (bl s) (bl u) = some (bl (drp u s.size)) := by
  have h1 := pfx_pre hp
  have h2 : stp (bl s) (bl u) = some (bl (drp u s.size)) := by
    unfold stp
    rw [if_pos h1, bl_drp, bl_len]
  have h3 : bl u = bl s ++ bl (drp u s.size) := by
    rw [bl_drp, ← bl_len]
    exact pre_drop h1
  exact ⟨stp_end (List.mem_of_getElem? hd) he hne h2, ha.left hd h3, h2⟩
theorem drp_end2 {C : List ByteArray} {s u : ByteArray} {k : Nat} {la l2 : List Int} (hd : C[k]? = some s) (he : End (Cl C) (bl u)) (hne : bl u ≠ []) (ha : Ahead C (bl u) la l2) (hn : pfx s u = false) (hp : pfx u s = true) :
    End (Cl C) (bl (drp s u.size)) ∧ Ahead C (bl (drp s u.size)) (l2 ++ [(k : Int)]) la ∧ stp (bl s) (bl u) = some (bl (drp s u.size)) := by
  have h1 := pfx_pre hp
  have h0 : ¬ bl s <+: bl u := of_decide_eq_false hn
  have h2 : stp (bl s) (bl u) = some (bl (drp s u.size)) := by
    unfold stp
    rw [if_neg h0, if_pos h1, bl_drp, bl_len]
  have h3 : bl s = bl u ++ bl (drp s u.size) := by
    rw [bl_drp, ← bl_len]
    exact pre_drop h1
  exact ⟨stp_end (List.mem_of_getElem? hd) he hne h2, ha.right hd h3, h2⟩
theorem drp_none {s u : ByteArray} (hn : pfx s u = false) (hp : pfx u s = false) : stp (bl s) (bl u) = none := by
  have h0 : ¬ bl s <+: bl u := of_decide_eq_false hn
  have h1 : ¬ bl u <+: bl s := of_decide_eq_false hp
  unfold stp
  rw [if_neg h0, if_neg h1]
/-- All that came of the first signals is found. -/
def Dn (C : List ByteArray) (u : ByteArray) (k : Nat) (L : List (List UInt8)) (m : Bool) : Prop := ∀ s ∈ C.take k, ∀ t, stp (bl s) (bl u) = some t → InS L m t
theorem Dn.next {C : List ByteArray} {u s : ByteArray} {k : Nat} {L L' : List (List UInt8)} {m m' : Bool} (h : Dn C u k L m) (hd : C[k]? = some s) (g : Grew C L m L' m') (hs : ∀ t, stp (bl s) (bl u) = some t → InS L' m' t) : Dn C u (k + 1) L' m' := by
  intro x hx t ht
  rw [List.take_add_one, hd] at hx
  rcases List.mem_append.1 hx with h1 | h1
  · exact (h x h1 t ht).up g
  · have : x = s := by simpa using h1
    subst this
    exact hs t ht
set_option maxRecDepth 4000 in
set_option maxHeartbeats 4000000 in
theorem follow_any (B lb mb bs bc bf : Nat) (ap : Ap B lb mb bs bc bf) (C : List ByteArray) (A : Option Addr) (c : Nat) (hV : Vd C) : ∀ (n : Nat) (u : ByteArray) (la l2 : List Int) (Aa Ab : Option Addr) (ca cb : Nat) (w : World) (L : List ByteArray) (m : Bool) (AE : Option Addr) (cE : Nat) (va vb : Value),
    145 - L.length ≤ n → LvSt B lb mb bs bc bf C A c w L m AE cE va vb → Seen Try.prog 9 4 w mb (nb L m) (insB (Cl L) m) → End (Cl C) (bl u) → Ahead C (bl u) la l2 → la.length + l2.length ≤ L.length + 2 → la.length ≤ ca → l2.length ≤ cb → Bd C (Cl L) →
    Msl lb mb (Value.slice AE L.length cE).ownBlock w Aa la → Msl lb mb (Value.slice AE L.length cE).ownBlock w Ab l2 →
    Calls Try.prog 93 #[.string u, .slice Aa la.length ca, .slice Ab l2.length cb, .pointer (some ⟨bs, 0, none⟩), .pointer (some ⟨lb, 0, none⟩), .pointer (some ⟨bc, 0, none⟩), .pointer (some ⟨bf, 0, none⟩)] w fun e w' =>
      e = .returned (.tuple #[]) ∧ FolPost B lb mb bs bc bf C A c w L m (Value.slice AE L.length cE).ownBlock (bl u) w' := by
  intro n
  induction n with
  | zero =>
    intro u la l2 Aa Ab ca cb w L m AE cE va vb hn hst hseen he ha hlen hca hcb hg hma hmb
    have := hg.bound hV
    rw [cl_len] at this
    omega
  | succ n ih =>
    intro u la l2 Aa Ab ca cb w L m AE cE va vb hn hst hseen he ha hlen hca hcb hg hma hmb
    have ST := Lib.hid hst
    have SN := Lib.hid hseen
    have HE := Lib.hid he
    have HA := Lib.hid ha
    have HG := Lib.hid hg
    have MA := Lib.hid hma
    have MB := Lib.hid hmb
    have IH := Lib.hid ih
    have AP := Lib.hid ap
    have HN := Lib.hid hn
    have hL := hg.bound hV
    rw [cl_len] at hL
    have HLN := Lib.hid hlen
    have hus := end_le hV he
    have HV := Lib.hid hV
    have c0 : w.cell? ⟨bs, 0, none⟩ = some (.map (some mb)) := by rw [blk_cell hst.hs]; rfl
    have hlook := hseen.look (t := 101) Try.underlying9 Try.underlying101 Try.underlying4 (Try.zeroBool w) (s := u) (by unfold maxLen; omega)
    clear hst hseen he ha hg hma hmb ih ap hn hV hlen
    cases hin : insB (Cl L) m (bl u)
    · rw [hin] at hlook
      have HIN := Lib.hid hin
      clear hin
      by_cases hu : u = ⟨#[]⟩
      · subst hu
        have hme : m = false := by
          have := HIN.out
          unfold insB at this
          simp only [Bool.or_eq_false_iff] at this
          have h2 := this.2
          cases m
          · rfl
          · simp [bl] at h2
        subst hme
        have e1 : ((⟨#[]⟩ : ByteArray).toList == (⟨#[]⟩ : ByteArray).toList) = true := by simp
        go_enter Try.func93, Try.ntmps93
        go_wp2_with (first
          | (at_mapUpdate; refine wpList_put SN.out rfl _ _ _ rfl Try.underlying9 Try.underlying101 Try.underlying4 rfl (by have := nb_le (m := false) HV.out HG.out; unfold maxLen; omega) (by unfold maxLen; omega) rfl rfl ?_; intro w1 hs1 hg1; have SN1 := Lib.hid hs1; have G1 := Lib.hid hg1; have ST1 := Lib.hid (ST.out.stay AP.out hg1 (.inr rfl)); have L1 := ST1.out.hl; have f1 := blk_free L1 1; have L2 := blk_set L1 1 (.slice Aa la.length ca); have L3 := blk_set L2 2 (.slice Ab l2.length cb); have c1 := (blk_cell (j := 1) L1); have c2 := (blk_cell (j := 2) L2); have c3 := (blk_cell (j := 3) L3); have f2 := blk_free L2 2; have f3 := blk_free L3 3; clear hs1 hg1 L1 L2 L3)
          | fail)
        refine bodyPost_ret (results_none rfl _ _ _) rfl ⟨rfl, ?_⟩
        have K1 := Kp.grown (lb := lb) (mb := mb) (o := (Value.slice AE L.length cE).ownBlock) G1.out (.inr (.inr (.inl rfl)))
        have HM := ST1.out.met AP.out (ca := ca) (cb := cb) (MA.out.keep K1 Ob.refl) (MB.out.keep K1 Ob.refl) (HA.out.meet (by have := HLN.out; omega))
        have hE0 : End (Cl C) [] := HE.out
        refine ⟨L, true, AE, cE, _, _, HM.1, ?_, Grew.empty hE0, .inr ⟨rfl, rfl⟩, K1.trans Ob.refl (Kp.grown HM.2 (.inr (.inl rfl))), Ob.refl⟩
        refine (SN1.out.kept HM.2 (fun e => AP.out.lm (by injection e with e; exact e.symm))).congr fun x => ?_
        unfold insB
        by_cases hx : x = []
        · subst hx; simp [bl]
        · simp [bl, hx]
      · have hne : bl u ≠ [] := fun h => hu (bl_inj (h.trans rfl))
        have HNE := Lib.hid hne
        have e1 : u.toList.isEmpty = false := by rw [Lib.toList_data]; exact List.isEmpty_eq_false_iff.2 hne
        have HNL := Lib.hid (show bl u ∉ Cl L from fun h => by
          have := HIN.out
          unfold insB at this
          rw [decide_eq_true h] at this
          cases this)
        have BD := Lib.hid (HG.out.snoc HE.out HNL.out hne)
        rw [← cl_snoc] at BD
        have hL2 : (L ++ [u]).length = L.length + 1 := by simp
        have HL2 := Lib.hid hL2
        clear hne hL2 hu
        go_enter Try.func93, Try.ntmps93
        go_wp2_with (first
          | (at_mapUpdate; refine wpList_put SN.out rfl _ _ _ rfl Try.underlying9 Try.underlying101 Try.underlying4 rfl (by have := nb_le (m := m) HV.out HG.out; unfold maxLen; omega) (by unfold maxLen; omega) rfl rfl ?_; intro w1 hs1 hg1; have SN1 := Lib.hid hs1; have G1 := Lib.hid hg1; have ST1 := Lib.hid (ST.out.stay AP.out hg1 (.inr rfl)); have c1 := (blk_cell (j := 0) ST1.out.hl); clear hs1 hg1)
          | ((with_reducible show wpList _ _ _ (⟨some 33, _, _, _, _, _⟩ :: _) _ _); refine app eStr rfl (.tmp 30) (.tmp 32) rfl rfl (ST1.out.hE.alloc _) ((Below.refl B w1).alloc ST1.out.hB (.cells #[.string u] 9)) (size_alloc' ST1.out.hB _) rfl (Rd.one w1 (.string u) 9 (Nat.lt_succ_self _)) (by simp) (txts_one [u]) (L ++ [u]).length (by simp) (by rw [HL2.out]; omega) ?_; intro A2 c2 w2 o2 b2 g2 h2; have STA := ST1.out.stay AP.out (World.grownBy_alloc w1 (.cells #[.string u] 9) none) (.inl rfl); have O2 := Lib.hid (show w2.ownsRow B 9 1 (.slice A2 (L ++ [u]).length c2) (L ++ [u]).length (txts (L ++ [u])) by rw [txts_append]; exact o2); have PS0 := STA.push AP.out O2.out g2 h2; rw [HL2.out] at PS0; have PS := Lib.hid PS0; have LB := (g2.block lb (lt_of_block STA.hl) fun e => STA.o1 e.symm).trans STA.hl; have cb2 := (blk_cell (j := 0) LB); have fb2 := blk_free LB 0; have cc2 := (blk_cell (j := 0) PS.out.1.hc); have G2 := Lib.hid g2; clear o2 b2 g2 h2 STA LB PS0)
          | fail)
        have KW := Lib.hid ((Kp.grown (lb := lb) (mb := mb) (o := (Value.slice AE L.length cE).ownBlock) G1.out (.inr (.inr (.inl rfl)))).trans Ob.refl ((Kp.grown (World.grownBy_alloc w1 (.cells #[.string u] 9) none) (.inl rfl)).trans Ob.refl PS.out.2.1))
        have OW := Lib.hid (show Ob (Value.slice AE L.length cE).ownBlock (Value.slice A2 (L ++ [u]).length c2).ownBlock w.heap.size by
          rw [ownB_any A2 _ (L.length + 1) c2 c2]
          exact Ob.refl.trans PS.out.2.2 (by have := G1.out.size; simp; omega))
        have SW := Lib.hid (PS.out.1)
        have NW := Lib.hid (show Seen Try.prog 9 4 (w2.setCell ⟨lb, 0, none⟩ (.slice A2 (L.length + 1) c2)) mb (nb (L ++ [u]) m) (insB (Cl (L ++ [u])) m) from by
          have h1 := SN1.out.kept (World.grownBy_alloc w1 (.cells #[.string u] 9) none) (by simp)
          have h2 := (h1.kept G2.out fun e => ST1.out.o2 e.symm).kept (grown_setC w2 lb 0 (.slice A2 (L.length + 1) c2)) (fun e => AP.out.lm (by injection e with e; exact e.symm))
          refine (h2.mono (show nb L m + 1 ≤ nb (L ++ [u]) m by unfold nb; rw [HL2.out]; omega)).congr fun x => ?_
          rw [cl_snoc]
          exact insB_snoc _ _ _ _)
        clear fb2 cb2 cc2 c1 e1 hlook c0
        generalize w2.setCell ⟨lb, 0, none⟩ (.slice A2 (L.length + 1) c2) = W at *
        go_loopw [37] (fun i wr => ∃ k : Nat, k ≤ C.length ∧ i = .int .i64 k ∧ ∃ L' m' AE' cE' va' vb', LvSt B lb mb bs bc bf C A c wr L' m' AE' cE' va' vb' ∧ Seen Try.prog 9 4 wr mb (nb L' m') (insB (Cl L') m') ∧ Grew C (Cl (L ++ [u])) m (Cl L') m' ∧ Kp lb mb (Value.slice AE L.length cE).ownBlock w wr ∧ Ob (Value.slice AE L.length cE).ownBlock (Value.slice AE' L'.length cE').ownBlock w.heap.size ∧ Dn C u k (Cl L') m') (fun i _ => C.length - (intOf i).toNat)
        case atStart => exact ⟨0, by omega, rfl, _, _, _, _, _, _, SW.out, NW.out, Grew.refl _ _ _, KW.out, OW.out, fun s hs => by simp at hs⟩
        case round =>
          obtain ⟨k, hk, rfl, L', m', AE', cE', va', vb', h1, h2, h3, h4, h5, h6⟩ := hrel
          have ST2 := Lib.hid h1
          have SN2 := Lib.hid h2
          have GR := Lib.hid h3
          have KR := Lib.hid h4
          have OR := Lib.hid h5
          have DN := Lib.hid h6
          clear h1 h2 h3 h4 h5 h6
          by_cases hlt : k < C.length
          · have BD2 := Lib.hid (BD.out.grew GR.out)
            have hL' := (BD2.out.bound HV.out)
            have hC12 := HV.out.le
            have hpre := GR.out.pre.length_le
            rw [cl_len] at hL'
            rw [cl_len, cl_len, HL2.out] at hpre
            obtain ⟨b3, f3, s, rfl, hd, hc0⟩ := (ST2.out.hr).txt k hlt
            have MA2 := Lib.hid (MA.out.keep KR.out OR.out)
            have MB2 := Lib.hid (MB.out.keep KR.out OR.out)
            obtain ⟨b4, f4, rfl, hb4, hm4, _⟩ := MB.out
            have MBc := Lib.hid (show ∀ (k : Nat) d, l2[k]? = some d → wr.cell? ⟨b4, f4 + k, none⟩ = some (.int .i64 d) from by
              obtain ⟨b5, f5, e5, _, hm5, _⟩ := MB2.out
              cases e5
              exact hm5)
            clear hb4 hm4
            have HC1 := Lib.hid (CutPrefix_any u s)
            have HC2 := Lib.hid (CutPrefix_any s u)
            cases hp : pfx s u
            · rw [hp] at HC1
              have HP := Lib.hid hp
              clear hp
              cases hp : pfx u s
              · rw [hp] at HC2
                have HP2 := Lib.hid hp
                clear hp
                go_wp2_with (first
              | (go_at_call 94; refine (Clip_any b4 f4 l2.length cb _ hcb).mono ?_; rintro e w' ⟨rfl, rfl⟩)
              | ((with_reducible show wpList _ _ _ (⟨some 46, _, _, _, _, _⟩ :: _) _ _); refine app_clip rfl (.tmp 43) (.tmp 45) rfl (b := b4) (f := f4) (l := l2) (i := (k : Int)) rfl (fun j d hj => cell_up (MBc.out j d hj)) (b' := wr.heap.size) rfl (by rw [cell_of_row _ _ _ _ _ _ (heap_alloc_new wr _)]; rfl) (by have := HLN.out; omega) ?_; intro A3 c3 w3 o3 g3; have G3 := Lib.hid (((World.grownBy_alloc wr (.cells #[.int .i64 (k : Int)] 3) none).trans g3)); have ST3 := Lib.hid (ST2.out.stay AP.out G3.out (.inl rfl)); have SN3 := Lib.hid (SN2.out.kept G3.out (by simp)); have M3 := Lib.hid (show Msl lb mb (Value.slice AE' L'.length cE').ownBlock w3 A3 (l2 ++ [(k : Int)]) from Msl.own o3 (by simp) (by have := lt_of_block ST2.out.hl; simp; omega) (by have := ST2.out.hmb; simp; omega) (fun j hj => by have := (own_ge ST2.out.hE j hj).2; simp; omega)); have K3 := Lib.hid (Kp.grown (lb := lb) (mb := mb) (o := (Value.slice AE' L'.length cE').ownBlock) G3.out (.inl rfl)); have MA3 := Lib.hid (MA2.out.keep K3.out Ob.refl); have hc3 : (l2 ++ [(k : Int)]).length ≤ c3 := (own_form_le o3); have cf3 : w3.cell? ⟨bf, 0, none⟩ = some (.func (.func 93) #[] #[.pointer (some ⟨bs, 0, none⟩), .pointer (some ⟨lb, 0, none⟩), .pointer (some ⟨bc, 0, none⟩), .pointer (some ⟨bf, 0, none⟩)]) := (blk_cell (j := 0) ST3.out.hf).trans rfl; clear o3 g3)
              | fail)
                refine (HC1.out _).mono ?_
                rintro e w' ⟨rfl, rfl⟩
                go_wp2_with fail
                refine (HC2.out _).mono ?_
                rintro e w' ⟨rfl, rfl⟩
                go_wp2_with fail
                go_roundw
                case rel => exact ⟨k + 1, by omega, by go_num, L', m', AE', cE', va', vb', ST3.out, SN3.out, GR.out, KR.out.trans OR.out K3.out, OR.out, DN.out.next hd.out (Grew.refl _ _ _) (fun t ht => by rw [drp_none HP.out HP2.out] at ht; cases ht)⟩
                case measure => simp [intOf]; omega
              · rw [hp] at HC2
                have D0 := Lib.hid (drp_end2 hd.out HE.out HNE.out HA.out HP.out hp)
                clear hp
                go_wp2_with (first
              | (go_at_call 94; refine (Clip_any b4 f4 l2.length cb _ hcb).mono ?_; rintro e w' ⟨rfl, rfl⟩)
              | ((with_reducible show wpList _ _ _ (⟨some 46, _, _, _, _, _⟩ :: _) _ _); refine app_clip rfl (.tmp 43) (.tmp 45) rfl (b := b4) (f := f4) (l := l2) (i := (k : Int)) rfl (fun j d hj => cell_up (MBc.out j d hj)) (b' := wr.heap.size) rfl (by rw [cell_of_row _ _ _ _ _ _ (heap_alloc_new wr _)]; rfl) (by have := HLN.out; omega) ?_; intro A3 c3 w3 o3 g3; have G3 := Lib.hid (((World.grownBy_alloc wr (.cells #[.int .i64 (k : Int)] 3) none).trans g3)); have ST3 := Lib.hid (ST2.out.stay AP.out G3.out (.inl rfl)); have SN3 := Lib.hid (SN2.out.kept G3.out (by simp)); have M3 := Lib.hid (show Msl lb mb (Value.slice AE' L'.length cE').ownBlock w3 A3 (l2 ++ [(k : Int)]) from Msl.own o3 (by simp) (by have := lt_of_block ST2.out.hl; simp; omega) (by have := ST2.out.hmb; simp; omega) (fun j hj => by have := (own_ge ST2.out.hE j hj).2; simp; omega)); have K3 := Lib.hid (Kp.grown (lb := lb) (mb := mb) (o := (Value.slice AE' L'.length cE').ownBlock) G3.out (.inl rfl)); have MA3 := Lib.hid (MA2.out.keep K3.out Ob.refl); have hc3 : (l2 ++ [(k : Int)]).length ≤ c3 := (own_form_le o3); have cf3 : w3.cell? ⟨bf, 0, none⟩ = some (.func (.func 93) #[] #[.pointer (some ⟨bs, 0, none⟩), .pointer (some ⟨lb, 0, none⟩), .pointer (some ⟨bc, 0, none⟩), .pointer (some ⟨bf, 0, none⟩)]) := (blk_cell (j := 0) ST3.out.hf).trans rfl; clear o3 g3)
              | fail)
                refine (HC1.out _).mono ?_
                rintro e w' ⟨rfl, rfl⟩
                go_wp2_with fail
                refine (HC2.out _).mono ?_
                rintro e w' ⟨rfl, rfl⟩
                go_wp2_with fail
                have II := IH.out (drp s u.size) (l2 ++ [(k : Int)]) la A3 Aa c3 ca w3 L' m' AE' cE' va' vb' (by have := HN.out; omega) ST3.out SN3.out D0.out.1 D0.out.2.1 (by have := HLN.out; simp; omega) hc3 hca BD2.out M3.out MA3.out
                rw [show (l2 ++ [(k : Int)]).length = l2.length + 1 by simp] at II
                refine II.mono ?_
                clear II
                rintro e w4 ⟨rfl, L4, m4, AE4, cE4, va4, vb4, q1, q2, q3, q4, q5, q6⟩
                have Q1 := Lib.hid q1
                have Q2 := Lib.hid q2
                have Q3 := Lib.hid (GR.out.trans q3)
                have Q5 := Lib.hid ((KR.out.trans OR.out K3.out).trans OR.out q5)
                have Q6 := Lib.hid (OR.out.trans q6 (by have := KR.out.2.2.2.1; have := G3.out.size; omega))
                have Q7 := Lib.hid (DN.out.next hd.out q3 (fun t ht => by rw [D0.out.2.2] at ht; cases ht; exact q4))
                clear q1 q2 q3 q4 q5 q6
                go_wp2_with fail
                go_roundw
                case rel => exact ⟨k + 1, by omega, by go_num, L4, m4, AE4, cE4, va4, vb4, Q1.out, Q2.out, Q3.out, Q5.out, Q6.out, Q7.out⟩
                case measure => simp [intOf]; omega
            · rw [hp] at HC1
              have D0 := Lib.hid (drp_end hd.out HE.out HNE.out HA.out hp)
              clear hp
              go_wp2_with (first
              | (go_at_call 94; refine (Clip_any b4 f4 l2.length cb _ hcb).mono ?_; rintro e w' ⟨rfl, rfl⟩)
              | ((with_reducible show wpList _ _ _ (⟨some 46, _, _, _, _, _⟩ :: _) _ _); refine app_clip rfl (.tmp 43) (.tmp 45) rfl (b := b4) (f := f4) (l := l2) (i := (k : Int)) rfl (fun j d hj => cell_up (MBc.out j d hj)) (b' := wr.heap.size) rfl (by rw [cell_of_row _ _ _ _ _ _ (heap_alloc_new wr _)]; rfl) (by have := HLN.out; omega) ?_; intro A3 c3 w3 o3 g3; have G3 := Lib.hid (((World.grownBy_alloc wr (.cells #[.int .i64 (k : Int)] 3) none).trans g3)); have ST3 := Lib.hid (ST2.out.stay AP.out G3.out (.inl rfl)); have SN3 := Lib.hid (SN2.out.kept G3.out (by simp)); have M3 := Lib.hid (show Msl lb mb (Value.slice AE' L'.length cE').ownBlock w3 A3 (l2 ++ [(k : Int)]) from Msl.own o3 (by simp) (by have := lt_of_block ST2.out.hl; simp; omega) (by have := ST2.out.hmb; simp; omega) (fun j hj => by have := (own_ge ST2.out.hE j hj).2; simp; omega)); have K3 := Lib.hid (Kp.grown (lb := lb) (mb := mb) (o := (Value.slice AE' L'.length cE').ownBlock) G3.out (.inl rfl)); have MA3 := Lib.hid (MA2.out.keep K3.out Ob.refl); have hc3 : (l2 ++ [(k : Int)]).length ≤ c3 := (own_form_le o3); have cf3 : w3.cell? ⟨bf, 0, none⟩ = some (.func (.func 93) #[] #[.pointer (some ⟨bs, 0, none⟩), .pointer (some ⟨lb, 0, none⟩), .pointer (some ⟨bc, 0, none⟩), .pointer (some ⟨bf, 0, none⟩)]) := (blk_cell (j := 0) ST3.out.hf).trans rfl; clear o3 g3)
              | fail)
              refine (HC1.out _).mono ?_
              rintro e w' ⟨rfl, rfl⟩
              go_wp2_with fail
              have II := IH.out (drp u s.size) la (l2 ++ [(k : Int)]) Aa A3 ca c3 w3 L' m' AE' cE' va' vb' (by have := HN.out; omega) ST3.out SN3.out D0.out.1 D0.out.2.1 (by have := HLN.out; simp; omega) hca hc3 BD2.out MA3.out M3.out
              rw [show (l2 ++ [(k : Int)]).length = l2.length + 1 by simp] at II
              refine II.mono ?_
              clear II
              rintro e w4 ⟨rfl, L4, m4, AE4, cE4, va4, vb4, q1, q2, q3, q4, q5, q6⟩
              have Q1 := Lib.hid q1
              have Q2 := Lib.hid q2
              have Q3 := Lib.hid (GR.out.trans q3)
              have Q5 := Lib.hid ((KR.out.trans OR.out K3.out).trans OR.out q5)
              have Q6 := Lib.hid (OR.out.trans q6 (by have := KR.out.2.2.2.1; have := G3.out.size; omega))
              have Q7 := Lib.hid (DN.out.next hd.out q3 (fun t ht => by rw [D0.out.2.2] at ht; cases ht; exact q4))
              clear q1 q2 q3 q4 q5 q6
              go_wp2_with fail
              go_roundw
              case rel => exact ⟨k + 1, by omega, by go_num, L4, m4, AE4, cE4, va4, vb4, Q1.out, Q2.out, Q3.out, Q5.out, Q6.out, Q7.out⟩
              case measure => simp [intOf]; omega
          · have hks : k = C.length := by omega
            subst hks
            go_wp2_with fail
            refine bodyPost_end (results_none rfl _ _ _) rfl ⟨rfl, ?_⟩
            have hall : ∀ s ∈ C, ∀ t, stp (bl s) (bl u) = some t → InS (Cl L') m' t := fun s hs => DN.out s (by rw [List.take_length]; exact hs)
            have GG := GR.out
            rw [cl_snoc] at GG
            have G5 := GG.enter HE.out HNL.out HNE.out hall
            exact ⟨L', m', AE', cE', va', vb', ST2.out, SN2.out, G5.1, G5.2, KR.out, OR.out⟩
    · rw [hin] at hlook
      go_enter Try.func93, Try.ntmps93
      go_wp2_with fail
      refine bodyPost_ret (results_none rfl _ _ _) rfl ⟨rfl, ?_⟩
      exact ⟨L, m, AE, cE, va, vb, ST.out, SN.out, Grew.refl _ _ _, insB_iff.1 hin, Kp.refl, Ob.refl⟩
end Go.Proofs.Ytjongjndoaojnaa
