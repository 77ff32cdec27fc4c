/-
  What two messages leave over: how the variables of the search lie, what of the world it may turn. Condition: none.
-/
import Derived.Test.YtjongjndoaojnaaWs3
import Derived.Test.YtjongjndoaojnaaMp1
import Derived.Test.YtjongjndoaojnaaSg4
import Derived.ArgAppend
import Derived.OwnWalk
namespace Go.Proofs.Ytjongjndoaojnaa
open Go.RowKit
set_option linter.unusedVariables false

theorem Try.infoInt : (Try.prog.info? 3).map (fun i => (i.zero, i.size, i.bytes)) = some (some (.int .i64 0), 1, 8) := by kernel_rfl
theorem Try.infoStr : (Try.prog.info? 9).map (fun i => (i.zero, i.size, i.bytes)) = some (some (.string ⟨#[]⟩), 1, 16) := by kernel_rfl
theorem eInt : Elem Try.prog 23 3 (.int .i64 0) 1 8 := ⟨Try.underlying23, Try.infoInt, rfl, by decide, by decide⟩
theorem eStr : Elem Try.prog 22 9 (.string ⟨#[]⟩) 1 16 := ⟨Try.underlying22, Try.infoStr, rfl, by decide, by decide⟩

/-- Nothing but the blocks lb, mb and o has turned of what was there. -/
def Kp (lb mb : Nat) (o : Option Nat) (w w' : World) : Prop := w'.os = w.os ∧ w'.tape = w.tape ∧ w'.output = w.output ∧ w.heap.size ≤ w'.heap.size ∧ ∀ k, k < w.heap.size → k ≠ lb → k ≠ mb → some k ≠ o → w'.heap[k]? = w.heap[k]?
def Ob (o o' : Option Nat) (n : Nat) : Prop := o' = o ∨ ∃ j, o' = some j ∧ n ≤ j
section
variable {lb mb : Nat} {o o' o'' : Option Nat} {w w' w'' : World}
theorem Kp.refl : Kp lb mb o w w := ⟨rfl, rfl, rfl, Nat.le_refl _, fun _ _ _ _ _ => rfl⟩
theorem Ob.refl {n : Nat} : Ob o o n := .inl rfl
theorem Ob.trans {n n' : Nat} (h : Ob o o' n) (k : Ob o' o'' n') (hn : n ≤ n') : Ob o o'' n := by
  rcases k with rfl | ⟨j, rfl, hj⟩
  · exact h
  · exact .inr ⟨j, rfl, Nat.le_trans hn hj⟩
theorem Kp.trans (h : Kp lb mb o w w') (hob : Ob o o' w.heap.size) (k : Kp lb mb o' w' w'') : Kp lb mb o w w'' := by
  obtain ⟨a1, a2, a3, a4, a5⟩ := h
  obtain ⟨b1, b2, b3, b4, b5⟩ := k
  refine ⟨b1.trans a1, b2.trans a2, b3.trans a3, Nat.le_trans a4 b4, fun i hi h1 h2 h3 => ?_⟩
  refine (b5 i (Nat.lt_of_lt_of_le hi a4) h1 h2 ?_).trans (a5 i hi h1 h2 h3)
  rcases hob with rfl | ⟨j, rfl, hj⟩
  · exact h3
  · intro e
    injection e with e
    omega
theorem Kp.grown {row : Option Nat} (h : w.grownBy w' row) (hr : row = none ∨ row = some lb ∨ row = some mb ∨ row = o) : Kp lb mb o w w' := by
  refine ⟨h.os, h.tape, h.output, h.size, fun k hk h1 h2 h3 => h.block k hk ?_⟩
  rcases hr with rfl | rfl | rfl | rfl
  · simp
  · intro e; injection e with e; exact h1 e
  · intro e; injection e with e; exact h2 e
  · exact h3
theorem Kp.below {B : Nat} (h : Kp lb mb o w w') (h1 : B ≤ lb) (h2 : B ≤ mb) (h3 : ∀ j, o = some j → B ≤ j) (hB : B ≤ w.heap.size) : Below B w w' := by
  obtain ⟨a1, a2, a3, a4, a5⟩ := h
  refine ⟨a1, a2, a3, a4, fun k hk => a5 k (by omega) (by omega) (by omega) fun e => ?_⟩
  have := h3 k e.symm
  omega
end
theorem grown_setC (w : World) (b i : Nat) (u : Value) : w.grownBy (w.setCell ⟨b, i, none⟩ u) (some b) :=
  ⟨rfl, rfl, rfl, by simp [World.setCell], fun k hk hne => by
    have : k ≠ b := fun e => hne (by rw [e])
    simp [World.setCell, Array.getElem?_modify, Ne.symm this]⟩
/-- A message in memory, apart from what the search turns. -/
def Msl (lb mb : Nat) (o : Option Nat) (w : World) (A : Option Addr) (l : List Int) : Prop := ∃ b f, A = some ⟨b, f, none⟩ ∧ b < w.heap.size ∧ (∀ (k : Nat) d, l[k]? = some d → w.cell? ⟨b, f + k, none⟩ = some (.int .i64 d)) ∧ lb < b ∧ b ≠ mb ∧ some b ≠ o
theorem Msl.rd {lb mb : Nat} {o : Option Nat} {w : World} {A : Option Addr} {l : List Int} (h : Msl lb mb o w A l) : Rd w w.heap.size A (ints l) := by
  obtain ⟨b, f, ha, hb, hc, _⟩ := h
  refine .inr ⟨b, f, ha, hb, fun i u hu => ?_⟩
  simp only [ints, List.getElem?_map, Option.map_eq_some_iff] at hu
  obtain ⟨d, hd, rfl⟩ := hu
  exact hc i d hd
theorem Msl.keep {lb mb : Nat} {o o' : Option Nat} {w w' : World} {A : Option Addr} {l : List Int} (h : Msl lb mb o w A l) (k : Kp lb mb o w w') (hob : Ob o o' w.heap.size) : Msl lb mb o' w' A l := by
  obtain ⟨b, f, ha, hb, hc, h1, h2, h3⟩ := h
  obtain ⟨a1, a2, a3, a4, a5⟩ := k
  refine ⟨b, f, ha, by omega, fun i d hd => ?_, h1, h2, fun e => ?_⟩
  · rw [← hc i d hd]
    unfold World.cell?
    simp only [a5 b hb (by omega) h2 h3]
  · rcases hob with rfl | ⟨j, rfl, hj⟩
    · exact h3 e
    · injection e with e
      omega
/-- A message that lies in a block that is new. -/
theorem Msl.own {lb mb n c B : Nat} {o : Option Nat} {w : World} {A : Option Addr} {e : TypeId} {l : List Int} (h : w.ownsRow B e 1 (.slice A n c) n (ints l)) (hn : 0 < n) (h1 : lb < B) (h2 : mb < B) (h3 : ∀ j, o = some j → j < B) : Msl lb mb o w A l := by
  rcases h.2 with ⟨_, h0⟩ | ⟨g, cap, cur, hv, hg, hb, _⟩
  · omega
  · injection hv with hv
    subst hv
    refine ⟨g, 0, rfl, lt_of_block hb, fun k d hd => ?_, by omega, by omega, fun e => ?_⟩
    · have := (Rd.of_own h).at_ (ints_at hd)
      obtain ⟨b, f, hbf, _, hc⟩ := this
      cases hbf
      exact hc
    · have := h3 g e.symm
      omega
/-- Which texts were met. -/
def insB (L : List (List UInt8)) (m : Bool) (u : List UInt8) : Bool := decide (u ∈ L) || (m && decide (u = []))
theorem insB_iff {L : List (List UInt8)} {m : Bool} {u : List UInt8} : insB L m u = true ↔ InS L m u := by
  unfold insB InS
  simp
/-- The blocks of the search lie apart. -/
structure Ap (B lb mb bs bc bf : Nat) : Prop where
  l : B ≤ lb
  m : B ≤ mb
  lm : lb ≠ mb
  sl : bs ≠ lb
  sm : bs ≠ mb
  cl : bc ≠ lb
  cm : bc ≠ mb
  fl : bf ≠ lb
  fm : bf ≠ mb
def folV (bs lb bc bf : Nat) : Value := .func (.func 93) #[] #[.pointer (some ⟨bs, 0, none⟩), .pointer (some ⟨lb, 0, none⟩), .pointer (some ⟨bc, 0, none⟩), .pointer (some ⟨bf, 0, none⟩)]
/-- What was met, if two messages met. -/
def Mt2 (C : List ByteArray) (lb mb : Nat) (o : Option Nat) (w : World) (m : Bool) (va vb : Value) : Prop :=
  (m = false ∧ va = .slice none 0 0 ∧ vb = .slice none 0 0) ∨ (m = true ∧ ∃ Aa la ca Ab l2 cb, va = .slice Aa la.length ca ∧ vb = .slice Ab l2.length cb ∧ Msl lb mb o w Aa la ∧ Msl lb mb o w Ab l2 ∧ Meet C la l2)
structure LvSt (B lb mb bs bc bf : Nat) (C : List ByteArray) (A : Option Addr) (c : Nat) (w : World) (L : List ByteArray) (m : Bool) (AE : Option Addr) (cE : Nat) (va vb : Value) : Prop where
  hs : w.heap[bs]? = some (.cells #[.map (some mb)] 101 (0, 0))
  hc : w.heap[bc]? = some (.cells #[.slice A C.length c] 22 (0, 0))
  hf : w.heap[bf]? = some (.cells #[folV bs lb bc bf] 102 (0, 0))
  hl : w.heap[lb]? = some (.cells #[.slice AE L.length cE, va, vb, .bool m] 70 (0, 0))
  hE : w.ownsRow B 9 1 (.slice AE L.length cE) L.length (txts L)
  hr : Rd w B A (txts C)
  hM : Mt2 C lb mb (Value.slice AE L.length cE).ownBlock w m va vb
  hB : B ≤ w.heap.size
  hmb : mb < w.heap.size
  o1 : (Value.slice AE L.length cE).ownBlock ≠ some lb
  o2 : (Value.slice AE L.length cE).ownBlock ≠ some mb
  o3 : (Value.slice AE L.length cE).ownBlock ≠ some bs
  o4 : (Value.slice AE L.length cE).ownBlock ≠ some bc
  o5 : (Value.slice AE L.length cE).ownBlock ≠ some bf
theorem own_ge {w : World} {B n : Nat} {e : TypeId} {v : Value} {xs : List Value} (h : w.ownsRow B e 1 v n xs) : ∀ j, v.ownBlock = some j → B ≤ j ∧ j < w.heap.size := by
  intro j hj
  rcases h.2 with ⟨rfl, _⟩ | ⟨g, cap, cur, rfl, hg, hb, _⟩
  · cases hj
  · injection hj with hj
    have := lt_of_block hb
    change g = j at hj
    omega
theorem own_keepB {w w' : World} {B n : Nat} {e : TypeId} {v : Value} {xs : List Value} (h : w.ownsRow B e 1 v n xs) (hb : ∀ j, v.ownBlock = some j → w'.heap[j]? = w.heap[j]?) : w'.ownsRow B e 1 v n xs := by
  refine ⟨h.1, ?_⟩
  rcases h.2 with h1 | ⟨g, cap, cur, hv, hbg, hg, rest⟩
  · exact .inl h1
  · exact .inr ⟨g, cap, cur, hv, hbg, (hb g (by rw [hv]; rfl)).trans hg, rest⟩
theorem Mt2.keep {C : List ByteArray} {lb mb : Nat} {o o' : Option Nat} {w w' : World} {m : Bool} {va vb : Value} (h : Mt2 C lb mb o w m va vb) (k : Kp lb mb o w w') (hob : Ob o o' w.heap.size) : Mt2 C lb mb o' w' m va vb := by
  rcases h with h | ⟨h1, Aa, la, ca, Ab, l2, cb, h2, h3, h4, h5, h6⟩
  · exact .inl h
  · exact .inr ⟨h1, Aa, la, ca, Ab, l2, cb, h2, h3, h4.keep k hob, h5.keep k hob, h6⟩
section
variable {B lb mb bs bc bf : Nat} {C : List ByteArray} {A : Option Addr} {c : Nat} {w w' : World} {L L' : List ByteArray} {m m' : Bool} {AE AE' : Option Addr} {cE cE' : Nat} {va vb va' vb' : Value}
theorem LvSt.next (h : LvSt B lb mb bs bc bf C A c w L m AE cE va vb) (ap : Ap B lb mb bs bc bf) (k : Kp lb mb (Value.slice AE L.length cE).ownBlock w w') (hob : Ob (Value.slice AE L.length cE).ownBlock (Value.slice AE' L'.length cE').ownBlock w.heap.size)
    (hl : w'.heap[lb]? = some (.cells #[.slice AE' L'.length cE', va', vb', .bool m'] 70 (0, 0))) (hE : w'.ownsRow B 9 1 (.slice AE' L'.length cE') L'.length (txts L')) (hM : Mt2 C lb mb (Value.slice AE' L'.length cE').ownBlock w' m' va' vb') :
    LvSt B lb mb bs bc bf C A c w' L' m' AE' cE' va' vb' := by
  have hge := own_ge h.hE
  obtain ⟨k1, k2, k3, k4, k5⟩ := k
  have hoth : ∀ x, x < w.heap.size → x ≠ lb → x ≠ mb → (Value.slice AE L.length cE).ownBlock ≠ some x → w'.heap[x]? = w.heap[x]? := fun x a b c d => k5 x a b c fun e => d e.symm
  have hne : ∀ x, x < w.heap.size → (Value.slice AE L.length cE).ownBlock ≠ some x → (Value.slice AE' L'.length cE').ownBlock ≠ some x := by
    intro x hx hn
    rcases hob with e | ⟨j, e, hj⟩
    · rw [e]; exact hn
    · rw [e]; intro e2; injection e2 with e2; omega
  have l1 := lt_of_block h.hs
  have l2 := lt_of_block h.hc
  have l3 := lt_of_block h.hf
  have l4 := lt_of_block h.hl
  refine ⟨(hoth bs l1 ap.sl ap.sm h.o3).trans h.hs, (hoth bc l2 ap.cl ap.cm h.o4).trans h.hc, (hoth bf l3 ap.fl ap.fm h.o5).trans h.hf, hl, hE, ?_, hM, Nat.le_trans h.hB k4, Nat.lt_of_lt_of_le h.hmb k4, hne lb l4 h.o1, ?_, hne bs l1 h.o3, hne bc l2 h.o4, hne bf l3 h.o5⟩
  · refine h.hr.keep fun p hp => ?_
    have hB := h.hB
    have := ap.l
    have := ap.m
    unfold World.cell?
    simp only [k5 p.block (by omega) (by omega) (by omega) fun e => by have := hge _ e.symm; omega]
  · rcases hob with e | ⟨j, e, hj⟩
    · rw [e]; exact h.o2
    · rw [e]; intro e2; injection e2 with e2
      have := h.hmb
      omega
theorem LvSt.stay (h : LvSt B lb mb bs bc bf C A c w L m AE cE va vb) (ap : Ap B lb mb bs bc bf) {row : Option Nat} (hg : w.grownBy w' row) (hr : row = none ∨ row = some mb) : LvSt B lb mb bs bc bf C A c w' L m AE cE va vb := by
  have hk : Kp lb mb (Value.slice AE L.length cE).ownBlock w w' := Kp.grown hg (by rcases hr with h | h; exact .inl h; exact .inr (.inr (.inl h)))
  have hne : ∀ j, j ≠ mb → some j ≠ row := by
    intro j hj
    rcases hr with rfl | rfl
    · simp
    · intro e; injection e with e; exact hj e
  refine h.next ap hk Ob.refl ?_ (own_keepB h.hE fun j hj => hg.block j (own_ge h.hE j hj).2 (hne j fun e => h.o2 (by rw [hj, e]))) (h.hM.keep hk Ob.refl)
  exact (hg.block lb (lt_of_block h.hl) (hne lb ap.lm)).trans h.hl
end
def nb (L : List ByteArray) (m : Bool) : Nat := L.length + m.toNat
theorem cl_len (L : List ByteArray) : (Cl L).length = L.length := by simp
theorem un_le {C : List ByteArray} {t : List UInt8} (hV : Vd C) (h : t ∈ Un C) : t.length ≤ 12 := by
  obtain ⟨s, hs, hk⟩ := List.mem_flatMap.1 h
  obtain ⟨k, hk, rfl⟩ := List.mem_map.1 hk
  have := (sgB_iff.1 (hV.sg s hs)).2.1
  rw [List.length_drop, bl_len]
  omega
theorem end_le {C : List ByteArray} {u : ByteArray} (hV : Vd C) (h : End (Cl C) (bl u)) : u.size ≤ 12 := by
  rw [← bl_len]
  rcases end_un h with h | h
  · rw [h]; simp
  · exact un_le hV h
/-- An append to a slice without room. -/
theorem app_clip {ops : Array Oper} {rest : List Oper} {o : Oper} {a : Act} {Q : Exit → Act → World → Prop} {w : World} (hgd : o.guard = none) (s x : Operand)
    (ho : o.op = .call { callee := .builtin .append, args := #[s, x], argTypes := #[23, 23] }) {b f : Nat} {l : List Int} (hs : a.eval s = .slice (some ⟨b, f, none⟩) l.length l.length) (hm : ∀ (k : Nat) d, l[k]? = some d → w.cell? ⟨b, f + k, none⟩ = some (.int .i64 d))
    {b' c : Nat} {i : Int} (hx : a.eval x = .slice (some ⟨b', 0, none⟩) 1 c) (hc : w.cell? ⟨b', 0, none⟩ = some (.int .i64 i)) (hlen : l.length ≤ 1000)
    (h : ∀ A' c' w', w'.ownsRow w.heap.size 3 1 (.slice A' (l ++ [i]).length c') (l ++ [i]).length (ints (l ++ [i])) → w.grownBy w' none → wpList Try.prog ops Q rest (a.put o.dst (.slice A' (l ++ [i]).length c')) w') :
    wpList Try.prog ops Q (o :: rest) a w := by
  obtain ⟨ii, hi, hz, hsize, hby⟩ := info_parts eInt.hi
  refine wpList_append_arg w hgd s x _ ho 3 ii (.int .i64 0) 1 8 eInt.ht hi hz hsize hby rfl (by decide) b f l.length l.length (ints l) hs (by simp [ints]) ?_ ⟨b', 0, none⟩ 1 c (ints [i]) hx rfl ?_ (ints_one _) (fun h => by omega) (by unfold maxLen; omega) (by omega) (fun h => by omega) ?_
  · intro j u hu
    simp only [ints, List.getElem?_map, Option.map_eq_some_iff] at hu
    obtain ⟨d, hd, rfl⟩ := hu
    exact hm j d hd
  · intro j u hu
    match j, hu with
    | 0, hu => cases hu; exact hc
  · intro _ v' w' hown hg
    rw [← ints_append] at hown
    obtain ⟨A', c', rfl, _⟩ := own_form hown
    have e : l.length + 1 = (l ++ [i]).length := by simp
    rw [e] at hown
    have := h A' c' w' hown hg
    rw [← e] at this
    exact this
theorem Clip_any (b f n c : Nat) (w : World) (h : n ≤ c) : Calls Try.prog 94 #[.slice (some ⟨b, f, none⟩) n c] w fun e w' => e = .returned (.slice (some ⟨b, f, none⟩) n n) ∧ w = w' := by
  have h0 : (0 : Int) ≤ (n : Int) := by omega
  have h1 : (n : Int) ≤ (c : Int) := by omega
  go_enter Try.func94, Try.ntmps94
  go_wp2_with fail
  go_ret
  exact ⟨rfl, rfl⟩
end Go.Proofs.Ytjongjndoaojnaa
