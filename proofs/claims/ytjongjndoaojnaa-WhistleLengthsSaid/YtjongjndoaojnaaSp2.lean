/-
  The sum of a safe code is at most 1 (words over two letters). No program in sight. No condition.
-/
import Derived.Test.YtjongjndoaojnaaSp1
namespace Go.Proofs.Ytjongjndoaojnaa
set_option linter.unusedVariables false
set_option linter.unusedSectionVars false
section
variable {α : Type} [DecidableEq α]
/-- The weight of words: the sum of 2^(M - length). -/
def wt (M : Nat) : List (List α) → Nat
  | [] => 0
  | w :: l => 2 ^ (M - w.length) + wt M l
theorem wt_append (M : Nat) (a b : List (List α)) : wt M (a ++ b) = wt M a + wt M b := by
  induction a with
  | nil => simp [wt]
  | cons w a ih => simp only [List.cons_append, wt, ih]; omega
/-- The rests of the words that begin with a letter. -/
def tails (a : α) : List (List α) → List (List α)
  | [] => []
  | [] :: l => tails a l
  | (c :: t) :: l => if c = a then t :: tails a l else tails a l
theorem mem_tails {a : α} {t : List α} : ∀ {l : List (List α)}, t ∈ tails a l → a :: t ∈ l
  | [], h => by simp [tails] at h
  | [] :: l, h => List.mem_cons_of_mem _ (mem_tails (l := l) h)
  | (c :: u) :: l, h => by
    unfold tails at h
    split at h
    · rename_i hc
      subst hc
      rcases List.mem_cons.1 h with rfl | h
      · exact List.mem_cons_self ..
      · exact List.mem_cons_of_mem _ (mem_tails h)
    · exact List.mem_cons_of_mem _ (mem_tails h)
theorem tails_nodup {a : α} : ∀ {l : List (List α)}, l.Nodup → (tails a l).Nodup
  | [], _ => List.nodup_nil
  | [] :: l, h => tails_nodup (l := l) (List.nodup_cons.1 h).2
  | (c :: u) :: l, h => by
    obtain ⟨h1, h2⟩ := List.nodup_cons.1 h
    unfold tails
    split
    · rename_i hc
      subst hc
      exact List.nodup_cons.2 ⟨fun hm => h1 (mem_tails hm), tails_nodup h2⟩
    · exact tails_nodup h2
def nils : List (List α) → Nat
  | [] => 0
  | [] :: l => 1 + nils l
  | (_ :: _) :: l => nils l
theorem nils_zero : ∀ {l : List (List α)}, [] ∉ l → nils l = 0
  | [], _ => rfl
  | [] :: l, h => absurd (List.mem_cons_self ..) h
  | (_ :: _) :: l, h => nils_zero (l := l) fun hm => h (List.mem_cons_of_mem _ hm)
theorem nils_le : ∀ {l : List (List α)}, l.Nodup → nils l ≤ 1
  | [], _ => Nat.zero_le _
  | [] :: l, h => by
    have := nils_zero (List.nodup_cons.1 h).1
    unfold nils
    omega
  | (_ :: _) :: l, h => nils_le (l := l) (List.nodup_cons.1 h).2
theorem wt_split {p q : α} (hpq : p ≠ q) (M : Nat) : ∀ {l : List (List α)}, (∀ w ∈ l, ∀ c ∈ w, c = p ∨ c = q) → wt (M + 1) l = nils l * 2 ^ (M + 1) + wt M (tails p l) + wt M (tails q l)
  | [], _ => by simp [wt, nils, tails]
  | [] :: l, h => by
    have ih := wt_split hpq M (l := l) fun w hw => h w (List.mem_cons_of_mem _ hw)
    simp only [wt, nils, tails, ih, List.length_nil, Nat.sub_zero, Nat.add_mul, Nat.one_mul]
    omega
  | (c :: u) :: l, h => by
    have ih := wt_split hpq M (l := l) fun w hw => h w (List.mem_cons_of_mem _ hw)
    have hc := h _ (List.mem_cons_self ..) c (List.mem_cons_self ..)
    have e : M + 1 - (u.length + 1) = M - u.length := by omega
    rcases hc with rfl | rfl
    · simp only [wt, nils, tails, ih, List.length_cons, e, if_true, if_neg hpq]
      omega
    · simp only [wt, nils, tails, ih, List.length_cons, e, if_true, if_neg (Ne.symm hpq)]
      omega
/-- Different words over two letters weigh little. -/
theorem wt_bin {p q : α} (hpq : p ≠ q) : ∀ (M : Nat) {l : List (List α)}, l.Nodup → (∀ w ∈ l, w.length ≤ M) → (∀ w ∈ l, ∀ c ∈ w, c = p ∨ c = q) → wt M l ≤ (M + 1) * 2 ^ M
  | 0, l, hn, hl, hc => by
    have key : ∀ {l : List (List α)}, (∀ w ∈ l, w.length ≤ 0) → wt 0 l = nils l := by
      intro l
      induction l with
      | nil => intro _; rfl
      | cons w l ih =>
        intro h
        have h0 := h w (List.mem_cons_self ..)
        have : w = [] := List.eq_nil_of_length_eq_zero (by omega)
        subst this
        simp only [wt, nils, ih fun w hw => h w (List.mem_cons_of_mem _ hw)]
        rfl
    rw [key hl]
    have := nils_le hn
    simpa using this
  | M + 1, l, hn, hl, hc => by
    rw [wt_split hpq M hc]
    have h1 := nils_le hn
    have h2 := wt_bin hpq M (l := tails p l) (tails_nodup hn) (fun w hw => by have := hl _ (mem_tails hw); simp at this; omega) fun w hw c h => hc _ (mem_tails hw) c (List.mem_cons_of_mem _ h)
    have h3 := wt_bin hpq M (l := tails q l) (tails_nodup hn) (fun w hw => by have := hl _ (mem_tails hw); simp at this; omega) fun w hw c h => hc _ (mem_tails hw) c (List.mem_cons_of_mem _ h)
    have h4 : nils l * 2 ^ (M + 1) ≤ 2 ^ (M + 1) := by
      have := Nat.mul_le_mul_right (2 ^ (M + 1)) h1
      rwa [Nat.one_mul] at this
    have e1 : (M + 1 + 1) * 2 ^ (M + 1) = 2 ^ (M + 1) + ((M + 1) * 2 ^ M + (M + 1) * 2 ^ M) := by
      rw [Nat.add_mul (M + 1) 1, Nat.one_mul, Nat.pow_succ, ← Nat.mul_assoc]
      omega
    omega
/-- What the messages of n signals sound like. -/
def snd (C : List (List α)) : Nat → List (List α)
  | 0 => [[]]
  | n + 1 => C.flatMap fun x => (snd C n).map (x ++ ·)
theorem wt_map (M L : Nat) (x : List α) (hx : x.length ≤ L) : ∀ {l : List (List α)}, (∀ w ∈ l, w.length ≤ M) → wt (M + L) (l.map (x ++ ·)) = 2 ^ (L - x.length) * wt M l
  | [], _ => rfl
  | w :: l, h => by
    have hw := h w (List.mem_cons_self ..)
    simp only [List.map_cons, wt, wt_map M L x hx (l := l) fun w hw => h w (List.mem_cons_of_mem _ hw), List.length_append, Nat.mul_add]
    rw [show M + L - (x.length + w.length) = (L - x.length) + (M - w.length) by omega, Nat.pow_add]
theorem snd_len {C : List (List α)} {L : Nat} (h : ∀ x ∈ C, x.length ≤ L) : ∀ n, ∀ w ∈ snd C n, w.length ≤ n * L
  | 0, w, hw => by
    simp only [snd, List.mem_singleton] at hw
    simp [hw]
  | n + 1, w, hw => by
    simp only [snd, List.mem_flatMap, List.mem_map] at hw
    obtain ⟨x, hx, v, hv, rfl⟩ := hw
    have h1 := h x hx
    have h2 := snd_len h n v hv
    rw [List.length_append, Nat.succ_mul]
    omega
theorem snd_bin {C : List (List α)} {p q : α} (h : ∀ x ∈ C, ∀ c ∈ x, c = p ∨ c = q) : ∀ n, ∀ w ∈ snd C n, ∀ c ∈ w, c = p ∨ c = q
  | 0, w, hw => by
    simp only [snd, List.mem_singleton] at hw
    simp [hw]
  | n + 1, w, hw => by
    simp only [snd, List.mem_flatMap, List.mem_map] at hw
    obtain ⟨x, hx, v, hv, rfl⟩ := hw
    intro c hc
    rcases List.mem_append.1 hc with hc | hc
    · exact h x hx c hc
    · exact snd_bin h n v hv c hc
theorem wt_snd {C : List (List α)} {L : Nat} (h : ∀ x ∈ C, x.length ≤ L) : ∀ n, wt (n * L) (snd C n) = wt L C ^ n
  | 0 => by simp [snd, wt]
  | n + 1 => by
    have ih := wt_snd h n
    have hl := snd_len h n
    have key : ∀ D : List (List α), (∀ x ∈ D, x.length ≤ L) → wt (n * L + L) (D.flatMap fun x => (snd C n).map (x ++ ·)) = wt L D * wt L C ^ n := by
      intro D
      induction D with
      | nil => intro _; simp [wt]
      | cons x D ih2 =>
        intro hD
        rw [List.flatMap_cons, wt_append, wt_map _ _ _ (hD x (List.mem_cons_self ..)) hl, ih2 fun x hx => hD x (List.mem_cons_of_mem _ hx), ih, wt, Nat.add_mul]
    rw [Nat.succ_mul, snd, key C h, Nat.pow_succ, Nat.mul_comm]
theorem snd_msg {C : List (List α)} : ∀ n, ∀ w ∈ snd C n, ∃ a, Msg C a ∧ a.length = n ∧ a.flatten = w
  | 0, w, hw => by
    simp only [snd, List.mem_singleton] at hw
    exact ⟨[], fun _ h => (by cases h), rfl, hw.symm⟩
  | n + 1, w, hw => by
    simp only [snd, List.mem_flatMap, List.mem_map] at hw
    obtain ⟨x, hx, v, hv, rfl⟩ := hw
    obtain ⟨a, ha, hl, hf⟩ := snd_msg n v hv
    exact ⟨x :: a, Msg.app (a := [x]) (Msg.one hx) ha, by simp [hl], by simp [hf]⟩
/-- In a safe code different messages sound different. -/
theorem snd_nodup {C : List (List α)} (hC : C.Nodup) (hs : Safe C) : ∀ n, (snd C n).Nodup
  | 0 => by simp [snd]
  | n + 1 => by
    have ih := snd_nodup hC hs n
    have key : ∀ D : List (List α), D.Nodup → (∀ x ∈ D, x ∈ C) → (D.flatMap fun x => (snd C n).map (x ++ ·)).Nodup := by
      intro D
      induction D with
      | nil => intro _ _; simp
      | cons x D ih2 =>
        intro hn hD
        obtain ⟨h1, h2⟩ := List.nodup_cons.1 hn
        rw [List.flatMap_cons, List.nodup_append]
        refine ⟨?_, ih2 h2 fun y hy => hD y (List.mem_cons_of_mem _ hy), ?_⟩
        · exact List.Pairwise.map _ (fun a b hab he => hab (List.append_cancel_left he)) ih
        · intro u hu v hv he
          obtain ⟨w, hw, rfl⟩ := List.mem_map.1 hu
          obtain ⟨y, hy, hv2⟩ := List.mem_flatMap.1 hv
          obtain ⟨w2, hw2, rfl⟩ := List.mem_map.1 hv2
          obtain ⟨a, ha, _, hf⟩ := snd_msg n w hw
          obtain ⟨b, hb, _, hg⟩ := snd_msg n w2 hw2
          have := hs (x :: a) (y :: b) (Msg.app (a := [x]) (Msg.one (hD x (List.mem_cons_self ..))) ha) (Msg.app (a := [y]) (Msg.one (hD y (List.mem_cons_of_mem _ hy))) hb) (by simp [hf, hg, he])
          injection this with h3
          subst h3
          exact h1 hy
    exact key C hC fun _ h => h
theorem bern (D : Nat) : ∀ n, D ^ n * (D + n) ≤ (D + 1) ^ n * D
  | 0 => by simp
  | n + 1 => by
    have ih := bern D n
    have h := Nat.mul_le_mul_right (D + 1) ih
    have e1 : (D + 1) ^ (n + 1) * D = (D + 1) ^ n * D * (D + 1) := by rw [Nat.pow_succ, Nat.mul_right_comm]
    have e2 : D ^ (n + 1) * (D + (n + 1)) ≤ D ^ n * (D + n) * (D + 1) := by
      rw [Nat.pow_succ, Nat.mul_assoc, Nat.mul_assoc]
      refine Nat.mul_le_mul_left _ ?_
      rw [Nat.mul_add, Nat.add_mul, Nat.mul_add, Nat.mul_add, Nat.mul_add, Nat.mul_comm n D]
      omega
    omega
theorem two_pow_gt (c : Nat) : c * (4 * c) < 2 ^ (4 * c) := by
  have h : ∀ c : Nat, 2 * c + 1 ≤ 4 ^ c := by
    intro c
    induction c with
    | zero => simp
    | succ c ih => rw [Nat.pow_succ]; omega
  have h1 := h c
  have e : 2 ^ (4 * c) = 4 ^ c * 4 ^ c := by
    rw [← Nat.pow_add, show (4 : Nat) = 2 ^ 2 from rfl, ← Nat.pow_mul]
    congr 1
    omega
  have h2 := Nat.mul_le_mul h1 h1
  rw [e]
  have : c * (4 * c) < (2 * c + 1) * (2 * c + 1) := by
    have e3 : (2 * c + 1) * (2 * c + 1) = c * (4 * c) + 4 * c + 1 := by
      rw [Nat.add_mul, Nat.mul_add, Nat.one_mul, Nat.mul_one, Nat.mul_mul_mul_comm, Nat.mul_left_comm c 4 c]
      omega
    omega
  omega
/-- A number whose powers grow no faster than those of D, but for a factor, is at most D. -/
theorem pow_bound {N D L : Nat} (hD : 0 < D) (h : ∀ n, N ^ n ≤ (n * L + 1) * D ^ n) : N ≤ D := by
  rcases Nat.lt_or_ge D N with hlt | hge
  · exfalso
    have hb := bern D D
    have h2 : 2 * D ^ D ≤ (D + 1) ^ D := by
      have e : D ^ D * (D + D) = 2 * D ^ D * D := by rw [← Nat.two_mul, Nat.mul_left_comm, ← Nat.mul_assoc]
      rw [e] at hb
      exact Nat.le_of_mul_le_mul_right hb hD
    have h3 : ∀ j, 2 ^ j * D ^ (D * j) ≤ N ^ (D * j) := by
      intro j
      rw [Nat.pow_mul, Nat.pow_mul, ← Nat.mul_pow]
      refine Nat.pow_le_pow_left (Nat.le_trans h2 (Nat.pow_le_pow_left hlt _)) _
    have h4 : ∀ j, 2 ^ j ≤ D * j * L + 1 := by
      intro j
      have := Nat.le_trans (h3 j) (h (D * j))
      exact Nat.le_of_mul_le_mul_right this (Nat.pow_pos hD)
    have h5 := h4 (4 * (D * L + 1))
    have h6 := two_pow_gt (D * L + 1)
    have e : D * (4 * (D * L + 1)) * L + 1 ≤ (D * L + 1) * (4 * (D * L + 1)) := by
      rw [Nat.mul_right_comm D, Nat.add_mul]
      omega
    omega
  · exact hge
/-- The sum of a safe code over two letters is at most 1. -/
theorem safe_kraft {C : List (List α)} {p q : α} {L : Nat} (hpq : p ≠ q) (hC : C.Nodup) (hs : Safe C) (hl : ∀ x ∈ C, x.length ≤ L) (hc : ∀ x ∈ C, ∀ c ∈ x, c = p ∨ c = q) : wt L C ≤ 2 ^ L := by
  refine pow_bound (L := L) (Nat.two_pow_pos L) fun n => ?_
  have h := wt_bin hpq (n * L) (snd_nodup hC hs n) (snd_len hl n) (snd_bin hc n)
  rw [wt_snd hl, Nat.mul_comm n L, Nat.pow_mul] at h
  rw [Nat.mul_comm n L]
  exact h
end
end Go.Proofs.Ytjongjndoaojnaa
