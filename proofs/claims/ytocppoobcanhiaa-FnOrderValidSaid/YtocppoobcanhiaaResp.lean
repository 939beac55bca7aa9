/- Plain arithmetic of chapter 4: response times as least fixed points, their monotony (promises 53, 118, 119), Audsley's algorithm (promise 6), deadline-monotonic priorities (promise 7). No dump. -/
import Derived.Test.YtocppoobcanhiaaFixed
namespace Go.Proofs.Ytocppoobcanhiaa

/-! ### Least fixed points -/
/-- The least r in 1..D with F r = r. -/
def lfp (F : Nat → Nat) : Nat → Option Nat
  | 0 => none
  | D + 1 => match lfp F D with
    | some r => some r
    | none => if F (D + 1) = D + 1 then some (D + 1) else none
theorem lfp_some {F : Nat → Nat} {r : Nat} : ∀ {D : Nat}, lfp F D = some r → 1 ≤ r ∧ r ≤ D ∧ F r = r ∧ ∀ x, 1 ≤ x → x < r → F x ≠ x
  | 0, h => by simp [lfp] at h
  | D + 1, h => by
    simp only [lfp] at h
    cases hl : lfp F D with
    | some r' =>
      rw [hl] at h
      obtain rfl : r' = r := by simpa using h
      obtain ⟨h1, h2, h3, h4⟩ := lfp_some hl
      exact ⟨h1, by omega, h3, h4⟩
    | none =>
      rw [hl] at h
      simp only at h
      split at h
      · rename_i hf
        obtain rfl : D + 1 = r := by simpa using h
        refine ⟨by omega, by omega, hf, fun x h1 h2 hx => ?_⟩
        have : ∀ {E : Nat}, lfp F E = none → ∀ x, 1 ≤ x → x ≤ E → F x ≠ x := by
          intro E
          induction E with
          | zero => intro _ x h1 h2; omega
          | succ E ih =>
            intro hE x h1 h2
            simp only [lfp] at hE
            cases hl2 : lfp F E with
            | some r => rw [hl2] at hE; simp at hE
            | none =>
              rw [hl2] at hE
              simp only at hE
              split at hE
              · simp at hE
              · rename_i hne
                by_cases e : x = E + 1
                · subst e; exact hne
                · exact ih hl2 x h1 (by omega)
        exact this hl x h1 (by omega) hx
      · simp at h
theorem lfp_none {F : Nat → Nat} : ∀ {D : Nat}, lfp F D = none → ∀ x, 1 ≤ x → x ≤ D → F x ≠ x
  | 0, _, x, h1, h2 => by omega
  | D + 1, h, x, h1, h2 => by
    simp only [lfp] at h
    cases hl : lfp F D with
    | some r => rw [hl] at h; simp at h
    | none =>
      rw [hl] at h
      simp only at h
      split at h
      · simp at h
      · rename_i hne
        by_cases e : x = D + 1
        · subst e; exact hne
        · exact lfp_none hl x h1 (by omega)
/-- It is what it is: a fixed point within D that no smaller one undercuts. -/
theorem lfp_eq {F : Nat → Nat} {r D : Nat} (h1 : 1 ≤ r) (hD : r ≤ D) (hr : F r = r) (hm : ∀ x, 1 ≤ x → x < r → F x ≠ x) : lfp F D = some r := by
  cases hl : lfp F D with
  | none => exact absurd hr (lfp_none hl r h1 hD)
  | some q =>
    obtain ⟨q1, _, q3, q4⟩ := lfp_some hl
    rcases Nat.lt_trichotomy q r with h | h | h
    · exact absurd q3 (hm q q1 h)
    · rw [h]
    · exact absurd hr (q4 r h1 h)
/-- Where F does not rise above the line at r there is a fixed point at r or before. -/
theorem lfp_pre {F : Nat → Nat} {r D : Nat} (hF : ∀ x y, x ≤ y → F x ≤ F y) (h1 : ∀ x, 1 ≤ F x) (hr1 : 1 ≤ r) (hD : r ≤ D) (hr : F r ≤ r) : ∃ q, lfp F D = some q ∧ q ≤ r := by
  induction r using Nat.strongRecOn with
  | ind r ih =>
    by_cases e : F r = r
    · cases hl : lfp F D with
      | none => exact absurd e (lfp_none hl r hr1 hD)
      | some q =>
        refine ⟨q, rfl, ?_⟩
        obtain ⟨_, _, _, q4⟩ := lfp_some hl
        apply Classical.byContradiction
        intro h
        exact q4 r hr1 (by omega) e
    · obtain ⟨q, h2, h3⟩ := ih (F r) (by omega) (h1 r) (by omega) (hF _ _ hr)
      exact ⟨q, h2, by omega⟩
theorem lfp_mono {F G : Nat → Nat} {r D E : Nat} (hF : ∀ x y, x ≤ y → F x ≤ F y) (h1 : ∀ x, 1 ≤ F x) (hle : ∀ x, F x ≤ G x) (hDE : D ≤ E) (h : lfp G D = some r) : ∃ q, lfp F E = some q ∧ q ≤ r := by
  obtain ⟨r1, r2, r3, _⟩ := lfp_some h
  exact lfp_pre hF h1 r1 (by omega) (by have := hle r; omega)
/-- The iteration from below: it stays below every fixed point. -/
structure Iter (F : Nat → Nat) (r : Nat) : Prop where
  pos : 1 ≤ r
  up : r ≤ F r
  le : ∀ x, 1 ≤ x → F x ≤ x → r ≤ x
theorem Iter.step {F : Nat → Nat} {r : Nat} (h : Iter F r) (hF : ∀ x y, x ≤ y → F x ≤ F y) : Iter F (F r) :=
  ⟨Nat.le_trans h.pos h.up, hF _ _ h.up, fun x h1 hx => Nat.le_trans (hF _ _ (h.le x h1 hx)) hx⟩
theorem Iter.start {F : Nat → Nat} {c : Nat} (hc : 1 ≤ c) (h : ∀ x, c ≤ F x) : Iter F c := ⟨hc, h c, fun x _ hx => Nat.le_trans (h x) hx⟩
theorem Iter.done {F : Nat → Nat} {r D : Nat} (h : Iter F r) (hr : F r = r) (hD : r ≤ D) : lfp F D = some r :=
  lfp_eq h.pos hD hr fun x h1 h2 hx => by have := h.le x h1 (by omega); omega
theorem Iter.over {F : Nat → Nat} {r D : Nat} (h : Iter F r) (hD : D < r) : lfp F D = none := by
  cases hl : lfp F D with
  | none => rfl
  | some q =>
    obtain ⟨q1, q2, q3, _⟩ := lfp_some hl
    have := h.le q q1 (by omega)
    omega

/-! ### Interference -/
def cl (ts : List T3) (j x : Nat) : Nat := (x + per (tk ts j) - 1) / per (tk ts j) * cst (tk ts j)
/-- What the tasks of A ask in an interval of length x. -/
def wkS (ts : List T3) (A : Nat → Bool) (x : Nat) : Nat := sumN (fun j => if A j = true then cl ts j x else 0) ts.length
def rF (ts : List T3) (A : Nat → Bool) (i : Nat) : Nat → Nat := fun x => cst (tk ts i) + wkS ts A x
/-- The response time of task i below the tasks of A, if it is within the deadline. -/
def resp (ts : List T3) (A : Nat → Bool) (i : Nat) : Option Nat := lfp (rF ts A i) (dln (tk ts i))
theorem cl_mono (ts : List T3) (j : Nat) {x y : Nat} (h : x ≤ y) : cl ts j x ≤ cl ts j y := Nat.mul_le_mul_right _ (Nat.div_le_div_right (by omega))
theorem wkS_x (ts : List T3) (A : Nat → Bool) {x y : Nat} (h : x ≤ y) : wkS ts A x ≤ wkS ts A y := sumN_le fun j _ => by
  split
  · exact cl_mono ts j h
  · exact Nat.le_refl _
theorem wkS_A (ts : List T3) {A B : Nat → Bool} (h : ∀ j, j < ts.length → A j = true → B j = true) (x : Nat) : wkS ts A x ≤ wkS ts B x := sumN_le fun j hj => by
  by_cases e : A j = true
  · rw [if_pos e, if_pos (h j hj e)]
    exact Nat.le_refl _
  · rw [if_neg e]
    exact Nat.zero_le _
theorem rF_mono (ts : List T3) (A : Nat → Bool) (i : Nat) : ∀ x y, x ≤ y → rF ts A i x ≤ rF ts A i y := fun _ _ h => Nat.add_le_add_left (wkS_x ts A h) _
theorem rF_pos {ts : List T3} (hv : ts.all tv = true) (A : Nat → Bool) {i : Nat} (hi : i < ts.length) : ∀ x, 1 ≤ rF ts A i x := fun x => by
  have := (tv_bd (tk_tv hv hi)).1
  unfold rF
  omega
/-- Fewer tasks above: no later. -/
theorem resp_mono {ts : List T3} (hv : ts.all tv = true) {A B : Nat → Bool} {i r : Nat} (hi : i < ts.length) (h : ∀ j, j < ts.length → A j = true → B j = true) (hr : resp ts B i = some r) : ∃ q, resp ts A i = some q ∧ q ≤ r :=
  lfp_mono (rF_mono ts A i) (rF_pos hv A hi) (fun x => Nat.add_le_add_left (wkS_A ts h x) _) (Nat.le_refl _) hr
theorem resp_congr {ts : List T3} {A B : Nat → Bool} {i : Nat} (h : ∀ j, j < ts.length → A j = B j) : resp ts A i = resp ts B i := by
  have e : rF ts A i = rF ts B i := by
    funext x
    unfold rF wkS
    rw [sumN_eq fun j hj => by rw [h j hj]]
  unfold resp
  rw [e]
/-- The same as a sum over a list without repetitions. -/
def wkL (ts : List T3) (hs : List Nat) (x : Nat) : Nat := (hs.map fun h => cl ts h x).sum
theorem wkL_eq {ts : List T3} {x : Nat} : ∀ {hs : List Nat}, hs.Nodup → (∀ h ∈ hs, h < ts.length) → wkL ts hs x = wkS ts (fun j => decide (j ∈ hs)) x
  | [], _, _ => by
    simp only [wkL, List.map_nil, List.sum_nil, wkS]
    rw [sumN_zero]
    intro i _
    rw [if_neg (by simp)]
  | h :: hs, hnd, hlt => by
    have ih := wkL_eq (ts := ts) (x := x) (hs := hs) (List.nodup_cons.1 hnd).2 fun k hk => hlt k (List.mem_cons_of_mem _ hk)
    have hnot := (List.nodup_cons.1 hnd).1
    have e := sumN_one (f := fun j => if decide (j ∈ hs) = true then cl ts j x else 0) (g := fun j => if decide (j ∈ h :: hs) = true then cl ts j x else 0) (b := h) (x := cl ts h x) (hlt h (List.mem_cons_self ..))
      (fun i _ hne => by simp only [List.mem_cons, hne, false_or])
      (by simp [hnot])
    simp only [wkL, List.map_cons, List.sum_cons] at ih ⊢
    simp only [wkS] at ih ⊢
    rw [e, ← ih]
    omega

/-! ### Audsley's algorithm -/
/-- The last one by rank among those that U names. -/
theorem last_of {U : Nat → Bool} {rank : Nat → Nat} : ∀ {n : Nat}, (∃ i, i < n ∧ U i = true) → ∃ i, i < n ∧ U i = true ∧ ∀ j, j < n → U j = true → rank j ≤ rank i
  | 0, ⟨i, h, _⟩ => absurd h (Nat.not_lt_zero _)
  | n + 1, ⟨i, hi, hU⟩ => by
    by_cases hc : ∃ i, i < n ∧ U i = true
    · obtain ⟨k, k1, k2, k3⟩ := last_of (rank := rank) hc
      by_cases hn : U n = true ∧ rank k ≤ rank n
      · refine ⟨n, by omega, hn.1, fun j hj hj2 => ?_⟩
        by_cases e : j = n
        · subst e; exact Nat.le_refl _
        · exact Nat.le_trans (k3 j (by omega) hj2) hn.2
      · refine ⟨k, by omega, k2, fun j hj hj2 => ?_⟩
        by_cases e : j = n
        · subst e
          have : ¬ rank k ≤ rank j := fun h => hn ⟨hj2, h⟩
          omega
        · exact k3 j (by omega) hj2
    · have e : i = n := by
        apply Classical.byContradiction
        intro h
        exact hc ⟨i, by omega, hU⟩
      subst e
      refine ⟨i, by omega, hU, fun j hj hj2 => ?_⟩
      have : j = i := by
        apply Classical.byContradiction
        intro h
        exact hc ⟨j, by omega, hj2⟩
      subst this
      exact Nat.le_refl _
/-- Some order is feasible: by rank, every task within its deadline. -/
def FeasR (ts : List T3) (rank : Nat → Nat) : Prop := (∀ i j, i < ts.length → j < ts.length → rank i = rank j → i = j) ∧ ∀ i, i < ts.length → resp ts (fun j => decide (rank j < rank i)) i ≠ none
/-- Where some order is feasible, one of the tasks that are left fits below the others that are left. -/
theorem aud_some {ts : List T3} (hv : ts.all tv = true) {rank : Nat → Nat} (h : FeasR ts rank) {U : Nat → Bool} (hU : ∃ i, i < ts.length ∧ U i = true) : ∃ i, i < ts.length ∧ U i = true ∧ resp ts (fun j => U j && decide (j ≠ i)) i ≠ none := by
  obtain ⟨i, h1, h2, h3⟩ := last_of (rank := rank) hU
  refine ⟨i, h1, h2, ?_⟩
  cases hr : resp ts (fun j => decide (rank j < rank i)) i with
  | none => exact absurd hr (h.2 i h1)
  | some r =>
    obtain ⟨q, hq, _⟩ := resp_mono hv h1 (A := fun j => U j && decide (j ≠ i)) (fun j hj hA => by
      simp only [Bool.and_eq_true, decide_eq_true_eq] at hA ⊢
      have := h3 j hj hA.1
      have : rank j ≠ rank i := fun e => hA.2 (h.1 j i hj h1 e)
      omega) hr
    rw [hq]
    simp

/-! ### Deadline-monotonic priorities -/
theorem sum_without {f : Nat → Nat} {S : Nat → Bool} {m n : Nat} (hm : m < n) (hS : S m = true) : sumN (fun j => if S j = true then f j else 0) n = sumN (fun j => if (S j && decide (j ≠ m)) = true then f j else 0) n + f m :=
  sumN_one (b := m) hm (fun i _ hne => by simp [hne]) (by simp [hS])
theorem cl_one {ts : List T3} {j x : Nat} (h1 : 1 ≤ x) (hx : x ≤ per (tk ts j)) : cl ts j x = cst (tk ts j) := by
  unfold cl
  have : (x + per (tk ts j) - 1) / per (tk ts j) = 1 := by
    rw [Nat.div_eq_iff (by omega)]
    omega
  rw [this, Nat.one_mul]
/-- Job order by deadline, then by index. -/
def dmB (ts : List T3) (j i : Nat) : Bool := decide (dln (tk ts j) < dln (tk ts i) ∨ (dln (tk ts j) = dln (tk ts i) ∧ j < i))
theorem dm_best {ts : List T3} (hv : ts.all tv = true) {rank : Nat → Nat} (h : FeasR ts rank) {i : Nat} (hi : i < ts.length) : resp ts (fun j => dmB ts j i) i ≠ none := by
  obtain ⟨m, m1, m2, m3⟩ := last_of (n := ts.length) (rank := rank) (U := fun j => dmB ts j i || decide (j = i)) ⟨i, hi, by simp⟩
  have hbm := tv_bd (tk_tv hv m1)
  have hbi := tv_bd (tk_tv hv hi)
  have hdm : dln (tk ts m) ≤ dln (tk ts i) := by
    simp only [Bool.or_eq_true, dmB, decide_eq_true_eq] at m2
    rcases m2 with (h | ⟨h, _⟩) | h
    · omega
    · omega
    · rw [h]; exact Nat.le_refl _
  cases hr : resp ts (fun j => decide (rank j < rank m)) m with
  | none => exact absurd hr (h.2 m m1)
  | some r0 =>
    obtain ⟨r, hq, _⟩ := resp_mono hv m1 (A := fun j => (dmB ts j i || decide (j = i)) && decide (j ≠ m)) (fun j hj hA => by
      simp only [Bool.and_eq_true, decide_eq_true_eq] at hA ⊢
      have := m3 j hj hA.1
      have : rank j ≠ rank m := fun e => hA.2 (h.1 j m hj m1 e)
      omega) hr
    obtain ⟨r1, r2, r3, _⟩ := lfp_some hq
    have e1 := sum_without (f := fun j => cl ts j r) (S := fun j => dmB ts j i || decide (j = i)) m1 m2
    have e2 := sum_without (f := fun j => cl ts j r) (S := fun j => dmB ts j i || decide (j = i)) (m := i) hi (by simp)
    have c1 : cl ts m r = cst (tk ts m) := cl_one r1 (by omega)
    have c2 : cl ts i r = cst (tk ts i) := cl_one r1 (by omega)
    have e3 : wkS ts (fun j => dmB ts j i) r = sumN (fun j => if ((dmB ts j i || decide (j = i)) && decide (j ≠ i)) = true then cl ts j r else 0) ts.length := sumN_eq fun j hj => by
      by_cases e : j = i
      · subst e
        have : dmB ts j j = false := by simp [dmB]
        simp [this]
      · simp [e]
    have e4 : rF ts (fun j => (dmB ts j i || decide (j = i)) && decide (j ≠ m)) m r = cst (tk ts m) + sumN (fun j => if ((dmB ts j i || decide (j = i)) && decide (j ≠ m)) = true then cl ts j r else 0) ts.length := rfl
    rw [e4] at r3
    have e5 : rF ts (fun j => dmB ts j i) i r = r := by
      show cst (tk ts i) + wkS ts (fun j => dmB ts j i) r = r
      rw [e3]
      omega
    obtain ⟨q, hq2, _⟩ := lfp_pre (D := dln (tk ts i)) (rF_mono ts (fun j => dmB ts j i) i) (rF_pos hv _ hi) r1 (by omega) (Nat.le_of_eq e5)
    show lfp _ _ ≠ none
    rw [hq2]
    simp

end Go.Proofs.Ytocppoobcanhiaa
