/- Plain arithmetic of promise 5: under fixed priorities every job of a legal pattern is finished within the response time of its task, if that is within the deadline. No dump. -/
import Derived.Test.YtocppoobcanhiaaOptimal
namespace Go.Proofs.Ytocppoobcanhiaa

/-- A window for jobs that are not disturbed by others. -/
theorem Pat.windowA (P : Pat) (A : Nat → Bool) (hA : ∀ i b, A i = true → P.key b ≤ P.key i → A b = true) (t : Nat) :
    ∃ s, s ≤ t ∧ (∀ i, i < P.n → A i = true → P.rel i < s → P.left s i = 0) ∧ ∀ u, s ≤ u → u < t → ∃ b, P.run u = some b ∧ A b = true := by
  induction t with
  | zero => exact ⟨0, Nat.le_refl _, fun i _ _ h => absurd h (Nat.not_lt_zero _), fun u _ h => absurd h (Nat.not_lt_zero _)⟩
  | succ t ih =>
    by_cases hc : ∃ b, P.run t = some b ∧ A b = true
    · obtain ⟨s, hs, h3, h4⟩ := ih
      refine ⟨s, by omega, h3, fun u h1 h2 => ?_⟩
      by_cases e : u = t
      · subst e; exact hc
      · exact h4 u h1 (by omega)
    · refine ⟨t + 1, Nat.le_refl _, fun i hi hk hr => ?_, fun u h1 h2 => by omega⟩
      have hz : P.left t i = 0 := by
        by_cases h0 : P.left t i = 0
        · exact h0
        · cases hb : P.run t with
          | none => exact absurd ⟨by omega, by omega⟩ (best_none hb i hi)
          | some b =>
            obtain ⟨_, _, _, h4⟩ := best_some hb
            refine absurd ⟨b, hb, hA i b hk ?_⟩ hc
            rcases h4 i hi (by omega) (by omega) with h | ⟨h, _⟩ <;> omega
      have := P.left_le t i
      omega
theorem Pat.sumA_run {P : Pat} {B : Nat → Bool} {s : Nat} : ∀ {y : Nat}, s ≤ y → (∀ u, s ≤ u → u < y → ∃ b, P.run u = some b ∧ B b = true) → P.sumA B s = P.sumA B y + (y - s)
  | 0, h, _ => by obtain rfl : s = 0 := by omega
                  omega
  | y + 1, h, hu => by
    by_cases e : s = y + 1
    · subst e; omega
    · have ih := P.sumA_run (B := B) (s := s) (y := y) (by omega) fun u h1 h2 => hu u h1 (by omega)
      obtain ⟨b, hb, hB⟩ := hu y (by omega) (by omega)
      obtain ⟨h1, _, h3⟩ := P.run_pos hb
      have : P.sumA B y = P.sumA B (y + 1) + 1 := sumN_one (b := b) h1 (fun i _ hne => by
          have e : P.left (y + 1) i = P.left y i := by rw [P.left_succ, if_neg (by rw [hb]; simpa using fun e => hne e.symm)]
          show (if B i = true then P.left y i else 0) = if B i = true then P.left (y + 1) i else 0
          rw [e]) (by
          have e : P.left (y + 1) b = P.left y b - 1 := by rw [P.left_succ, if_pos hb]
          show (if B b = true then P.left y b else 0) = (if B b = true then P.left (y + 1) b else 0) + 1
          rw [e, if_pos hB, if_pos hB]
          omega)
      omega

/-! ### How much higher tasks ask within a window -/
def cw (js : List J4) (s y : Nat) : Nat → Nat → Nat
  | 0 => fun _ => 0
  | k + 1 => fun i => if jid js k = i ∧ s ≤ jrel js k ∧ jrel js k < y then cw js s y k i + 1 else cw js s y k i
theorem cw_bd {ts : List T3} {js : List J4} (hv : ts.all tv = true) {s y : Nat} : ∀ {k : Nat}, (∀ j, j < k → Leg1 ts js j) → ∀ i,
    cw js s y k i = 0 ∨ (1 ≤ cw js s y k i ∧ s + cw js s y k i * per (tk ts i) ≤ nx ts js k i ∧ s + (cw js s y k i - 1) * per (tk ts i) < y)
  | 0, _, _ => .inl rfl
  | k + 1, h, i => by
    have ih := cw_bd hv (s := s) (y := y) (k := k) (fun j hj => h j (by omega)) i
    obtain ⟨h1, h2, h3, h4, h5, h6⟩ := (h k (by omega)).nat hv
    by_cases hi : jid js k = i
    · subst hi
      have hn : nx ts js (k + 1) (jid js k) = jrel js k + per (tk ts (jid js k)) := by simp only [nx, if_true]
      rw [hn]
      by_cases hc : s ≤ jrel js k ∧ jrel js k < y
      · have hc' : cw js s y (k + 1) (jid js k) = cw js s y k (jid js k) + 1 := by simp only [cw]; rw [if_pos ⟨trivial, hc⟩]
        rw [hc']
        refine .inr ⟨by omega, ?_, ?_⟩
        · rw [Nat.succ_mul]
          rcases ih with e | ⟨_, e, _⟩
          · rw [e]; omega
          · omega
        · rw [Nat.add_sub_cancel]
          rcases ih with e | ⟨_, e, _⟩
          · rw [e]; omega
          · omega
      · have hc' : cw js s y (k + 1) (jid js k) = cw js s y k (jid js k) := by simp only [cw]; rw [if_neg (by rintro ⟨_, h⟩; exact hc h)]
        rw [hc']
        rcases ih with e | ⟨e0, e1, e2⟩
        · exact .inl e
        · exact .inr ⟨e0, by omega, e2⟩
    · have hn : nx ts js (k + 1) i = nx ts js k i := by simp only [nx]; rw [if_neg hi]
      have hc' : cw js s y (k + 1) i = cw js s y k i := by simp only [cw]; rw [if_neg (by rintro ⟨h, _⟩; exact hi h)]
      rw [hn, hc']
      exact ih
theorem cw_le {ts : List T3} {js : List J4} (hv : ts.all tv = true) {s R k : Nat} (h : ∀ j, j < k → Leg1 ts js j) {i : Nat} (hi : i < ts.length) : cw js s (s + R) k i ≤ (R + per (tk ts i) - 1) / per (tk ts i) := by
  have hb := tv_bd (tk_tv hv hi)
  rcases cw_bd hv (s := s) (y := s + R) h i with e | ⟨e0, _, e2⟩
  · rw [e]
    exact Nat.zero_le _
  · rw [Nat.le_div_iff_mul_le (by omega)]
    have : cw js s (s + R) k i * per (tk ts i) = (cw js s (s + R) k i - 1) * per (tk ts i) + per (tk ts i) := by
      rw [← Nat.succ_mul]
      congr 1
      omega
    omega
/-- The simulation by priorities. -/
def fixP (js : List J4) (rank : Nat → Nat) : Pat := ⟨js.length, jrel js, jex js, fun k => rank (jid js k)⟩
theorem asked_fix {ts : List T3} {js : List J4} {rank : Nat → Nat} {p : Nat} (hv : ts.all tv = true) {s y : Nat} : ∀ {k : Nat}, (∀ j, j < k → Leg1 ts js j) →
    sumN (fun i => if rank (jid js i) < p ∧ s ≤ jrel js i ∧ jrel js i < y then jex js i else 0) k ≤ sumN (fun i => if rank i < p then cw js s y k i * cst (tk ts i) else 0) ts.length
  | 0, _ => by simp [sumN]
  | k + 1, h => by
    have ih := asked_fix hv (rank := rank) (p := p) (s := s) (y := y) (k := k) (fun j hj => h j (by omega))
    obtain ⟨h1, h2, h3, h4, h5, h6, h7⟩ := (h k (by omega)).nat hv
    simp only [sumN]
    by_cases hc : rank (jid js k) < p ∧ s ≤ jrel js k ∧ jrel js k < y
    · rw [if_pos hc]
      have := sumN_one (f := fun i => if rank i < p then cw js s y k i * cst (tk ts i) else 0) (g := fun i => if rank i < p then cw js s y (k + 1) i * cst (tk ts i) else 0) (x := cst (tk ts (jid js k))) h1
        (fun i _ hne => by
          have : cw js s y (k + 1) i = cw js s y k i := by simp only [cw]; rw [if_neg (by rintro ⟨h, _⟩; exact hne h.symm)]
          show (if rank i < p then cw js s y (k + 1) i * _ else 0) = if rank i < p then cw js s y k i * _ else 0
          rw [this])
        (by
          have : cw js s y (k + 1) (jid js k) = cw js s y k (jid js k) + 1 := by simp only [cw]; rw [if_pos ⟨trivial, hc.2⟩]
          show (if rank (jid js k) < p then cw js s y (k + 1) (jid js k) * _ else 0) = (if rank (jid js k) < p then cw js s y k (jid js k) * _ else 0) + _
          rw [this, if_pos hc.1, if_pos hc.1, Nat.succ_mul])
      rw [this]
      omega
    · rw [if_neg hc]
      have : sumN (fun i => if rank i < p then cw js s y (k + 1) i * cst (tk ts i) else 0) ts.length = sumN (fun i => if rank i < p then cw js s y k i * cst (tk ts i) else 0) ts.length := sumN_eq fun i _ => by
        by_cases hr : rank i < p
        · have : cw js s y (k + 1) i = cw js s y k i := by
            simp only [cw]
            rw [if_neg]
            rintro ⟨e, h2⟩
            exact hc ⟨by rw [e]; exact hr, h2⟩
          rw [this]
        · rw [if_neg hr, if_neg hr]
      rw [this]
      omega
/-- The cost of a task and of all higher ones in an interval of length x. -/
def interf (ts : List T3) (rank : Nat → Nat) (i x : Nat) : Nat := cst (tk ts i) + sumN (fun j => if rank j < rank i then (x + per (tk ts j) - 1) / per (tk ts j) * cst (tk ts j) else 0) ts.length

/-- Promise 5: nothing is left of a job at its release plus the response time of its task. -/
theorem fix_safe {ts : List T3} {js : List J4} {rank : Nat → Nat} (hl : legB ts js = true) (hinj : ∀ i j, i < ts.length → j < ts.length → rank i = rank j → i = j) {m : Nat} (hm : m < js.length) {R : Nat}
    (hR : interf ts rank (jid js m) R = R) (hd : R ≤ dln (tk ts (jid js m))) : (fixP js rank).left (jrel js m + R) m = 0 := by
  obtain ⟨hv, _, hk⟩ := legB_iff.1 hl
  have hall := all_of_sv hv
  induction m using Nat.strongRecOn with
  | ind m ih =>
    have hm1 := (hk m hm).nat hall
    have hb := tv_bd hm1.2.1
    -- earlier jobs of the task are finished
    have hold : ∀ j, j < m → jid js j = jid js m → ∀ u, jrel js m ≤ u → (fixP js rank).left u j = 0 := by
      intro j hj he u hu
      have h1 := ih j hj (by omega) (by rw [he]; exact hR) (by rw [he]; exact hd)
      have h2 := leg_apart hl hm hj he
      have h3 := (fixP js rank).left_mono j (show jrel js j + R ≤ u by omega)
      omega
    apply Classical.byContradiction
    intro hne
    obtain ⟨s, hs, h1, h2⟩ := (fixP js rank).windowA (fun k => decide (rank (jid js k) < rank (jid js m))) (fun i b hi hb => by
      simp only [decide_eq_true_eq] at hi ⊢
      exact Nat.lt_of_le_of_lt hb hi) (jrel js m)
    have hpos : 0 < (fixP js rank).left (s + R) m := by
      have := (fixP js rank).left_mono m (show s + R ≤ jrel js m + R by omega)
      omega
    have h3 := Pat.sumA_run (P := fixP js rank) (B := fun k => decide (k = m) || (decide (rank (jid js k) < rank (jid js m)) && decide (jrel js k < s + R))) (s := s) (y := s + R) (by omega) (fun u hu1 hu2 => by
      by_cases hu : u < jrel js m
      · obtain ⟨b, hb1, hb2⟩ := h2 u hu1 hu
        refine ⟨b, hb1, ?_⟩
        have := (Pat.run_pos hb1).2.1
        have hr : jrel js b ≤ u := this
        simp only [decide_eq_true_eq] at hb2
        simp only [Bool.or_eq_true, Bool.and_eq_true, decide_eq_true_eq]
        exact .inr ⟨hb2, by omega⟩
      · have hlm : 0 < (fixP js rank).left u m := by
          have := (fixP js rank).left_mono m (show u ≤ s + R by omega)
          omega
        cases hb1 : (fixP js rank).run u with
        | none => exact absurd ⟨show jrel js m ≤ u by omega, hlm⟩ (best_none hb1 m hm)
        | some b =>
          refine ⟨b, rfl, ?_⟩
          obtain ⟨g1, g2, g3, g4⟩ := best_some hb1
          have hr : jrel js b ≤ u := g2
          have hbn : b < js.length := g1
          simp only [Bool.or_eq_true, Bool.and_eq_true, decide_eq_true_eq]
          rcases g4 m hm (show jrel js m ≤ u by omega) hlm with h | ⟨h, hbm⟩
          · exact .inr ⟨h, by omega⟩
          · left
            have he : jid js b = jid js m := hinj _ _ ((hk b hbn).nat hall).1 hm1.1 h
            apply Classical.byContradiction
            intro hne2
            have := hold b (by omega) he u (by omega)
            omega)
    have h4 : 1 ≤ (fixP js rank).sumA (fun k => decide (k = m) || (decide (rank (jid js k) < rank (jid js m)) && decide (jrel js k < s + R))) (s + R) := by
      refine Nat.le_trans ?_ (sumN_mem (f := fun k => if (decide (k = m) || (decide (rank (jid js k) < rank (jid js m)) && decide (jrel js k < s + R))) = true then (fixP js rank).left (s + R) k else 0) hm)
      show 1 ≤ if _ then _ else _
      rw [if_pos (by simp)]
      omega
    have h5 : (fixP js rank).sumA (fun k => decide (k = m) || (decide (rank (jid js k) < rank (jid js m)) && decide (jrel js k < s + R))) s ≤
        sumN (fun k => if rank (jid js k) < rank (jid js m) ∧ s ≤ jrel js k ∧ jrel js k < s + R then jex js k else 0) js.length + jex js m := by
      have e := sumN_one (f := fun k => if rank (jid js k) < rank (jid js m) ∧ s ≤ jrel js k ∧ jrel js k < s + R then jex js k else 0) (g := fun k => if k = m then jex js m else if rank (jid js k) < rank (jid js m) ∧ s ≤ jrel js k ∧ jrel js k < s + R then jex js k else 0) (b := m) (x := jex js m) hm
        (fun i _ hne => by show (if i = m then _ else _) = _; rw [if_neg hne])
        (by show (if m = m then _ else _) = _; rw [if_pos rfl, if_neg (by rintro ⟨h, _⟩; omega)]; omega)
      rw [← e]
      refine sumN_le fun k hkn => ?_
      by_cases hkm : k = m
      · subst hkm
        rw [if_pos rfl, if_pos (by simp)]
        exact (fixP js rank).left_ex s k
      · rw [if_neg hkm]
        simp only [hkm, decide_false, Bool.false_or, Bool.and_eq_true, decide_eq_true_eq]
        by_cases hc : rank (jid js k) < rank (jid js m) ∧ jrel js k < s + R
        · rw [if_pos hc]
          by_cases hr : s ≤ jrel js k
          · rw [if_pos ⟨hc.1, hr, hc.2⟩]
            exact (fixP js rank).left_ex s k
          · have := h1 k hkn (by simpa using hc.1) (show jrel js k < s by omega)
            rw [this]
            exact Nat.zero_le _
        · rw [if_neg hc]
          exact Nat.zero_le _
    have h6 := asked_fix hall (rank := rank) (p := rank (jid js m)) (s := s) (y := s + R) hk
    have h7 : sumN (fun i => if rank i < rank (jid js m) then cw js s (s + R) js.length i * cst (tk ts i) else 0) ts.length ≤ sumN (fun j => if rank j < rank (jid js m) then (R + per (tk ts j) - 1) / per (tk ts j) * cst (tk ts j) else 0) ts.length := sumN_le fun i hi => by
      by_cases hr : rank i < rank (jid js m)
      · rw [if_pos hr, if_pos hr]
        exact Nat.mul_le_mul_right _ (cw_le hall hk hi)
      · rw [if_neg hr, if_neg hr]
        exact Nat.le_refl _
    unfold interf at hR
    omega

end Go.Proofs.Ytocppoobcanhiaa
