/- Plain arithmetic of promise 54: a set that is schedulable by fixed priorities asks no more than fits in any interval. Fixed priorities over any pattern of jobs of tasks; the periodic pattern of any length. No dump. -/
import Derived.Test.YtocppoobcanhiaaResp
namespace Go.Proofs.Ytocppoobcanhiaa

/-- A pattern of jobs of tasks (tid: the task of a job) by priorities. -/
structure TPat (ts : List T3) (rank : Nat → Nat) (P : Pat) (tid : Nat → Nat) : Prop where
  key : ∀ k, P.key k = rank (tid k)
  lt : ∀ k, k < P.n → tid k < ts.length
  ex : ∀ k, k < P.n → P.ex k ≤ cst (tk ts (tid k))
  ap : ∀ j m, j < m → m < P.n → tid j = tid m → P.rel j + per (tk ts (tid m)) ≤ P.rel m
  ask : ∀ s R p, sumN (fun k => if rank (tid k) < p ∧ s ≤ P.rel k ∧ P.rel k < s + R then P.ex k else 0) P.n ≤ sumN (fun j => if rank j < p then cl ts j R else 0) ts.length
/-- Nothing is left of a job at its release plus the response time of its task. -/
theorem fix_gen {ts : List T3} {rank : Nat → Nat} {P : Pat} {tid : Nat → Nat} (hv : ts.all tv = true) (hT : TPat ts rank P tid) (hinj : ∀ i j, i < ts.length → j < ts.length → rank i = rank j → i = j) {m : Nat} (hm : m < P.n) {R : Nat}
    (hR : interf ts rank (tid m) R = R) (hd : R ≤ dln (tk ts (tid m))) : P.left (P.rel m + R) m = 0 := by
  induction m using Nat.strongRecOn with
  | ind m ih =>
    have hb := tv_bd (tk_tv hv (hT.lt m hm))
    have hold : ∀ j, j < m → tid j = tid m → ∀ u, P.rel m ≤ u → P.left u j = 0 := by
      intro j hj he u hu
      have h1 := ih j hj (by omega) (by rw [he]; exact hR) (by rw [he]; exact hd)
      have h2 := hT.ap j m hj hm he
      have h3 := P.left_mono j (show P.rel j + R ≤ u by omega)
      omega
    apply Classical.byContradiction
    intro hne
    obtain ⟨s, hs, h1, h2⟩ := P.windowA (fun k => decide (rank (tid k) < rank (tid m))) (fun i b hi hb => by
      simp only [decide_eq_true_eq] at hi ⊢
      rw [hT.key b, hT.key i] at hb
      exact Nat.lt_of_le_of_lt hb hi) (P.rel m)
    have hpos : 0 < P.left (s + R) m := by
      have := P.left_mono m (show s + R ≤ P.rel m + R by omega)
      omega
    have h3 := Pat.sumA_run (P := P) (B := fun k => decide (k = m) || (decide (rank (tid k) < rank (tid m)) && decide (P.rel k < s + R))) (s := s) (y := s + R) (by omega) (fun u hu1 hu2 => by
      by_cases hu : u < P.rel m
      · obtain ⟨b, hb1, hb2⟩ := h2 u hu1 hu
        refine ⟨b, hb1, ?_⟩
        have := (Pat.run_pos hb1).2.1
        have hr : P.rel b ≤ u := this
        simp only [decide_eq_true_eq] at hb2
        simp only [Bool.or_eq_true, Bool.and_eq_true, decide_eq_true_eq]
        exact .inr ⟨hb2, by omega⟩
      · have hlm : 0 < P.left u m := by
          have := P.left_mono m (show u ≤ s + R by omega)
          omega
        cases hb1 : P.run u with
        | none => exact absurd ⟨show P.rel m ≤ u by omega, hlm⟩ (best_none hb1 m hm)
        | some b =>
          refine ⟨b, rfl, ?_⟩
          obtain ⟨g1, g2, g3, g4⟩ := best_some hb1
          have hr : P.rel b ≤ u := g2
          have hbn : b < P.n := g1
          simp only [Bool.or_eq_true, Bool.and_eq_true, decide_eq_true_eq]
          have g5 := g4 m hm (show P.rel m ≤ u by omega) hlm
          rw [hT.key b, hT.key m] at g5
          rcases g5 with h | ⟨h, hbm⟩
          · exact .inr ⟨h, by omega⟩
          · left
            have he : tid b = tid m := hinj _ _ (hT.lt b hbn) (hT.lt m hm) h
            apply Classical.byContradiction
            intro hne2
            have := hold b (by omega) he u (by omega)
            omega)
    have h4 : 1 ≤ P.sumA (fun k => decide (k = m) || (decide (rank (tid k) < rank (tid m)) && decide (P.rel k < s + R))) (s + R) := by
      refine Nat.le_trans ?_ (sumN_mem (f := fun k => if (decide (k = m) || (decide (rank (tid k) < rank (tid m)) && decide (P.rel k < s + R))) = true then P.left (s + R) k else 0) hm)
      show 1 ≤ if _ then _ else _
      rw [if_pos (by simp)]
      omega
    have h5 : P.sumA (fun k => decide (k = m) || (decide (rank (tid k) < rank (tid m)) && decide (P.rel k < s + R))) s ≤
        sumN (fun k => if rank (tid k) < rank (tid m) ∧ s ≤ P.rel k ∧ P.rel k < s + R then P.ex k else 0) P.n + P.ex m := by
      have e := sumN_one (f := fun k => if rank (tid k) < rank (tid m) ∧ s ≤ P.rel k ∧ P.rel k < s + R then P.ex k else 0) (g := fun k => if k = m then P.ex m else if rank (tid k) < rank (tid m) ∧ s ≤ P.rel k ∧ P.rel k < s + R then P.ex k else 0) (b := m) (x := P.ex m) hm
        (fun i _ hne => by show (if i = m then _ else _) = _; rw [if_neg hne])
        (by show (if m = m then _ else _) = _; rw [if_pos rfl, if_neg (by rintro ⟨h, _⟩; omega)]; omega)
      rw [← e]
      refine sumN_le fun k hkn => ?_
      by_cases hkm : k = m
      · subst hkm
        rw [if_pos rfl, if_pos (by simp)]
        exact P.left_ex s k
      · rw [if_neg hkm]
        simp only [hkm, decide_false, Bool.false_or, Bool.and_eq_true, decide_eq_true_eq]
        by_cases hc : rank (tid k) < rank (tid m) ∧ P.rel k < s + R
        · rw [if_pos hc]
          by_cases hr : s ≤ P.rel k
          · rw [if_pos ⟨hc.1, hr, hc.2⟩]
            exact P.left_ex s k
          · have := h1 k hkn (by simpa using hc.1) (show P.rel k < s by omega)
            rw [this]
            exact Nat.zero_le _
        · rw [if_neg hc]
          exact Nat.zero_le _
    have h6 := hT.ask s R (rank (tid m))
    have h7 := hT.ex m hm
    unfold interf at hR
    simp only [cl] at h6
    omega

/-! ### The periodic pattern: M jobs of every task -/
theorem sumN_prod (f : Nat → Nat) (n : Nat) : ∀ M, sumN f (n * M) = sumN (fun j => sumN (fun q => f (n * q + j)) M) n
  | 0 => by
    rw [Nat.mul_zero]
    exact (sumN_zero (f := fun j => sumN (fun q => f (n * q + j)) 0) fun _ _ => rfl).symm
  | M + 1 => by
    have split : ∀ a b, sumN f (a + b) = sumN f a + sumN (fun j => f (a + j)) b := by
      intro a b
      induction b with
      | zero => simp [sumN]
      | succ b ih => rw [← Nat.add_assoc, sumN, ih, sumN]; omega
    rw [Nat.mul_succ, split, sumN_prod f n M]
    simp only [sumN]
    rw [sumN_add]
def perP (ts : List T3) (rank : Nat → Nat) (M : Nat) : Pat := ⟨ts.length * M, fun k => k / ts.length * per (tk ts (k % ts.length)), fun k => cst (tk ts (k % ts.length)), fun k => rank (k % ts.length)⟩
theorem mod_at {n q j : Nat} (h : j < n) : (n * q + j) % n = j ∧ (n * q + j) / n = q := by
  constructor
  · rw [Nat.mul_add_mod]; exact Nat.mod_eq_of_lt h
  · rw [Nat.mul_add_div (by omega)]
    rw [Nat.div_eq_of_lt h]
    omega
theorem cnt_win (p s y : Nat) : ∀ M, sumN (fun q => if s ≤ q * p ∧ q * p < y then 1 else 0) M = 0 ∨
    (1 ≤ sumN (fun q => if s ≤ q * p ∧ q * p < y then 1 else 0) M ∧ s + sumN (fun q => if s ≤ q * p ∧ q * p < y then 1 else 0) M * p ≤ M * p ∧ s + (sumN (fun q => if s ≤ q * p ∧ q * p < y then 1 else 0) M - 1) * p < y)
  | 0 => .inl rfl
  | M + 1 => by
    have ih := cnt_win p s y M
    have e : sumN (fun q => if s ≤ q * p ∧ q * p < y then 1 else 0) (M + 1) = sumN (fun q => if s ≤ q * p ∧ q * p < y then 1 else 0) M + if s ≤ M * p ∧ M * p < y then 1 else 0 := rfl
    rw [e]
    generalize sumN (fun q => if s ≤ q * p ∧ q * p < y then 1 else 0) M = c at ih ⊢
    have e2 : (M + 1) * p = M * p + p := Nat.succ_mul M p
    by_cases hc : s ≤ M * p ∧ M * p < y
    · rw [if_pos hc]
      refine .inr ⟨by omega, ?_, ?_⟩
      · rw [Nat.succ_mul, e2]
        rcases ih with h | ⟨_, h, _⟩
        · subst h; omega
        · omega
      · rw [Nat.add_sub_cancel]
        rcases ih with h | ⟨_, h, _⟩
        · subst h; omega
        · omega
    · rw [if_neg hc, Nat.add_zero]
      rcases ih with h | ⟨h1, h2, h3⟩
      · exact .inl h
      · exact .inr ⟨h1, by omega, h3⟩
theorem cnt_le {p s R : Nat} (hp : 1 ≤ p) (M : Nat) : sumN (fun q => if s ≤ q * p ∧ q * p < s + R then 1 else 0) M ≤ (R + p - 1) / p := by
  rcases cnt_win p s (s + R) M with h | ⟨h1, _, h3⟩
  · rw [h]
    exact Nat.zero_le _
  · rw [Nat.le_div_iff_mul_le (by omega)]
    generalize sumN (fun q => if s ≤ q * p ∧ q * p < s + R then 1 else 0) M = c at h1 h3 ⊢
    have : c * p = (c - 1) * p + p := by
      rw [← Nat.succ_mul]
      congr 1
      omega
    omega
theorem sumN_mul (f : Nat → Nat) (c : Nat) : ∀ n, sumN (fun i => f i * c) n = sumN f n * c
  | 0 => by simp [sumN]
  | n + 1 => by simp only [sumN]; rw [sumN_mul f c n, Nat.add_mul]
theorem perP_tpat {ts : List T3} (hv : ts.all tv = true) (rank : Nat → Nat) (M : Nat) : TPat ts rank (perP ts rank M) (fun k => k % ts.length) := by
  have hpos : ∀ k, k < ts.length * M → 0 < ts.length := fun k hk => by
    rcases Nat.eq_zero_or_pos ts.length with h | h
    · rw [h, Nat.zero_mul] at hk; omega
    · exact h
  refine ⟨fun _ => rfl, fun k hk => Nat.mod_lt _ (hpos k hk), fun _ _ => Nat.le_refl _, fun j m hj hm he => ?_, fun s R p => ?_⟩
  · show j / ts.length * per (tk ts (j % ts.length)) + per (tk ts (m % ts.length)) ≤ m / ts.length * per (tk ts (m % ts.length))
    have he' : j % ts.length = m % ts.length := he
    rw [he', ← Nat.succ_mul]
    refine Nat.mul_le_mul_right _ ?_
    have h1 := Nat.div_add_mod j ts.length
    have h2 := Nat.div_add_mod m ts.length
    apply Classical.byContradiction
    intro hn
    have h3 : m / ts.length ≤ j / ts.length := by omega
    have := Nat.mul_le_mul_left ts.length h3
    omega
  · show sumN (fun k => if rank (k % ts.length) < p ∧ s ≤ k / ts.length * per (tk ts (k % ts.length)) ∧ k / ts.length * per (tk ts (k % ts.length)) < s + R then cst (tk ts (k % ts.length)) else 0) (ts.length * M) ≤ _
    rw [sumN_prod]
    refine sumN_le fun j hj => ?_
    have hb := tv_bd (tk_tv hv hj)
    have e : sumN (fun q => if rank ((ts.length * q + j) % ts.length) < p ∧ s ≤ (ts.length * q + j) / ts.length * per (tk ts ((ts.length * q + j) % ts.length)) ∧ (ts.length * q + j) / ts.length * per (tk ts ((ts.length * q + j) % ts.length)) < s + R then cst (tk ts ((ts.length * q + j) % ts.length)) else 0) M
        = sumN (fun q => if rank j < p ∧ s ≤ q * per (tk ts j) ∧ q * per (tk ts j) < s + R then cst (tk ts j) else 0) M := sumN_eq fun q _ => by
      obtain ⟨e1, e2⟩ := mod_at (q := q) hj
      rw [e1, e2]
    rw [e]
    by_cases hr : rank j < p
    · rw [if_pos hr]
      have e2 : sumN (fun q => if rank j < p ∧ s ≤ q * per (tk ts j) ∧ q * per (tk ts j) < s + R then cst (tk ts j) else 0) M = sumN (fun q => (if s ≤ q * per (tk ts j) ∧ q * per (tk ts j) < s + R then 1 else 0) * cst (tk ts j)) M := sumN_eq fun q _ => by
        by_cases hc : s ≤ q * per (tk ts j) ∧ q * per (tk ts j) < s + R
        · rw [if_pos ⟨hr, hc⟩, if_pos hc, Nat.one_mul]
        · rw [if_neg (fun h => hc h.2), if_neg hc, Nat.zero_mul]
      rw [e2, sumN_mul]
      exact Nat.mul_le_mul_right _ (cnt_le (by omega) M)
    · rw [if_neg hr, sumN_zero fun q _ => if_neg fun h => hr h.1]
      exact Nat.le_refl _
theorem cnt_due {p d x : Nat} (hp : 1 ≤ p) : ∀ {M : Nat}, sumN (fun q => if q * p + d ≤ x then 1 else 0) M = if d ≤ x then min M ((x - d) / p + 1) else 0
  | 0 => by simp [sumN]
  | M + 1 => by
    have e : sumN (fun q => if q * p + d ≤ x then 1 else 0) (M + 1) = sumN (fun q => if q * p + d ≤ x then 1 else 0) M + if M * p + d ≤ x then 1 else 0 := rfl
    rw [e, cnt_due hp]
    by_cases hd : d ≤ x
    · rw [if_pos hd, if_pos hd]
      have key : M * p + d ≤ x ↔ M ≤ (x - d) / p := by
        rw [Nat.le_div_iff_mul_le (by omega)]
        omega
      by_cases hm : M ≤ (x - d) / p
      · rw [if_pos (key.2 hm)]
        omega
      · rw [if_neg (fun h => hm (key.1 h))]
        omega
    · rw [if_neg hd, if_neg hd, if_neg (by omega)]
/-- A set that is schedulable by priorities asks no more than fits. -/
theorem fix_dem {ts : List T3} (hv : ts.all tv = true) {rank : Nat → Nat} (hinj : ∀ i j, i < ts.length → j < ts.length → rank i = rank j → i = j)
    (hR : ∀ i, i < ts.length → ∃ R, interf ts rank i R = R ∧ R ≤ dln (tk ts i)) (x : Nat) : dem ts x ≤ x := by
  apply Classical.byContradiction
  intro hn
  have ho : x < sumN (fun k => if k / ts.length * per (tk ts (k % ts.length)) + dln (tk ts (k % ts.length)) ≤ x then (perP ts rank (x + 1)).ex k else 0) (perP ts rank (x + 1)).n := by
    have e : sumN (fun k => if k / ts.length * per (tk ts (k % ts.length)) + dln (tk ts (k % ts.length)) ≤ x then (perP ts rank (x + 1)).ex k else 0) (perP ts rank (x + 1)).n = dem ts x := by
      show sumN (fun k => if k / ts.length * per (tk ts (k % ts.length)) + dln (tk ts (k % ts.length)) ≤ x then cst (tk ts (k % ts.length)) else 0) (ts.length * (x + 1)) = _
      rw [sumN_prod, sum_dem]
      refine sumN_eq fun j hj => ?_
      have hb := tv_bd (tk_tv hv hj)
      have e : sumN (fun q => if (ts.length * q + j) / ts.length * per (tk ts ((ts.length * q + j) % ts.length)) + dln (tk ts ((ts.length * q + j) % ts.length)) ≤ x then cst (tk ts ((ts.length * q + j) % ts.length)) else 0) (x + 1)
          = sumN (fun q => (if q * per (tk ts j) + dln (tk ts j) ≤ x then 1 else 0) * cst (tk ts j)) (x + 1) := sumN_eq fun q _ => by
        obtain ⟨e1, e2⟩ := mod_at (q := q) hj
        rw [e1, e2]
        split <;> omega
      rw [e, sumN_mul, cnt_due (by omega)]
      unfold dem1
      by_cases hd : dln (tk ts j) ≤ x
      · rw [if_pos hd, if_pos hd]
        have : (x - dln (tk ts j)) / per (tk ts j) ≤ x - dln (tk ts j) := Nat.div_le_self _ _
        rw [Nat.min_eq_right (by omega)]
      · rw [if_neg hd, if_neg hd, Nat.zero_mul]
    rw [e]
    omega
  obtain ⟨k, h1, _, h3⟩ := Pat.over (perP ts rank (x + 1)) (dl := fun k => k / ts.length * per (tk ts (k % ts.length)) + dln (tk ts (k % ts.length))) ho
  have hT := perP_tpat hv rank (x + 1)
  obtain ⟨R, hr1, hr2⟩ := hR (k % ts.length) (hT.lt k h1)
  have h4 := fix_gen hv hT hinj h1 hr1 hr2
  have h5 := (perP ts rank (x + 1)).left_mono k (show (perP ts rank (x + 1)).rel k + R ≤ k / ts.length * per (tk ts (k % ts.length)) + dln (tk ts (k % ts.length)) from Nat.add_le_add_left hr2 _)
  omega
theorem interf_rF (ts : List T3) (rank : Nat → Nat) (i x : Nat) : interf ts rank i x = rF ts (fun j => decide (rank j < rank i)) i x := by
  unfold interf rF wkS
  congr 1
  exact sumN_eq fun j _ => by simp only [decide_eq_true_eq, cl]
/-- Promise 54. -/
theorem feas_edf {ts : List T3} (hs : svB ts = true) {rank : Nat → Nat} (h : FeasR ts rank) : edf ts = true := by
  refine edf_iff.2 ⟨hs, fun t _ _ => fix_dem (all_of_sv hs) h.1 (fun i hi => ?_) t⟩
  cases hr : resp ts (fun j => decide (rank j < rank i)) i with
  | none => exact absurd hr (h.2 i hi)
  | some r =>
    obtain ⟨_, r2, r3, _⟩ := lfp_some hr
    exact ⟨r, (interf_rF ts rank i r).trans r3, r2⟩

end Go.Proofs.Ytocppoobcanhiaa
