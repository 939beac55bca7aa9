/- laws.FnExactRunFixed: for every task set, every order and every list of jobs (slices of whatever length, nil too, of whatever values) the program's RunFixed answers as the reference does, every field, changes no argument, and its answer is memory of its own; the law returns true and leaves its arguments as they were. No condition. -/
import Derived.Test.YtocppoobcanhiabLegal2
import Derived.Test.YtocppoobcanhiabIntsB
import Derived.Test.YtocppoobcanhiabIntsC
import Derived.Test.YtocppoobcanhiabUtil
import Derived.StillTailTactics
import Derived.Test.YtocppoobcanhiabRunImpl
import Derived.Laws.EntriesVeiled
import Derived.Test.YtocppoobcanhiabCopy
import Derived.ProofKit
import Derived.OpenShut
import Derived.ChangeOld
import Derived.Lib.SmallJoins
import Derived.Deep.Slices
import Derived.Deep.Strs
import Derived.Test.YtocppoobcanhiabJobs
import Derived.Test.YtocppoobcanhiabExactRunBase
import Derived.Test.YtocppoobcanhiabMarkI
namespace Go.Proofs.Ytocppoobcanhiab

/-- What is left of the jobs that A names. -/
def Pat.sumA (P : Pat) (A : Nat → Bool) (t : Nat) : Nat := sumN (fun i => if A i = true then P.left t i else 0) P.n
theorem Pat.work_step (P : Pat) (A : Nat → Bool) (t : Nat) : P.sumA A t ≤ P.sumA A (t + 1) + 1 := by
  cases hb : P.run t with
  | none =>
    have : P.sumA A t = P.sumA A (t + 1) := sumN_eq fun i _ => by
      have e : P.left (t + 1) i = P.left t i := by rw [P.left_succ, if_neg (by rw [hb]; simp)]
      show (if A i = true then P.left t i else 0) = if A i = true then P.left (t + 1) i else 0
      rw [e]
    omega
  | some b =>
    obtain ⟨h1, _, h3⟩ := P.run_pos hb
    have : P.sumA A t = P.sumA A (t + 1) + if A b = true then 1 else 0 := sumN_one (b := b) h1 (fun i _ hne => by
        have e : P.left (t + 1) i = P.left t i := by rw [P.left_succ, if_neg (by rw [hb]; simpa using fun e => hne e.symm)]
        show (if A i = true then P.left t i else 0) = if A i = true then P.left (t + 1) i else 0
        rw [e]) (by
        have e : P.left (t + 1) b = P.left t b - 1 := by rw [P.left_succ, if_pos hb]
        show (if A b = true then P.left t b else 0) = (if A b = true then P.left (t + 1) b else 0) + _
        rw [e]
        split <;> omega)
    rw [this]
    split <;> omega
theorem Pat.work_le (P : Pat) (A : Nat → Bool) {s : Nat} : ∀ {t : Nat}, s ≤ t → P.sumA A s ≤ P.sumA A t + (t - s)
  | 0, h => by obtain rfl : s = 0 := by omega
               omega
  | t + 1, h => by
    by_cases e : s = t + 1
    · subst e; omega
    · have h1 := P.work_le A (s := s) (t := t) (by omega)
      have h2 := P.work_step A t
      omega
/-- A job has its whole work left at its release. -/
theorem Pat.left_rel (P : Pat) {i : Nat} : ∀ {t : Nat}, t ≤ P.rel i → P.left t i = P.ex i
  | 0, _ => rfl
  | t + 1, h => by
    rw [P.left_succ, if_neg]
    · exact P.left_rel (by omega)
    · intro hr
      have := (P.run_pos hr).2.1
      omega
/-- Promise 3: if some keys leave nothing at the deadlines, earliest deadline first does not either. -/
theorem Pat.optimal {P Q : Pat} {T : Nat} (hn : P.n = Q.n) (hr : ∀ i, i < P.n → P.rel i = Q.rel i) (hx : ∀ i, i < P.n → P.ex i = Q.ex i)
    (h : ∀ i, i < P.n → P.key i ≤ T → Q.left (P.key i) i = 0) {m : Nat} (hm : m < P.n) (hk : P.key m ≤ T) : P.left (P.key m) m = 0 := by
  apply Classical.byContradiction
  intro hne
  obtain ⟨s, hs, h1⟩ := P.late hm (Nat.le_refl _) (Nat.pos_of_ne_zero hne)
  have h2 := Q.work_le (fun i => decide (s ≤ P.rel i ∧ P.key i ≤ P.key m)) hs
  have h3 : Q.sumA (fun i => decide (s ≤ P.rel i ∧ P.key i ≤ P.key m)) (P.key m) = 0 := sumN_zero fun i hi => by
    simp only [decide_eq_true_eq]
    split
    · rename_i hc
      have := Q.left_mono i hc.2
      have := h i (by omega) (by omega)
      omega
    · rfl
  have h4 : Q.sumA (fun i => decide (s ≤ P.rel i ∧ P.key i ≤ P.key m)) s = sumN (fun i => if s ≤ P.rel i ∧ P.key i ≤ P.key m then P.ex i else 0) P.n := by
    rw [Pat.sumA, ← hn]
    refine sumN_eq fun i hi => ?_
    simp only [decide_eq_true_eq]
    split
    · rename_i hc
      rw [Q.left_rel (by rw [← hr i hi]; exact hc.1), hx i hi]
    · rfl
  omega
/-- Promise 2: more work than D with deadlines up to D: under every order some job is late. -/
theorem Pat.over (Q : Pat) {D : Nat} {dl : Nat → Nat} (h : D < sumN (fun i => if dl i ≤ D then Q.ex i else 0) Q.n) : ∃ i, i < Q.n ∧ dl i ≤ D ∧ 0 < Q.left (dl i) i := by
  apply Classical.byContradiction
  intro hc
  have h2 := Q.work_le (fun i => decide (dl i ≤ D)) (Nat.zero_le D)
  have h3 : Q.sumA (fun i => decide (dl i ≤ D)) D = 0 := sumN_zero fun i hi => by
    simp only [decide_eq_true_eq]
    split
    · rename_i hd
      have := Q.left_mono i hd
      have : Q.left (dl i) i = 0 := by
        apply Classical.byContradiction
        intro hne
        exact hc ⟨i, hi, hd, Nat.pos_of_ne_zero hne⟩
      omega
    · rfl
  have h4 : Q.sumA (fun i => decide (dl i ≤ D)) 0 = sumN (fun i => if dl i ≤ D then Q.ex i else 0) Q.n := sumN_eq fun i _ => by
    simp only [decide_eq_true_eq]
    rfl
  omega
/-- The synchronous pattern up to a first overload, unless it is cut off, is late under every order. -/
theorem sy_late {ts : List T3} {D : Nat} (hv : svB ts = true) (hD : D ≤ 120) (hl : (sy ts D D).length < 60) (ho : D < dem ts D) (key : Nat → Nat) :
    ∃ i, i < (sy ts D D).length ∧ jdl (sy ts D D) i ≤ D ∧ 0 < (Pat.mk (sy ts D D).length (jrel (sy ts D D)) (jex (sy ts D D)) key).left (jdl (sy ts D D) i) i := by
  refine Pat.over (Pat.mk (sy ts D D).length (jrel (sy ts D D)) (jex (sy ts D D)) key) ?_
  rw [← sy_dem hv hl] at ho
  refine Nat.lt_of_lt_of_le ho (Nat.le_of_eq (sumN_eq fun i hi => ?_))
  have := ((sy_sy (all_of_sv hv) hD (Nat.le_refl D)).dl i hi).1
  rw [if_pos (by simp only [jdl]; omega)]

end Go.Proofs.Ytocppoobcanhiab

namespace Go.Proofs.Ytocppoobcanhiab

/-- A window for jobs that are not disturbed by others. -/
theorem Pat.windowA (P : Pat) (A : Nat → Bool) (hA : ∀ i b, A i = true → P.key b ≤ P.key i → A b = true) (t : Nat) :
    ∃ s, s ≤ t ∧ (∀ i, i < P.n → A i = true → P.rel i < s → P.left s i = 0) ∧ ∀ u, s ≤ u → u < t → ∃ b, P.run u = some b ∧ A b = true := by
  induction t with
  | zero => exact ⟨0, Nat.le_refl _, fun i _ _ h => absurd h (Nat.not_lt_zero _), fun u _ h => absurd h (Nat.not_lt_zero _)⟩
  | succ t ih =>
    by_cases hc : ∃ b, P.run t = some b ∧ A b = true
    · obtain ⟨s, hs, h3, h4⟩ := ih
      refine ⟨s, by omega, h3, fun u h1 h2 => ?_⟩
      by_cases e : u = t
      · subst e; exact hc
      · exact h4 u h1 (by omega)
    · refine ⟨t + 1, Nat.le_refl _, fun i hi hk hr => ?_, fun u h1 h2 => by omega⟩
      have hz : P.left t i = 0 := by
        by_cases h0 : P.left t i = 0
        · exact h0
        · cases hb : P.run t with
          | none => exact absurd ⟨by omega, by omega⟩ (best_none hb i hi)
          | some b =>
            obtain ⟨_, _, _, h4⟩ := best_some hb
            refine absurd ⟨b, hb, hA i b hk ?_⟩ hc
            rcases h4 i hi (by omega) (by omega) with h | ⟨h, _⟩ <;> omega
      have := P.left_le t i
      omega
theorem Pat.sumA_run {P : Pat} {B : Nat → Bool} {s : Nat} : ∀ {y : Nat}, s ≤ y → (∀ u, s ≤ u → u < y → ∃ b, P.run u = some b ∧ B b = true) → P.sumA B s = P.sumA B y + (y - s)
  | 0, h, _ => by obtain rfl : s = 0 := by omega
                  omega
  | y + 1, h, hu => by
    by_cases e : s = y + 1
    · subst e; omega
    · have ih := P.sumA_run (B := B) (s := s) (y := y) (by omega) fun u h1 h2 => hu u h1 (by omega)
      obtain ⟨b, hb, hB⟩ := hu y (by omega) (by omega)
      obtain ⟨h1, _, h3⟩ := P.run_pos hb
      have : P.sumA B y = P.sumA B (y + 1) + 1 := sumN_one (b := b) h1 (fun i _ hne => by
          have e : P.left (y + 1) i = P.left y i := by rw [P.left_succ, if_neg (by rw [hb]; simpa using fun e => hne e.symm)]
          show (if B i = true then P.left y i else 0) = if B i = true then P.left (y + 1) i else 0
          rw [e]) (by
          have e : P.left (y + 1) b = P.left y b - 1 := by rw [P.left_succ, if_pos hb]
          show (if B b = true then P.left y b else 0) = (if B b = true then P.left (y + 1) b else 0) + 1
          rw [e, if_pos hB, if_pos hB]
          omega)
      omega

/-! ### How much higher tasks ask within a window -/
def cw (js : List J4) (s y : Nat) : Nat → Nat → Nat
  | 0 => fun _ => 0
  | k + 1 => fun i => if jid js k = i ∧ s ≤ jrel js k ∧ jrel js k < y then cw js s y k i + 1 else cw js s y k i
theorem cw_bd {ts : List T3} {js : List J4} (hv : ts.all tv = true) {s y : Nat} : ∀ {k : Nat}, (∀ j, j < k → Leg1 ts js j) → ∀ i,
    cw js s y k i = 0 ∨ (1 ≤ cw js s y k i ∧ s + cw js s y k i * per (tk ts i) ≤ nx ts js k i ∧ s + (cw js s y k i - 1) * per (tk ts i) < y)
  | 0, _, _ => .inl rfl
  | k + 1, h, i => by
    have ih := cw_bd hv (s := s) (y := y) (k := k) (fun j hj => h j (by omega)) i
    obtain ⟨h1, h2, h3, h4, h5, h6⟩ := (h k (by omega)).nat hv
    by_cases hi : jid js k = i
    · subst hi
      have hn : nx ts js (k + 1) (jid js k) = jrel js k + per (tk ts (jid js k)) := by simp only [nx, if_true]
      rw [hn]
      by_cases hc : s ≤ jrel js k ∧ jrel js k < y
      · have hc' : cw js s y (k + 1) (jid js k) = cw js s y k (jid js k) + 1 := by simp only [cw]; rw [if_pos ⟨trivial, hc⟩]
        rw [hc']
        refine .inr ⟨by omega, ?_, ?_⟩
        · rw [Nat.succ_mul]
          rcases ih with e | ⟨_, e, _⟩
          · rw [e]; omega
          · omega
        · rw [Nat.add_sub_cancel]
          rcases ih with e | ⟨_, e, _⟩
          · rw [e]; omega
          · omega
      · have hc' : cw js s y (k + 1) (jid js k) = cw js s y k (jid js k) := by simp only [cw]; rw [if_neg (by rintro ⟨_, h⟩; exact hc h)]
        rw [hc']
        rcases ih with e | ⟨e0, e1, e2⟩
        · exact .inl e
        · exact .inr ⟨e0, by omega, e2⟩
    · have hn : nx ts js (k + 1) i = nx ts js k i := by simp only [nx]; rw [if_neg hi]
      have hc' : cw js s y (k + 1) i = cw js s y k i := by simp only [cw]; rw [if_neg (by rintro ⟨h, _⟩; exact hi h)]
      rw [hn, hc']
      exact ih
theorem cw_le {ts : List T3} {js : List J4} (hv : ts.all tv = true) {s R k : Nat} (h : ∀ j, j < k → Leg1 ts js j) {i : Nat} (hi : i < ts.length) : cw js s (s + R) k i ≤ (R + per (tk ts i) - 1) / per (tk ts i) := by
  have hb := tv_bd (tk_tv hv hi)
  rcases cw_bd hv (s := s) (y := s + R) h i with e | ⟨e0, _, e2⟩
  · rw [e]
    exact Nat.zero_le _
  · rw [Nat.le_div_iff_mul_le (by omega)]
    have : cw js s (s + R) k i * per (tk ts i) = (cw js s (s + R) k i - 1) * per (tk ts i) + per (tk ts i) := by
      rw [← Nat.succ_mul]
      congr 1
      omega
    omega
/-- The simulation by priorities. -/
def fixP (js : List J4) (rank : Nat → Nat) : Pat := ⟨js.length, jrel js, jex js, fun k => rank (jid js k)⟩
theorem asked_fix {ts : List T3} {js : List J4} {rank : Nat → Nat} {p : Nat} (hv : ts.all tv = true) {s y : Nat} : ∀ {k : Nat}, (∀ j, j < k → Leg1 ts js j) →
    sumN (fun i => if rank (jid js i) < p ∧ s ≤ jrel js i ∧ jrel js i < y then jex js i else 0) k ≤ sumN (fun i => if rank i < p then cw js s y k i * cst (tk ts i) else 0) ts.length
  | 0, _ => by simp [sumN]
  | k + 1, h => by
    have ih := asked_fix hv (rank := rank) (p := p) (s := s) (y := y) (k := k) (fun j hj => h j (by omega))
    obtain ⟨h1, h2, h3, h4, h5, h6, h7⟩ := (h k (by omega)).nat hv
    simp only [sumN]
    by_cases hc : rank (jid js k) < p ∧ s ≤ jrel js k ∧ jrel js k < y
    · rw [if_pos hc]
      have := sumN_one (f := fun i => if rank i < p then cw js s y k i * cst (tk ts i) else 0) (g := fun i => if rank i < p then cw js s y (k + 1) i * cst (tk ts i) else 0) (x := cst (tk ts (jid js k))) h1
        (fun i _ hne => by
          have : cw js s y (k + 1) i = cw js s y k i := by simp only [cw]; rw [if_neg (by rintro ⟨h, _⟩; exact hne h.symm)]
          show (if rank i < p then cw js s y (k + 1) i * _ else 0) = if rank i < p then cw js s y k i * _ else 0
          rw [this])
        (by
          have : cw js s y (k + 1) (jid js k) = cw js s y k (jid js k) + 1 := by simp only [cw]; rw [if_pos ⟨trivial, hc.2⟩]
          show (if rank (jid js k) < p then cw js s y (k + 1) (jid js k) * _ else 0) = (if rank (jid js k) < p then cw js s y k (jid js k) * _ else 0) + _
          rw [this, if_pos hc.1, if_pos hc.1, Nat.succ_mul])
      rw [this]
      omega
    · rw [if_neg hc]
      have : sumN (fun i => if rank i < p then cw js s y (k + 1) i * cst (tk ts i) else 0) ts.length = sumN (fun i => if rank i < p then cw js s y k i * cst (tk ts i) else 0) ts.length := sumN_eq fun i _ => by
        by_cases hr : rank i < p
        · have : cw js s y (k + 1) i = cw js s y k i := by
            simp only [cw]
            rw [if_neg]
            rintro ⟨e, h2⟩
            exact hc ⟨by rw [e]; exact hr, h2⟩
          rw [this]
        · rw [if_neg hr, if_neg hr]
      rw [this]
      omega
/-- The cost of a task and of all higher ones in an interval of length x. -/
def interf (ts : List T3) (rank : Nat → Nat) (i x : Nat) : Nat := cst (tk ts i) + sumN (fun j => if rank j < rank i then (x + per (tk ts j) - 1) / per (tk ts j) * cst (tk ts j) else 0) ts.length

/-- Promise 5: nothing is left of a job at its release plus the response time of its task. -/
theorem fix_safe {ts : List T3} {js : List J4} {rank : Nat → Nat} (hl : legB ts js = true) (hinj : ∀ i j, i < ts.length → j < ts.length → rank i = rank j → i = j) {m : Nat} (hm : m < js.length) {R : Nat}
    (hR : interf ts rank (jid js m) R = R) (hd : R ≤ dln (tk ts (jid js m))) : (fixP js rank).left (jrel js m + R) m = 0 := by
  obtain ⟨hv, _, hk⟩ := legB_iff.1 hl
  have hall := all_of_sv hv
  induction m using Nat.strongRecOn with
  | ind m ih =>
    have hm1 := (hk m hm).nat hall
    have hb := tv_bd hm1.2.1
    -- earlier jobs of the task are finished
    have hold : ∀ j, j < m → jid js j = jid js m → ∀ u, jrel js m ≤ u → (fixP js rank).left u j = 0 := by
      intro j hj he u hu
      have h1 := ih j hj (by omega) (by rw [he]; exact hR) (by rw [he]; exact hd)
      have h2 := leg_apart hl hm hj he
      have h3 := (fixP js rank).left_mono j (show jrel js j + R ≤ u by omega)
      omega
    apply Classical.byContradiction
    intro hne
    obtain ⟨s, hs, h1, h2⟩ := (fixP js rank).windowA (fun k => decide (rank (jid js k) < rank (jid js m))) (fun i b hi hb => by
      simp only [decide_eq_true_eq] at hi ⊢
      exact Nat.lt_of_le_of_lt hb hi) (jrel js m)
    have hpos : 0 < (fixP js rank).left (s + R) m := by
      have := (fixP js rank).left_mono m (show s + R ≤ jrel js m + R by omega)
      omega
    have h3 := Pat.sumA_run (P := fixP js rank) (B := fun k => decide (k = m) || (decide (rank (jid js k) < rank (jid js m)) && decide (jrel js k < s + R))) (s := s) (y := s + R) (by omega) (fun u hu1 hu2 => by
      by_cases hu : u < jrel js m
      · obtain ⟨b, hb1, hb2⟩ := h2 u hu1 hu
        refine ⟨b, hb1, ?_⟩
        have := (Pat.run_pos hb1).2.1
        have hr : jrel js b ≤ u := this
        simp only [decide_eq_true_eq] at hb2
        simp only [Bool.or_eq_true, Bool.and_eq_true, decide_eq_true_eq]
        exact .inr ⟨hb2, by omega⟩
      · have hlm : 0 < (fixP js rank).left u m := by
          have := (fixP js rank).left_mono m (show u ≤ s + R by omega)
          omega
        cases hb1 : (fixP js rank).run u with
        | none => exact absurd ⟨show jrel js m ≤ u by omega, hlm⟩ (best_none hb1 m hm)
        | some b =>
          refine ⟨b, rfl, ?_⟩
          obtain ⟨g1, g2, g3, g4⟩ := best_some hb1
          have hr : jrel js b ≤ u := g2
          have hbn : b < js.length := g1
          simp only [Bool.or_eq_true, Bool.and_eq_true, decide_eq_true_eq]
          rcases g4 m hm (show jrel js m ≤ u by omega) hlm with h | ⟨h, hbm⟩
          · exact .inr ⟨h, by omega⟩
          · left
            have he : jid js b = jid js m := hinj _ _ ((hk b hbn).nat hall).1 hm1.1 h
            apply Classical.byContradiction
            intro hne2
            have := hold b (by omega) he u (by omega)
            omega)
    have h4 : 1 ≤ (fixP js rank).sumA (fun k => decide (k = m) || (decide (rank (jid js k) < rank (jid js m)) && decide (jrel js k < s + R))) (s + R) := by
      refine Nat.le_trans ?_ (sumN_mem (f := fun k => if (decide (k = m) || (decide (rank (jid js k) < rank (jid js m)) && decide (jrel js k < s + R))) = true then (fixP js rank).left (s + R) k else 0) hm)
      show 1 ≤ if _ then _ else _
      rw [if_pos (by simp)]
      omega
    have h5 : (fixP js rank).sumA (fun k => decide (k = m) || (decide (rank (jid js k) < rank (jid js m)) && decide (jrel js k < s + R))) s ≤
        sumN (fun k => if rank (jid js k) < rank (jid js m) ∧ s ≤ jrel js k ∧ jrel js k < s + R then jex js k else 0) js.length + jex js m := by
      have e := sumN_one (f := fun k => if rank (jid js k) < rank (jid js m) ∧ s ≤ jrel js k ∧ jrel js k < s + R then jex js k else 0) (g := fun k => if k = m then jex js m else if rank (jid js k) < rank (jid js m) ∧ s ≤ jrel js k ∧ jrel js k < s + R then jex js k else 0) (b := m) (x := jex js m) hm
        (fun i _ hne => by show (if i = m then _ else _) = _; rw [if_neg hne])
        (by show (if m = m then _ else _) = _; rw [if_pos rfl, if_neg (by rintro ⟨h, _⟩; omega)]; omega)
      rw [← e]
      refine sumN_le fun k hkn => ?_
      by_cases hkm : k = m
      · subst hkm
        rw [if_pos rfl, if_pos (by simp)]
        exact (fixP js rank).left_ex s k
      · rw [if_neg hkm]
        simp only [hkm, decide_false, Bool.false_or, Bool.and_eq_true, decide_eq_true_eq]
        by_cases hc : rank (jid js k) < rank (jid js m) ∧ jrel js k < s + R
        · rw [if_pos hc]
          by_cases hr : s ≤ jrel js k
          · rw [if_pos ⟨hc.1, hr, hc.2⟩]
            exact (fixP js rank).left_ex s k
          · have := h1 k hkn (by simpa using hc.1) (show jrel js k < s by omega)
            rw [this]
            exact Nat.zero_le _
        · rw [if_neg hc]
          exact Nat.zero_le _
    have h6 := asked_fix hall (rank := rank) (p := rank (jid js m)) (s := s) (y := s + R) hk
    have h7 : sumN (fun i => if rank i < rank (jid js m) then cw js s (s + R) js.length i * cst (tk ts i) else 0) ts.length ≤ sumN (fun j => if rank j < rank (jid js m) then (R + per (tk ts j) - 1) / per (tk ts j) * cst (tk ts j) else 0) ts.length := sumN_le fun i hi => by
      by_cases hr : rank i < rank (jid js m)
      · rw [if_pos hr, if_pos hr]
        exact Nat.mul_le_mul_right _ (cw_le hall hk hi)
      · rw [if_neg hr, if_neg hr]
        exact Nat.le_refl _
    unfold interf at hR
    omega

end Go.Proofs.Ytocppoobcanhiab

namespace Go.Proofs.Ytocppoobcanhiab

/-! ### Least fixed points -/
/-- The least r in 1..D with F r = r. -/
def lfp (F : Nat → Nat) : Nat → Option Nat
  | 0 => none
  | D + 1 => match lfp F D with
    | some r => some r
    | none => if F (D + 1) = D + 1 then some (D + 1) else none
theorem lfp_some {F : Nat → Nat} {r : Nat} : ∀ {D : Nat}, lfp F D = some r → 1 ≤ r ∧ r ≤ D ∧ F r = r ∧ ∀ x, 1 ≤ x → x < r → F x ≠ x
  | 0, h => by simp [lfp] at h
  | D + 1, h => by
    simp only [lfp] at h
    cases hl : lfp F D with
    | some r' =>
      rw [hl] at h
      obtain rfl : r' = r := by simpa using h
      obtain ⟨h1, h2, h3, h4⟩ := lfp_some hl
      exact ⟨h1, by omega, h3, h4⟩
    | none =>
      rw [hl] at h
      simp only at h
      split at h
      · rename_i hf
        obtain rfl : D + 1 = r := by simpa using h
        refine ⟨by omega, by omega, hf, fun x h1 h2 hx => ?_⟩
        have : ∀ {E : Nat}, lfp F E = none → ∀ x, 1 ≤ x → x ≤ E → F x ≠ x := by
          intro E
          induction E with
          | zero => intro _ x h1 h2; omega
          | succ E ih =>
            intro hE x h1 h2
            simp only [lfp] at hE
            cases hl2 : lfp F E with
            | some r => rw [hl2] at hE; simp at hE
            | none =>
              rw [hl2] at hE
              simp only at hE
              split at hE
              · simp at hE
              · rename_i hne
                by_cases e : x = E + 1
                · subst e; exact hne
                · exact ih hl2 x h1 (by omega)
        exact this hl x h1 (by omega) hx
      · simp at h
theorem lfp_none {F : Nat → Nat} : ∀ {D : Nat}, lfp F D = none → ∀ x, 1 ≤ x → x ≤ D → F x ≠ x
  | 0, _, x, h1, h2 => by omega
  | D + 1, h, x, h1, h2 => by
    simp only [lfp] at h
    cases hl : lfp F D with
    | some r => rw [hl] at h; simp at h
    | none =>
      rw [hl] at h
      simp only at h
      split at h
      · simp at h
      · rename_i hne
        by_cases e : x = D + 1
        · subst e; exact hne
        · exact lfp_none hl x h1 (by omega)
/-- It is what it is: a fixed point within D that no smaller one undercuts. -/
theorem lfp_eq {F : Nat → Nat} {r D : Nat} (h1 : 1 ≤ r) (hD : r ≤ D) (hr : F r = r) (hm : ∀ x, 1 ≤ x → x < r → F x ≠ x) : lfp F D = some r := by
  cases hl : lfp F D with
  | none => exact absurd hr (lfp_none hl r h1 hD)
  | some q =>
    obtain ⟨q1, _, q3, q4⟩ := lfp_some hl
    rcases Nat.lt_trichotomy q r with h | h | h
    · exact absurd q3 (hm q q1 h)
    · rw [h]
    · exact absurd hr (q4 r h1 h)
/-- Where F does not rise above the line at r there is a fixed point at r or before. -/
theorem lfp_pre {F : Nat → Nat} {r D : Nat} (hF : ∀ x y, x ≤ y → F x ≤ F y) (h1 : ∀ x, 1 ≤ F x) (hr1 : 1 ≤ r) (hD : r ≤ D) (hr : F r ≤ r) : ∃ q, lfp F D = some q ∧ q ≤ r := by
  induction r using Nat.strongRecOn with
  | ind r ih =>
    by_cases e : F r = r
    · cases hl : lfp F D with
      | none => exact absurd e (lfp_none hl r hr1 hD)
      | some q =>
        refine ⟨q, rfl, ?_⟩
        obtain ⟨_, _, _, q4⟩ := lfp_some hl
        apply Classical.byContradiction
        intro h
        exact q4 r hr1 (by omega) e
    · obtain ⟨q, h2, h3⟩ := ih (F r) (by omega) (h1 r) (by omega) (hF _ _ hr)
      exact ⟨q, h2, by omega⟩
theorem lfp_mono {F G : Nat → Nat} {r D E : Nat} (hF : ∀ x y, x ≤ y → F x ≤ F y) (h1 : ∀ x, 1 ≤ F x) (hle : ∀ x, F x ≤ G x) (hDE : D ≤ E) (h : lfp G D = some r) : ∃ q, lfp F E = some q ∧ q ≤ r := by
  obtain ⟨r1, r2, r3, _⟩ := lfp_some h
  exact lfp_pre hF h1 r1 (by omega) (by have := hle r; omega)
/-- The iteration from below: it stays below every fixed point. -/
structure Iter (F : Nat → Nat) (r : Nat) : Prop where
  pos : 1 ≤ r
  up : r ≤ F r
  le : ∀ x, 1 ≤ x → F x ≤ x → r ≤ x
theorem Iter.step {F : Nat → Nat} {r : Nat} (h : Iter F r) (hF : ∀ x y, x ≤ y → F x ≤ F y) : Iter F (F r) :=
  ⟨Nat.le_trans h.pos h.up, hF _ _ h.up, fun x h1 hx => Nat.le_trans (hF _ _ (h.le x h1 hx)) hx⟩
theorem Iter.start {F : Nat → Nat} {c : Nat} (hc : 1 ≤ c) (h : ∀ x, c ≤ F x) : Iter F c := ⟨hc, h c, fun x _ hx => Nat.le_trans (h x) hx⟩
theorem Iter.done {F : Nat → Nat} {r D : Nat} (h : Iter F r) (hr : F r = r) (hD : r ≤ D) : lfp F D = some r :=
  lfp_eq h.pos hD hr fun x h1 h2 hx => by have := h.le x h1 (by omega); omega
theorem Iter.over {F : Nat → Nat} {r D : Nat} (h : Iter F r) (hD : D < r) : lfp F D = none := by
  cases hl : lfp F D with
  | none => rfl
  | some q =>
    obtain ⟨q1, q2, q3, _⟩ := lfp_some hl
    have := h.le q q1 (by omega)
    omega

/-! ### Interference -/
def cl (ts : List T3) (j x : Nat) : Nat := (x + per (tk ts j) - 1) / per (tk ts j) * cst (tk ts j)
/-- What the tasks of A ask in an interval of length x. -/
def wkS (ts : List T3) (A : Nat → Bool) (x : Nat) : Nat := sumN (fun j => if A j = true then cl ts j x else 0) ts.length
def rF (ts : List T3) (A : Nat → Bool) (i : Nat) : Nat → Nat := fun x => cst (tk ts i) + wkS ts A x
/-- The response time of task i below the tasks of A, if it is within the deadline. -/
def resp (ts : List T3) (A : Nat → Bool) (i : Nat) : Option Nat := lfp (rF ts A i) (dln (tk ts i))
theorem cl_mono (ts : List T3) (j : Nat) {x y : Nat} (h : x ≤ y) : cl ts j x ≤ cl ts j y := Nat.mul_le_mul_right _ (Nat.div_le_div_right (by omega))
theorem wkS_x (ts : List T3) (A : Nat → Bool) {x y : Nat} (h : x ≤ y) : wkS ts A x ≤ wkS ts A y := sumN_le fun j _ => by
  split
  · exact cl_mono ts j h
  · exact Nat.le_refl _
theorem wkS_A (ts : List T3) {A B : Nat → Bool} (h : ∀ j, j < ts.length → A j = true → B j = true) (x : Nat) : wkS ts A x ≤ wkS ts B x := sumN_le fun j hj => by
  by_cases e : A j = true
  · rw [if_pos e, if_pos (h j hj e)]
    exact Nat.le_refl _
  · rw [if_neg e]
    exact Nat.zero_le _
theorem rF_mono (ts : List T3) (A : Nat → Bool) (i : Nat) : ∀ x y, x ≤ y → rF ts A i x ≤ rF ts A i y := fun _ _ h => Nat.add_le_add_left (wkS_x ts A h) _
theorem rF_pos {ts : List T3} (hv : ts.all tv = true) (A : Nat → Bool) {i : Nat} (hi : i < ts.length) : ∀ x, 1 ≤ rF ts A i x := fun x => by
  have := (tv_bd (tk_tv hv hi)).1
  unfold rF
  omega
/-- Fewer tasks above: no later. -/
theorem resp_mono {ts : List T3} (hv : ts.all tv = true) {A B : Nat → Bool} {i r : Nat} (hi : i < ts.length) (h : ∀ j, j < ts.length → A j = true → B j = true) (hr : resp ts B i = some r) : ∃ q, resp ts A i = some q ∧ q ≤ r :=
  lfp_mono (rF_mono ts A i) (rF_pos hv A hi) (fun x => Nat.add_le_add_left (wkS_A ts h x) _) (Nat.le_refl _) hr
theorem resp_congr {ts : List T3} {A B : Nat → Bool} {i : Nat} (h : ∀ j, j < ts.length → A j = B j) : resp ts A i = resp ts B i := by
  have e : rF ts A i = rF ts B i := by
    funext x
    unfold rF wkS
    rw [sumN_eq fun j hj => by rw [h j hj]]
  unfold resp
  rw [e]
/-- The same as a sum over a list without repetitions. -/
def wkL (ts : List T3) (hs : List Nat) (x : Nat) : Nat := (hs.map fun h => cl ts h x).sum
theorem wkL_eq {ts : List T3} {x : Nat} : ∀ {hs : List Nat}, hs.Nodup → (∀ h ∈ hs, h < ts.length) → wkL ts hs x = wkS ts (fun j => decide (j ∈ hs)) x
  | [], _, _ => by
    simp only [wkL, List.map_nil, List.sum_nil, wkS]
    rw [sumN_zero]
    intro i _
    rw [if_neg (by simp)]
  | h :: hs, hnd, hlt => by
    have ih := wkL_eq (ts := ts) (x := x) (hs := hs) (List.nodup_cons.1 hnd).2 fun k hk => hlt k (List.mem_cons_of_mem _ hk)
    have hnot := (List.nodup_cons.1 hnd).1
    have e := sumN_one (f := fun j => if decide (j ∈ hs) = true then cl ts j x else 0) (g := fun j => if decide (j ∈ h :: hs) = true then cl ts j x else 0) (b := h) (x := cl ts h x) (hlt h (List.mem_cons_self ..))
      (fun i _ hne => by simp only [List.mem_cons, hne, false_or])
      (by simp [hnot])
    simp only [wkL, List.map_cons, List.sum_cons] at ih ⊢
    simp only [wkS] at ih ⊢
    rw [e, ← ih]
    omega

/-! ### Audsley's algorithm -/
/-- The last one by rank among those that U names. -/
theorem last_of {U : Nat → Bool} {rank : Nat → Nat} : ∀ {n : Nat}, (∃ i, i < n ∧ U i = true) → ∃ i, i < n ∧ U i = true ∧ ∀ j, j < n → U j = true → rank j ≤ rank i
  | 0, ⟨i, h, _⟩ => absurd h (Nat.not_lt_zero _)
  | n + 1, ⟨i, hi, hU⟩ => by
    by_cases hc : ∃ i, i < n ∧ U i = true
    · obtain ⟨k, k1, k2, k3⟩ := last_of (rank := rank) hc
      by_cases hn : U n = true ∧ rank k ≤ rank n
      · refine ⟨n, by omega, hn.1, fun j hj hj2 => ?_⟩
        by_cases e : j = n
        · subst e; exact Nat.le_refl _
        · exact Nat.le_trans (k3 j (by omega) hj2) hn.2
      · refine ⟨k, by omega, k2, fun j hj hj2 => ?_⟩
        by_cases e : j = n
        · subst e
          have : ¬ rank k ≤ rank j := fun h => hn ⟨hj2, h⟩
          omega
        · exact k3 j (by omega) hj2
    · have e : i = n := by
        apply Classical.byContradiction
        intro h
        exact hc ⟨i, by omega, hU⟩
      subst e
      refine ⟨i, by omega, hU, fun j hj hj2 => ?_⟩
      have : j = i := by
        apply Classical.byContradiction
        intro h
        exact hc ⟨j, by omega, hj2⟩
      subst this
      exact Nat.le_refl _
/-- Some order is feasible: by rank, every task within its deadline. -/
def FeasR (ts : List T3) (rank : Nat → Nat) : Prop := (∀ i j, i < ts.length → j < ts.length → rank i = rank j → i = j) ∧ ∀ i, i < ts.length → resp ts (fun j => decide (rank j < rank i)) i ≠ none
/-- Where some order is feasible, one of the tasks that are left fits below the others that are left. -/
theorem aud_some {ts : List T3} (hv : ts.all tv = true) {rank : Nat → Nat} (h : FeasR ts rank) {U : Nat → Bool} (hU : ∃ i, i < ts.length ∧ U i = true) : ∃ i, i < ts.length ∧ U i = true ∧ resp ts (fun j => U j && decide (j ≠ i)) i ≠ none := by
  obtain ⟨i, h1, h2, h3⟩ := last_of (rank := rank) hU
  refine ⟨i, h1, h2, ?_⟩
  cases hr : resp ts (fun j => decide (rank j < rank i)) i with
  | none => exact absurd hr (h.2 i h1)
  | some r =>
    obtain ⟨q, hq, _⟩ := resp_mono hv h1 (A := fun j => U j && decide (j ≠ i)) (fun j hj hA => by
      simp only [Bool.and_eq_true, decide_eq_true_eq] at hA ⊢
      have := h3 j hj hA.1
      have : rank j ≠ rank i := fun e => hA.2 (h.1 j i hj h1 e)
      omega) hr
    rw [hq]
    simp

/-! ### Deadline-monotonic priorities -/
theorem sum_without {f : Nat → Nat} {S : Nat → Bool} {m n : Nat} (hm : m < n) (hS : S m = true) : sumN (fun j => if S j = true then f j else 0) n = sumN (fun j => if (S j && decide (j ≠ m)) = true then f j else 0) n + f m :=
  sumN_one (b := m) hm (fun i _ hne => by simp [hne]) (by simp [hS])
theorem cl_one {ts : List T3} {j x : Nat} (h1 : 1 ≤ x) (hx : x ≤ per (tk ts j)) : cl ts j x = cst (tk ts j) := by
  unfold cl
  have : (x + per (tk ts j) - 1) / per (tk ts j) = 1 := by
    rw [Nat.div_eq_iff (by omega)]
    omega
  rw [this, Nat.one_mul]
/-- Job order by deadline, then by index. -/
def dmB (ts : List T3) (j i : Nat) : Bool := decide (dln (tk ts j) < dln (tk ts i) ∨ (dln (tk ts j) = dln (tk ts i) ∧ j < i))
theorem dm_best {ts : List T3} (hv : ts.all tv = true) {rank : Nat → Nat} (h : FeasR ts rank) {i : Nat} (hi : i < ts.length) : resp ts (fun j => dmB ts j i) i ≠ none := by
  obtain ⟨m, m1, m2, m3⟩ := last_of (n := ts.length) (rank := rank) (U := fun j => dmB ts j i || decide (j = i)) ⟨i, hi, by simp⟩
  have hbm := tv_bd (tk_tv hv m1)
  have hbi := tv_bd (tk_tv hv hi)
  have hdm : dln (tk ts m) ≤ dln (tk ts i) := by
    simp only [Bool.or_eq_true, dmB, decide_eq_true_eq] at m2
    rcases m2 with (h | ⟨h, _⟩) | h
    · omega
    · omega
    · rw [h]; exact Nat.le_refl _
  cases hr : resp ts (fun j => decide (rank j < rank m)) m with
  | none => exact absurd hr (h.2 m m1)
  | some r0 =>
    obtain ⟨r, hq, _⟩ := resp_mono hv m1 (A := fun j => (dmB ts j i || decide (j = i)) && decide (j ≠ m)) (fun j hj hA => by
      simp only [Bool.and_eq_true, decide_eq_true_eq] at hA ⊢
      have := m3 j hj hA.1
      have : rank j ≠ rank m := fun e => hA.2 (h.1 j m hj m1 e)
      omega) hr
    obtain ⟨r1, r2, r3, _⟩ := lfp_some hq
    have e1 := sum_without (f := fun j => cl ts j r) (S := fun j => dmB ts j i || decide (j = i)) m1 m2
    have e2 := sum_without (f := fun j => cl ts j r) (S := fun j => dmB ts j i || decide (j = i)) (m := i) hi (by simp)
    have c1 : cl ts m r = cst (tk ts m) := cl_one r1 (by omega)
    have c2 : cl ts i r = cst (tk ts i) := cl_one r1 (by omega)
    have e3 : wkS ts (fun j => dmB ts j i) r = sumN (fun j => if ((dmB ts j i || decide (j = i)) && decide (j ≠ i)) = true then cl ts j r else 0) ts.length := sumN_eq fun j hj => by
      by_cases e : j = i
      · subst e
        have : dmB ts j j = false := by simp [dmB]
        simp [this]
      · simp [e]
    have e4 : rF ts (fun j => (dmB ts j i || decide (j = i)) && decide (j ≠ m)) m r = cst (tk ts m) + sumN (fun j => if ((dmB ts j i || decide (j = i)) && decide (j ≠ m)) = true then cl ts j r else 0) ts.length := rfl
    rw [e4] at r3
    have e5 : rF ts (fun j => dmB ts j i) i r = r := by
      show cst (tk ts i) + wkS ts (fun j => dmB ts j i) r = r
      rw [e3]
      omega
    obtain ⟨q, hq2, _⟩ := lfp_pre (D := dln (tk ts i)) (rF_mono ts (fun j => dmB ts j i) i) (rF_pos hv _ hi) r1 (by omega) (Nat.le_of_eq e5)
    show lfp _ _ ≠ none
    rw [hq2]
    simp

end Go.Proofs.Ytocppoobcanhiab

namespace Go.Proofs.Ytocppoobcanhiab

/-- A pattern of jobs of tasks (tid: the task of a job) by priorities. -/
structure TPat (ts : List T3) (rank : Nat → Nat) (P : Pat) (tid : Nat → Nat) : Prop where
  key : ∀ k, P.key k = rank (tid k)
  lt : ∀ k, k < P.n → tid k < ts.length
  ex : ∀ k, k < P.n → P.ex k ≤ cst (tk ts (tid k))
  ap : ∀ j m, j < m → m < P.n → tid j = tid m → P.rel j + per (tk ts (tid m)) ≤ P.rel m
  ask : ∀ s R p, sumN (fun k => if rank (tid k) < p ∧ s ≤ P.rel k ∧ P.rel k < s + R then P.ex k else 0) P.n ≤ sumN (fun j => if rank j < p then cl ts j R else 0) ts.length
/-- Nothing is left of a job at its release plus the response time of its task. -/
theorem fix_gen {ts : List T3} {rank : Nat → Nat} {P : Pat} {tid : Nat → Nat} (hv : ts.all tv = true) (hT : TPat ts rank P tid) (hinj : ∀ i j, i < ts.length → j < ts.length → rank i = rank j → i = j) {m : Nat} (hm : m < P.n) {R : Nat}
    (hR : interf ts rank (tid m) R = R) (hd : R ≤ dln (tk ts (tid m))) : P.left (P.rel m + R) m = 0 := by
  induction m using Nat.strongRecOn with
  | ind m ih =>
    have hb := tv_bd (tk_tv hv (hT.lt m hm))
    have hold : ∀ j, j < m → tid j = tid m → ∀ u, P.rel m ≤ u → P.left u j = 0 := by
      intro j hj he u hu
      have h1 := ih j hj (by omega) (by rw [he]; exact hR) (by rw [he]; exact hd)
      have h2 := hT.ap j m hj hm he
      have h3 := P.left_mono j (show P.rel j + R ≤ u by omega)
      omega
    apply Classical.byContradiction
    intro hne
    obtain ⟨s, hs, h1, h2⟩ := P.windowA (fun k => decide (rank (tid k) < rank (tid m))) (fun i b hi hb => by
      simp only [decide_eq_true_eq] at hi ⊢
      rw [hT.key b, hT.key i] at hb
      exact Nat.lt_of_le_of_lt hb hi) (P.rel m)
    have hpos : 0 < P.left (s + R) m := by
      have := P.left_mono m (show s + R ≤ P.rel m + R by omega)
      omega
    have h3 := Pat.sumA_run (P := P) (B := fun k => decide (k = m) || (decide (rank (tid k) < rank (tid m)) && decide (P.rel k < s + R))) (s := s) (y := s + R) (by omega) (fun u hu1 hu2 => by
      by_cases hu : u < P.rel m
      · obtain ⟨b, hb1, hb2⟩ := h2 u hu1 hu
        refine ⟨b, hb1, ?_⟩
        have := (Pat.run_pos hb1).2.1
        have hr : P.rel b ≤ u := this
        simp only [decide_eq_true_eq] at hb2
        simp only [Bool.or_eq_true, Bool.and_eq_true, decide_eq_true_eq]
        exact .inr ⟨hb2, by omega⟩
      · have hlm : 0 < P.left u m := by
          have := P.left_mono m (show u ≤ s + R by omega)
          omega
        cases hb1 : P.run u with
        | none => exact absurd ⟨show P.rel m ≤ u by omega, hlm⟩ (best_none hb1 m hm)
        | some b =>
          refine ⟨b, rfl, ?_⟩
          obtain ⟨g1, g2, g3, g4⟩ := best_some hb1
          have hr : P.rel b ≤ u := g2
          have hbn : b < P.n := g1
          simp only [Bool.or_eq_true, Bool.and_eq_true, decide_eq_true_eq]
          have g5 := g4 m hm (show P.rel m ≤ u by omega) hlm
          rw [hT.key b, hT.key m] at g5
          rcases g5 with h | ⟨h, hbm⟩
          · exact .inr ⟨h, by omega⟩
          · left
            have he : tid b = tid m := hinj _ _ (hT.lt b hbn) (hT.lt m hm) h
            apply Classical.byContradiction
            intro hne2
            have := hold b (by omega) he u (by omega)
            omega)
    have h4 : 1 ≤ P.sumA (fun k => decide (k = m) || (decide (rank (tid k) < rank (tid m)) && decide (P.rel k < s + R))) (s + R) := by
      refine Nat.le_trans ?_ (sumN_mem (f := fun k => if (decide (k = m) || (decide (rank (tid k) < rank (tid m)) && decide (P.rel k < s + R))) = true then P.left (s + R) k else 0) hm)
      show 1 ≤ if _ then _ else _
      rw [if_pos (by simp)]
      omega
    have h5 : P.sumA (fun k => decide (k = m) || (decide (rank (tid k) < rank (tid m)) && decide (P.rel k < s + R))) s ≤
        sumN (fun k => if rank (tid k) < rank (tid m) ∧ s ≤ P.rel k ∧ P.rel k < s + R then P.ex k else 0) P.n + P.ex m := by
      have e := sumN_one (f := fun k => if rank (tid k) < rank (tid m) ∧ s ≤ P.rel k ∧ P.rel k < s + R then P.ex k else 0) (g := fun k => if k = m then P.ex m else if rank (tid k) < rank (tid m) ∧ s ≤ P.rel k ∧ P.rel k < s + R then P.ex k else 0) (b := m) (x := P.ex m) hm
        (fun i _ hne => by show (if i = m then _ else _) = _; rw [if_neg hne])
        (by show (if m = m then _ else _) = _; rw [if_pos rfl, if_neg (by rintro ⟨h, _⟩; omega)]; omega)
      rw [← e]
      refine sumN_le fun k hkn => ?_
      by_cases hkm : k = m
      · subst hkm
        rw [if_pos rfl, if_pos (by simp)]
        exact P.left_ex s k
      · rw [if_neg hkm]
        simp only [hkm, decide_false, Bool.false_or, Bool.and_eq_true, decide_eq_true_eq]
        by_cases hc : rank (tid k) < rank (tid m) ∧ P.rel k < s + R
        · rw [if_pos hc]
          by_cases hr : s ≤ P.rel k
          · rw [if_pos ⟨hc.1, hr, hc.2⟩]
            exact P.left_ex s k
          · have := h1 k hkn (by simpa using hc.1) (show P.rel k < s by omega)
            rw [this]
            exact Nat.zero_le _
        · rw [if_neg hc]
          exact Nat.zero_le _
    have h6 := hT.ask s R (rank (tid m))
    have h7 := hT.ex m hm
    unfold interf at hR
    simp only [cl] at h6
    omega

/-! ### The periodic pattern: M jobs of every task -/
theorem sumN_prod (f : Nat → Nat) (n : Nat) : ∀ M, sumN f (n * M) = sumN (fun j => sumN (fun q => f (n * q + j)) M) n
  | 0 => by
    rw [Nat.mul_zero]
    exact (sumN_zero (f := fun j => sumN (fun q => f (n * q + j)) 0) fun _ _ => rfl).symm
  | M + 1 => by
    have split : ∀ a b, sumN f (a + b) = sumN f a + sumN (fun j => f (a + j)) b := by
      intro a b
      induction b with
      | zero => simp [sumN]
      | succ b ih => rw [← Nat.add_assoc, sumN, ih, sumN]; omega
    rw [Nat.mul_succ, split, sumN_prod f n M]
    simp only [sumN]
    rw [sumN_add]
def perP (ts : List T3) (rank : Nat → Nat) (M : Nat) : Pat := ⟨ts.length * M, fun k => k / ts.length * per (tk ts (k % ts.length)), fun k => cst (tk ts (k % ts.length)), fun k => rank (k % ts.length)⟩
theorem mod_at {n q j : Nat} (h : j < n) : (n * q + j) % n = j ∧ (n * q + j) / n = q := by
  constructor
  · rw [Nat.mul_add_mod]; exact Nat.mod_eq_of_lt h
  · rw [Nat.mul_add_div (by omega)]
    rw [Nat.div_eq_of_lt h]
    omega
theorem cnt_win (p s y : Nat) : ∀ M, sumN (fun q => if s ≤ q * p ∧ q * p < y then 1 else 0) M = 0 ∨
    (1 ≤ sumN (fun q => if s ≤ q * p ∧ q * p < y then 1 else 0) M ∧ s + sumN (fun q => if s ≤ q * p ∧ q * p < y then 1 else 0) M * p ≤ M * p ∧ s + (sumN (fun q => if s ≤ q * p ∧ q * p < y then 1 else 0) M - 1) * p < y)
  | 0 => .inl rfl
  | M + 1 => by
    have ih := cnt_win p s y M
    have e : sumN (fun q => if s ≤ q * p ∧ q * p < y then 1 else 0) (M + 1) = sumN (fun q => if s ≤ q * p ∧ q * p < y then 1 else 0) M + if s ≤ M * p ∧ M * p < y then 1 else 0 := rfl
    rw [e]
    generalize sumN (fun q => if s ≤ q * p ∧ q * p < y then 1 else 0) M = c at ih ⊢
    have e2 : (M + 1) * p = M * p + p := Nat.succ_mul M p
    by_cases hc : s ≤ M * p ∧ M * p < y
    · rw [if_pos hc]
      refine .inr ⟨by omega, ?_, ?_⟩
      · rw [Nat.succ_mul, e2]
        rcases ih with h | ⟨_, h, _⟩
        · subst h; omega
        · omega
      · rw [Nat.add_sub_cancel]
        rcases ih with h | ⟨_, h, _⟩
        · subst h; omega
        · omega
    · rw [if_neg hc, Nat.add_zero]
      rcases ih with h | ⟨h1, h2, h3⟩
      · exact .inl h
      · exact .inr ⟨h1, by omega, h3⟩
theorem cnt_le {p s R : Nat} (hp : 1 ≤ p) (M : Nat) : sumN (fun q => if s ≤ q * p ∧ q * p < s + R then 1 else 0) M ≤ (R + p - 1) / p := by
  rcases cnt_win p s (s + R) M with h | ⟨h1, _, h3⟩
  · rw [h]
    exact Nat.zero_le _
  · rw [Nat.le_div_iff_mul_le (by omega)]
    generalize sumN (fun q => if s ≤ q * p ∧ q * p < s + R then 1 else 0) M = c at h1 h3 ⊢
    have : c * p = (c - 1) * p + p := by
      rw [← Nat.succ_mul]
      congr 1
      omega
    omega
theorem sumN_mul (f : Nat → Nat) (c : Nat) : ∀ n, sumN (fun i => f i * c) n = sumN f n * c
  | 0 => by simp [sumN]
  | n + 1 => by simp only [sumN]; rw [sumN_mul f c n, Nat.add_mul]
theorem perP_tpat {ts : List T3} (hv : ts.all tv = true) (rank : Nat → Nat) (M : Nat) : TPat ts rank (perP ts rank M) (fun k => k % ts.length) := by
  have hpos : ∀ k, k < ts.length * M → 0 < ts.length := fun k hk => by
    rcases Nat.eq_zero_or_pos ts.length with h | h
    · rw [h, Nat.zero_mul] at hk; omega
    · exact h
  refine ⟨fun _ => rfl, fun k hk => Nat.mod_lt _ (hpos k hk), fun _ _ => Nat.le_refl _, fun j m hj hm he => ?_, fun s R p => ?_⟩
  · show j / ts.length * per (tk ts (j % ts.length)) + per (tk ts (m % ts.length)) ≤ m / ts.length * per (tk ts (m % ts.length))
    have he' : j % ts.length = m % ts.length := he
    rw [he', ← Nat.succ_mul]
    refine Nat.mul_le_mul_right _ ?_
    have h1 := Nat.div_add_mod j ts.length
    have h2 := Nat.div_add_mod m ts.length
    apply Classical.byContradiction
    intro hn
    have h3 : m / ts.length ≤ j / ts.length := by omega
    have := Nat.mul_le_mul_left ts.length h3
    omega
  · show sumN (fun k => if rank (k % ts.length) < p ∧ s ≤ k / ts.length * per (tk ts (k % ts.length)) ∧ k / ts.length * per (tk ts (k % ts.length)) < s + R then cst (tk ts (k % ts.length)) else 0) (ts.length * M) ≤ _
    rw [sumN_prod]
    refine sumN_le fun j hj => ?_
    have hb := tv_bd (tk_tv hv hj)
    have e : sumN (fun q => if rank ((ts.length * q + j) % ts.length) < p ∧ s ≤ (ts.length * q + j) / ts.length * per (tk ts ((ts.length * q + j) % ts.length)) ∧ (ts.length * q + j) / ts.length * per (tk ts ((ts.length * q + j) % ts.length)) < s + R then cst (tk ts ((ts.length * q + j) % ts.length)) else 0) M
        = sumN (fun q => if rank j < p ∧ s ≤ q * per (tk ts j) ∧ q * per (tk ts j) < s + R then cst (tk ts j) else 0) M := sumN_eq fun q _ => by
      obtain ⟨e1, e2⟩ := mod_at (q := q) hj
      rw [e1, e2]
    rw [e]
    by_cases hr : rank j < p
    · rw [if_pos hr]
      have e2 : sumN (fun q => if rank j < p ∧ s ≤ q * per (tk ts j) ∧ q * per (tk ts j) < s + R then cst (tk ts j) else 0) M = sumN (fun q => (if s ≤ q * per (tk ts j) ∧ q * per (tk ts j) < s + R then 1 else 0) * cst (tk ts j)) M := sumN_eq fun q _ => by
        by_cases hc : s ≤ q * per (tk ts j) ∧ q * per (tk ts j) < s + R
        · rw [if_pos ⟨hr, hc⟩, if_pos hc, Nat.one_mul]
        · rw [if_neg (fun h => hc h.2), if_neg hc, Nat.zero_mul]
      rw [e2, sumN_mul]
      exact Nat.mul_le_mul_right _ (cnt_le (by omega) M)
    · rw [if_neg hr, sumN_zero fun q _ => if_neg fun h => hr h.1]
      exact Nat.le_refl _
theorem cnt_due {p d x : Nat} (hp : 1 ≤ p) : ∀ {M : Nat}, sumN (fun q => if q * p + d ≤ x then 1 else 0) M = if d ≤ x then min M ((x - d) / p + 1) else 0
  | 0 => by simp [sumN]
  | M + 1 => by
    have e : sumN (fun q => if q * p + d ≤ x then 1 else 0) (M + 1) = sumN (fun q => if q * p + d ≤ x then 1 else 0) M + if M * p + d ≤ x then 1 else 0 := rfl
    rw [e, cnt_due hp]
    by_cases hd : d ≤ x
    · rw [if_pos hd, if_pos hd]
      have key : M * p + d ≤ x ↔ M ≤ (x - d) / p := by
        rw [Nat.le_div_iff_mul_le (by omega)]
        omega
      by_cases hm : M ≤ (x - d) / p
      · rw [if_pos (key.2 hm)]
        omega
      · rw [if_neg (fun h => hm (key.1 h))]
        omega
    · rw [if_neg hd, if_neg hd, if_neg (by omega)]
/-- A set that is schedulable by priorities asks no more than fits. -/
theorem fix_dem {ts : List T3} (hv : ts.all tv = true) {rank : Nat → Nat} (hinj : ∀ i j, i < ts.length → j < ts.length → rank i = rank j → i = j)
    (hR : ∀ i, i < ts.length → ∃ R, interf ts rank i R = R ∧ R ≤ dln (tk ts i)) (x : Nat) : dem ts x ≤ x := by
  apply Classical.byContradiction
  intro hn
  have ho : x < sumN (fun k => if k / ts.length * per (tk ts (k % ts.length)) + dln (tk ts (k % ts.length)) ≤ x then (perP ts rank (x + 1)).ex k else 0) (perP ts rank (x + 1)).n := by
    have e : sumN (fun k => if k / ts.length * per (tk ts (k % ts.length)) + dln (tk ts (k % ts.length)) ≤ x then (perP ts rank (x + 1)).ex k else 0) (perP ts rank (x + 1)).n = dem ts x := by
      show sumN (fun k => if k / ts.length * per (tk ts (k % ts.length)) + dln (tk ts (k % ts.length)) ≤ x then cst (tk ts (k % ts.length)) else 0) (ts.length * (x + 1)) = _
      rw [sumN_prod, sum_dem]
      refine sumN_eq fun j hj => ?_
      have hb := tv_bd (tk_tv hv hj)
      have e : sumN (fun q => if (ts.length * q + j) / ts.length * per (tk ts ((ts.length * q + j) % ts.length)) + dln (tk ts ((ts.length * q + j) % ts.length)) ≤ x then cst (tk ts ((ts.length * q + j) % ts.length)) else 0) (x + 1)
          = sumN (fun q => (if q * per (tk ts j) + dln (tk ts j) ≤ x then 1 else 0) * cst (tk ts j)) (x + 1) := sumN_eq fun q _ => by
        obtain ⟨e1, e2⟩ := mod_at (q := q) hj
        rw [e1, e2]
        split <;> omega
      rw [e, sumN_mul, cnt_due (by omega)]
      unfold dem1
      by_cases hd : dln (tk ts j) ≤ x
      · rw [if_pos hd, if_pos hd]
        have : (x - dln (tk ts j)) / per (tk ts j) ≤ x - dln (tk ts j) := Nat.div_le_self _ _
        rw [Nat.min_eq_right (by omega)]
      · rw [if_neg hd, if_neg hd, Nat.zero_mul]
    rw [e]
    omega
  obtain ⟨k, h1, _, h3⟩ := Pat.over (perP ts rank (x + 1)) (dl := fun k => k / ts.length * per (tk ts (k % ts.length)) + dln (tk ts (k % ts.length))) ho
  have hT := perP_tpat hv rank (x + 1)
  obtain ⟨R, hr1, hr2⟩ := hR (k % ts.length) (hT.lt k h1)
  have h4 := fix_gen hv hT hinj h1 hr1 hr2
  have h5 := (perP ts rank (x + 1)).left_mono k (show (perP ts rank (x + 1)).rel k + R ≤ k / ts.length * per (tk ts (k % ts.length)) + dln (tk ts (k % ts.length)) from Nat.add_le_add_left hr2 _)
  omega
theorem interf_rF (ts : List T3) (rank : Nat → Nat) (i x : Nat) : interf ts rank i x = rF ts (fun j => decide (rank j < rank i)) i x := by
  unfold interf rF wkS
  congr 1
  exact sumN_eq fun j _ => by simp only [decide_eq_true_eq, cl]
/-- Promise 54. -/
theorem feas_edf {ts : List T3} (hs : svB ts = true) {rank : Nat → Nat} (h : FeasR ts rank) : edf ts = true := by
  refine edf_iff.2 ⟨hs, fun t _ _ => fix_dem (all_of_sv hs) h.1 (fun i hi => ?_) t⟩
  cases hr : resp ts (fun j => decide (rank j < rank i)) i with
  | none => exact absurd hr (h.2 i hi)
  | some r =>
    obtain ⟨_, r2, r3, _⟩ := lfp_some hr
    exact ⟨r, (interf_rF ts rank i r).trans r3, r2⟩

end Go.Proofs.Ytocppoobcanhiab

namespace Go.Proofs.Ytocppoobcanhiab

/-- The work of the jobs of the tasks of A. -/
def exA (A : Nat → Bool) (o : List J4) : Nat := sumN (fun k => if A (jid o k) = true then jex o k else 0) o.length
theorem jid_app {o : List J4} {x : J4} {k : Nat} (h : k < o.length) : jid (o ++ [x]) k = jid o k ∧ jex (o ++ [x]) k = jex o k := by simp only [jid, jex, jb_app h, and_self]
theorem jid_last (o : List J4) (x : J4) : jid (o ++ [x]) o.length = x.1.toNat ∧ jex (o ++ [x]) o.length = x.2.2.2.toNat := by simp only [jid, jex, jb_last, and_self]
theorem jid_left {o tl : List J4} {k : Nat} (h : k < o.length) : jid (o ++ tl) k = jid o k ∧ jex (o ++ tl) k = jex o k ∧ jrel (o ++ tl) k = jrel o k := by
  have e : jb (o ++ tl) k = jb o k := by simp [jb, List.getD, List.getElem?_append_left h]
  simp only [jid, jex, jrel, e, and_self]
theorem syJ_at (ts : List T3) (t i : Nat) : (syJ ts t i).1.toNat = i ∧ (syJ ts t i).2.2.2.toNat = cst (tk ts i) := ⟨Int.toNat_natCast i, rfl⟩
theorem exA_app (A : Nat → Bool) (o : List J4) (x : J4) : exA A (o ++ [x]) = exA A o + if A x.1.toNat = true then x.2.2.2.toNat else 0 := by
  unfold exA
  rw [List.length_append, List.length_singleton]
  simp only [sumN]
  congr 1
  · exact sumN_eq fun i hi => by rw [(jid_app hi).1, (jid_app hi).2]
  · rw [(jid_last o x).1, (jid_last o x).2]
theorem syI_exA (A : Nat → Bool) (ts : List T3) (L t : Nat) (o : List J4) : ∀ {i : Nat}, (syI ts L t o i).length < 60 → exA A (syI ts L t o i) = exA A o + sumN (fun m => if A m = true then (if syC ts L t m = true then cst (tk ts m) else 0) else 0) i
  | 0, _ => by simp [syI, sumN]
  | i + 1, h => by
    have hl : (syI ts L t o i).length < 60 := Nat.lt_of_le_of_lt (syI_len ts L t o (Nat.le_succ i)) h
    have ih := syI_exA A ts L t o (i := i) hl
    simp only [syI, sumN]
    by_cases hc : syC ts L t i = true
    · rw [if_pos ⟨hc, hl⟩, exA_app, ih, (syJ_at ts t i).1, (syJ_at ts t i).2, if_pos hc]
      omega
    · rw [if_neg (by rintro ⟨h, _⟩; exact hc h), ih, if_neg hc]
      simp
theorem sy_exA (A : Nat → Bool) (ts : List T3) (L : Nat) : ∀ {t : Nat}, (sy ts L t).length < 60 → exA A (sy ts L t) = sumN (fun i => if A i = true then syN ts L i t * cst (tk ts i) else 0) ts.length
  | 0, _ => by
    rw [sumN_zero fun i _ => by simp [syN, sumN]]
    rfl
  | t + 1, h => by
    have ih := sy_exA A ts L (t := t) (Nat.lt_of_le_of_lt (sy_len ts L t) h)
    have e := syI_exA A ts L t (sy ts L t) (i := ts.length) h
    show exA A (syI ts L t (sy ts L t) ts.length) = _
    rw [e, ih, ← sumN_add]
    refine sumN_eq fun i _ => ?_
    have : syN ts L i (t + 1) = syN ts L i t + if syC ts L t i = true then 1 else 0 := rfl
    rw [this, Nat.add_mul]
    by_cases hA : A i = true
    · rw [if_pos hA, if_pos hA, if_pos hA]
      split <;> simp
    · rw [if_neg hA, if_neg hA, if_neg hA]
theorem syI_le (ts : List T3) (L t : Nat) (o : List J4) : ∀ {i : Nat}, exs (syI ts L t o i) ≤ exs o + sumN (fun m => if syC ts L t m = true then cst (tk ts m) else 0) i
  | 0 => by simp [syI, sumN]
  | i + 1 => by
    have ih := syI_le ts L t o (i := i)
    simp only [syI, sumN]
    split
    · rename_i hc
      rw [exs_app, if_pos hc.1, (syJ_at ts t i).2]
      omega
    · omega
theorem sy_le (ts : List T3) (L : Nat) : ∀ {t : Nat}, exs (sy ts L t) ≤ sumN (fun i => syN ts L i t * cst (tk ts i)) ts.length
  | 0 => by simp [sy, exs, sumN]
  | t + 1 => by
    have ih := sy_le ts L (t := t)
    have e := syI_le ts L t (sy ts L t) (i := ts.length)
    show exs (syI ts L t (sy ts L t) ts.length) ≤ _
    have e2 : sumN (fun i => syN ts L i (t + 1) * cst (tk ts i)) ts.length = sumN (fun i => syN ts L i t * cst (tk ts i)) ts.length + sumN (fun m => if syC ts L t m = true then cst (tk ts m) else 0) ts.length := by
      rw [← sumN_add]
      refine sumN_eq fun i _ => ?_
      have : syN ts L i (t + 1) = syN ts L i t + if syC ts L t i = true then 1 else 0 := rfl
      rw [this, Nat.add_mul]
      split <;> simp
    omega
theorem len_le_exs {ts : List T3} {o : List J4} (hv : ts.all tv = true) (h : ∀ k, k < o.length → Leg1 ts o k) : o.length ≤ exs o := by
  have : sumN (fun _ => 1) o.length ≤ exs o := sumN_le fun k hk => ((h k hk).nat hv).2.2.2.2.2.1
  have e : ∀ n, sumN (fun _ => 1) n = n := fun n => by
    induction n with
    | zero => rfl
    | succ n ih => simp only [sumN]; omega
  rw [e] at this
  exact this
/-- In its first twelve ticks the synchronous pattern of a feasible set is not cut off. -/
theorem sy_short {ts : List T3} (h : edf ts = true) {x : Nat} (hx : x ≤ 12) : (sy ts 60 x).length < 60 := by
  have hs := (edf_iff.1 h).1
  have hv := all_of_sv hs
  have h1 := len_le_exs hv (sy_sy hv (show 60 ≤ 120 by omega) (t := x) (by omega)).leg
  have h2 := sy_le ts 60 (t := x)
  have h3 : sumN (fun i => syN ts 60 i x * cst (tk ts i)) ts.length ≤ dem ts (x + 12) := by
    rw [sum_dem]
    refine sumN_le fun i hi => ?_
    have hb := tv_bd (tk_tv hv hi)
    rw [syN_eq (by omega) (by omega) (by omega)]
    unfold dem1
    rw [if_pos (by omega)]
    refine Nat.mul_le_mul_right _ ?_
    have e : (x + per (tk ts i) - 1) / per (tk ts i) ≤ (x + 12 - dln (tk ts i) + per (tk ts i)) / per (tk ts i) := Nat.div_le_div_right (by omega)
    rwa [Nat.add_div_right _ (by omega)] at e
  have h4 := edf_any h (x + 12)
  omega
theorem syI_app (ts : List T3) (L t : Nat) (o : List J4) : ∀ i, ∃ tl, syI ts L t o i = o ++ tl
  | 0 => ⟨[], by simp [syI]⟩
  | i + 1 => by
    obtain ⟨tl, h⟩ := syI_app ts L t o i
    simp only [syI]
    split
    · exact ⟨tl ++ [syJ ts t i], by rw [h, List.append_assoc]⟩
    · exact ⟨tl, h⟩
theorem sy_app (ts : List T3) (L : Nat) {x : Nat} : ∀ {t : Nat}, x ≤ t → ∃ tl, sy ts L t = sy ts L x ++ tl
  | 0, h => by obtain rfl : x = 0 := by omega
               exact ⟨[], by simp⟩
  | t + 1, h => by
    by_cases e : x = t + 1
    · subst e; exact ⟨[], by simp⟩
    · obtain ⟨tl, h1⟩ := sy_app ts L (x := x) (t := t) (by omega)
      obtain ⟨tl2, h2⟩ := syI_app ts L t (sy ts L t) ts.length
      exact ⟨tl ++ tl2, by show syI ts L t (sy ts L t) ts.length = _; rw [h2, h1, List.append_assoc]⟩
theorem sumN_part {f : Nat → Nat} {a : Nat} : ∀ {n : Nat}, a ≤ n → sumN f a ≤ sumN f n
  | 0, h => by obtain rfl : a = 0 := by omega
               exact Nat.le_refl _
  | n + 1, h => by
    by_cases e : a = n + 1
    · subst e; exact Nat.le_refl _
    · have := sumN_part (f := f) (a := a) (n := n) (by omega)
      simp only [sumN]
      omega
/-- What higher tasks ask in the first x ticks of the synchronous pattern. -/
theorem sy_asks {ts : List T3} (h : edf ts = true) (A : Nat → Bool) {x : Nat} (hx : x ≤ 12) :
    wkS ts A x ≤ sumN (fun k => if A (jid (sy ts 60 60) k) = true ∧ jrel (sy ts 60 60) k < x then jex (sy ts 60 60) k else 0) (sy ts 60 60).length := by
  have hs := (edf_iff.1 h).1
  have hv := all_of_sv hs
  obtain ⟨tl, e⟩ := sy_app ts 60 (x := x) (t := 60) (by omega)
  have h1 := sy_exA A ts 60 (sy_short h hx)
  have hS := sy_sy hv (show 60 ≤ 120 by omega) (t := x) (by omega)
  have h2 : wkS ts A x = exA A (sy ts 60 x) := by
    rw [h1]
    unfold wkS
    refine sumN_eq fun i hi => ?_
    have hb := tv_bd (tk_tv hv hi)
    rw [syN_eq (by omega) (by omega) (by omega)]
    rfl
  rw [h2, e]
  refine Nat.le_trans (Nat.le_of_eq (sumN_eq fun k hk => ?_)) (sumN_part (a := (sy ts 60 x).length) (by simp))
  obtain ⟨e1, e2, e3⟩ := jid_left (tl := tl) hk
  have hr : jrel (sy ts 60 x ++ tl) k < x := by
    rw [e3]
    simp only [jrel]
    rcases hS.last k hk with h | ⟨_, h⟩
    · have := ((hS.leg k hk).2.1).1
      omega
    · have := ((hS.leg k hk).1).1
      omega
  rw [e1, e2]
  by_cases hA : A (jid (sy ts 60 x) k) = true
  · rw [if_pos hA, if_pos ⟨hA, hr⟩]
  · rw [if_neg hA, if_neg (fun h => hA h.1)]
/-- The first job of a task is not finished before its response time. -/
theorem crit_lo {ts : List T3} (hs : svB ts = true) {rank : Nat → Nat} (hf : FeasR ts rank) {m : Nat} (hm : m < (sy ts 60 60).length) (h0 : jrel (sy ts 60 60) m = 0) {R : Nat}
    (hR : resp ts (fun j => decide (rank j < rank (jid (sy ts 60 60) m))) (jid (sy ts 60 60) m) = some R) {x : Nat} (hx : x < R) : 0 < (fixP (sy ts 60 60) rank).left x m := by
  have he := feas_edf hs hf
  have hv := all_of_sv hs
  have hS := sy_sy hv (show 60 ≤ 120 by omega) (Nat.le_refl 60)
  have hL := (hS.leg m hm).nat hv
  have hb := tv_bd hL.2.1
  obtain ⟨r1, r2, r3, r4⟩ := lfp_some hR
  have hex : jex (sy ts 60 60) m = cst (tk ts (jid (sy ts 60 60) m)) := by simp only [jex, cst]; rw [(hS.dl m hm).2]
  apply Classical.byContradiction
  intro hn
  -- the first time at which it is finished
  have hfirst : ∀ y, (fixP (sy ts 60 60) rank).left y m = 0 → ∃ t, t < y ∧ (fixP (sy ts 60 60) rank).run t = some m ∧ (fixP (sy ts 60 60) rank).left (t + 1) m = 0 := by
    intro y
    induction y with
    | zero => intro h; have : (fixP (sy ts 60 60) rank).left 0 m = jex (sy ts 60 60) m := rfl; omega
    | succ y ih =>
      intro h
      by_cases hy : (fixP (sy ts 60 60) rank).left y m = 0
      · obtain ⟨t, a, b⟩ := ih hy
        exact ⟨t, by omega, b⟩
      · refine ⟨y, by omega, ?_, h⟩
        rw [Pat.left_succ] at h
        split at h
        · assumption
        · exact absurd h hy
  obtain ⟨t, ht, hrun, hz⟩ := hfirst x (by omega)
  obtain ⟨_, _, _, hbest⟩ := best_some hrun
  have hw := (fixP (sy ts 60 60) rank).work_le (fun k => decide (k = m) || (decide (rank (jid (sy ts 60 60) k) < rank (jid (sy ts 60 60) m)) && decide (jrel (sy ts 60 60) k < t + 1))) (Nat.zero_le (t + 1))
  have hz2 : (fixP (sy ts 60 60) rank).sumA (fun k => decide (k = m) || (decide (rank (jid (sy ts 60 60) k) < rank (jid (sy ts 60 60) m)) && decide (jrel (sy ts 60 60) k < t + 1))) (t + 1) = 0 := sumN_zero fun k hk => by
    simp only [Bool.or_eq_true, Bool.and_eq_true, decide_eq_true_eq]
    split
    · rename_i hc
      rcases hc with rfl | ⟨c1, c2⟩
      · exact hz
      · have hl0 : (fixP (sy ts 60 60) rank).left t k = 0 := by
          apply Classical.byContradiction
          intro hne
          rcases hbest k hk (show jrel (sy ts 60 60) k ≤ t by omega) (by omega) with h | ⟨h, _⟩
          · have h' : rank (jid (sy ts 60 60) m) < rank (jid (sy ts 60 60) k) := h
            omega
          · have h' : rank (jid (sy ts 60 60) m) = rank (jid (sy ts 60 60) k) := h
            omega
        have := (fixP (sy ts 60 60) rank).left_le t k
        omega
    · rfl
  have hsum : sumN (fun k => if decide (rank (jid (sy ts 60 60) k) < rank (jid (sy ts 60 60) m)) = true ∧ jrel (sy ts 60 60) k < t + 1 then jex (sy ts 60 60) k else 0) (sy ts 60 60).length + jex (sy ts 60 60) m
      = (fixP (sy ts 60 60) rank).sumA (fun k => decide (k = m) || (decide (rank (jid (sy ts 60 60) k) < rank (jid (sy ts 60 60) m)) && decide (jrel (sy ts 60 60) k < t + 1))) 0 := by
    refine (sumN_one (b := m) hm (fun i _ hne => ?_) ?_).symm
    · simp only [hne, decide_false, Bool.false_or, Bool.and_eq_true, decide_eq_true_eq]
      rfl
    · simp only [decide_true, Bool.true_or, if_true, decide_eq_true_eq]
      rw [if_neg (by rintro ⟨h, _⟩; omega)]
      show jex (sy ts 60 60) m = _
      omega
  have hask := sy_asks he (fun j => decide (rank j < rank (jid (sy ts 60 60) m))) (x := t + 1) (by omega)
  have hle : rF ts (fun j => decide (rank j < rank (jid (sy ts 60 60) m))) (jid (sy ts 60 60) m) (t + 1) ≤ t + 1 := by
    show cst _ + wkS _ _ _ ≤ _
    omega
  obtain ⟨q, hq, hq2⟩ := lfp_pre (D := dln (tk ts (jid (sy ts 60 60) m))) (rF_mono ts _ _) (rF_pos hv _ hL.1) (by omega) (by omega) hle
  have : some q = some R := hq.symm.trans hR
  simp only [Option.some.injEq] at this
  omega

end Go.Proofs.Ytocppoobcanhiab

namespace Go.Proofs.Ytocppoobcanhiab

/-! ### Lower priorities do not disturb -/
theorem best_is {rel left key : Nat → Nat} {now b n : Nat} (hb : b < n) (hr : rel b ≤ now) (hl : 0 < left b) (hm : ∀ i, i < n → rel i ≤ now → 0 < left i → key b < key i ∨ (key b = key i ∧ b ≤ i)) : best rel left key now n = some b := by
  cases h : best rel left key now n with
  | none => exact absurd ⟨hr, hl⟩ (best_none h b hb)
  | some c =>
    obtain ⟨c1, c2, c3, c4⟩ := best_some h
    have h1 := hm c c1 c2 c3
    have h2 := c4 b hb hr hl
    congr 1
    omega
/-- Q's jobs are some of P's, in their order; P's others come behind all of them. -/
theorem Pat.sub {P Q : Pat} {σ : Nat → Nat} (hσ : ∀ a b, a < b → b < Q.n → σ a < σ b) (hn : ∀ k, k < Q.n → σ k < P.n) (h : ∀ k, k < Q.n → P.rel (σ k) = Q.rel k ∧ P.ex (σ k) = Q.ex k ∧ P.key (σ k) = Q.key k)
    (hlow : ∀ i, i < P.n → (∀ k, k < Q.n → σ k ≠ i) → ∀ k, k < Q.n → Q.key k < P.key i) (t : Nat) : ∀ k, k < Q.n → P.left t (σ k) = Q.left t k ∧ P.fin t (σ k) = Q.fin t k := by
  have inj : ∀ a b, a < Q.n → b < Q.n → σ a = σ b → a = b := fun a b ha hb e => by
    rcases Nat.lt_trichotomy a b with h | h | h
    · have := hσ a b h hb; omega
    · exact h
    · have := hσ b a h ha; omega
  have mono : ∀ a b, a ≤ b → b < Q.n → σ a ≤ σ b := fun a b hab hb => by
    rcases Nat.lt_or_eq_of_le hab with h | h
    · exact Nat.le_of_lt (hσ a b h hb)
    · rw [h]; exact Nat.le_refl _
  induction t with
  | zero => exact fun k hk => ⟨(h k hk).2.1, rfl⟩
  | succ t ih =>
    have run : ∀ k, k < Q.n → (P.run t = some (σ k) ↔ Q.run t = some k) := by
      intro k hk
      cases hq : Q.run t with
      | none =>
        refine ⟨fun hp => ?_, fun h => by simp at h⟩
        obtain ⟨p1, p2, p3⟩ := Pat.run_pos hp
        exact absurd ⟨by rw [← (h k hk).1]; exact p2, by rw [← (ih k hk).1]; exact p3⟩ (best_none hq k hk)
      | some b =>
        obtain ⟨b1, b2, b3, b4⟩ := best_some hq
        have hp : P.run t = some (σ b) := best_is (hn b b1) (by rw [(h b b1).1]; exact b2) (by rw [(ih b b1).1]; exact b3) fun i hi h2 h3 => by
          by_cases hc : ∃ c, c < Q.n ∧ σ c = i
          · obtain ⟨c, hc1, rfl⟩ := hc
            rw [(h b b1).2.2, (h c hc1).2.2]
            rcases b4 c hc1 (by rw [← (h c hc1).1]; exact h2) (by rw [← (ih c hc1).1]; exact h3) with e | ⟨e, e2⟩
            · exact .inl e
            · exact .inr ⟨e, mono b c e2 hc1⟩
          · have := hlow i hi (fun c hc1 e => hc ⟨c, hc1, e⟩) b b1
            rw [(h b b1).2.2]
            exact .inl this
        rw [hp]
        constructor
        · intro e
          simp only [Option.some.injEq] at e
          rw [inj b k b1 hk e]
        · intro e
          simp only [Option.some.injEq] at e
          rw [e]
    intro k hk
    have e1 : P.left (t + 1) (σ k) = Q.left (t + 1) k := by
      rw [P.left_succ, Q.left_succ, (ih k hk).1]
      by_cases hr : Q.run t = some k
      · rw [if_pos hr, if_pos ((run k hk).2 hr)]
      · rw [if_neg hr, if_neg (fun e => hr ((run k hk).1 e))]
    refine ⟨e1, ?_⟩
    rw [P.fin_succ, Q.fin_succ, e1, (ih k hk).2]
    by_cases hr : Q.run t = some k ∧ Q.left (t + 1) k = 0
    · rw [if_pos hr, if_pos ⟨(run k hk).2 hr.1, hr.2⟩]
    · rw [if_neg hr, if_neg (fun e => hr ⟨(run k hk).1 e.1, e.2⟩)]

/-! ### Orders -/
/-- A permutation of the indices of a valid set. -/
def ordB (ts : List T3) (os : List Int) : Bool := svB ts && decide (os.length = ts.length) && decide (∀ x ∈ os, 0 ≤ x ∧ x < ts.length) && decide os.Nodup
theorem ordB_iff {ts : List T3} {os : List Int} : ordB ts os = true ↔ svB ts = true ∧ os.length = ts.length ∧ (∀ x ∈ os, 0 ≤ x ∧ x < ts.length) ∧ os.Nodup := by
  simp only [ordB, Bool.and_eq_true, decide_eq_true_eq, and_assoc]
theorem len_le_of_nodup : ∀ (n : Nat) (l : List Int), l.Nodup → (∀ x ∈ l, 0 ≤ x ∧ x < n) → l.length ≤ n
  | 0, l, _, h => by
    cases l with
    | nil => simp
    | cons x l => have := h x (List.mem_cons_self ..); omega
  | n + 1, l, hnd, h => by
    by_cases hm : (n : Int) ∈ l
    · have ih := len_le_of_nodup n (l.erase (n : Int)) (hnd.erase _) (fun x hx => by
        have h1 := h x (List.mem_of_mem_erase hx)
        have h2 : x ≠ (n : Int) := fun e => by rw [e] at hx; exact hnd.not_mem_erase hx
        omega)
      rw [List.length_erase_of_mem hm] at ih
      omega
    · have ih := len_le_of_nodup n l hnd (fun x hx => by
        have h1 := h x hx
        have h2 : x ≠ (n : Int) := fun e => hm (e ▸ hx)
        omega)
      omega
theorem ord_all {ts : List T3} {os : List Int} (h : ordB ts os = true) {i : Nat} (hi : i < ts.length) : (i : Int) ∈ os := by
  obtain ⟨_, h1, h2, h3⟩ := ordB_iff.1 h
  apply Classical.byContradiction
  intro hn
  have := len_le_of_nodup ts.length ((i : Int) :: os) (List.nodup_cons.2 ⟨hn, h3⟩) (fun x hx => by
    rcases List.mem_cons.1 hx with e | e
    · subst e; omega
    · exact h2 x e)
  simp only [List.length_cons] at this
  omega
/-- The place of a task in an order. -/
def rk (os : List Int) (i : Nat) : Nat := os.idxOf (i : Int)
theorem rk_lt {os : List Int} {i : Nat} (h : (i : Int) ∈ os) : rk os i < os.length := List.idxOf_lt_length_of_mem h
theorem rk_at {os : List Int} {i : Nat} (h : (i : Int) ∈ os) : os[rk os i]? = some (i : Int) := by
  have hl := rk_lt h
  rw [List.getElem?_eq_getElem hl]
  congr 1
  exact List.getElem_idxOf hl
theorem rk_inj {ts : List T3} {os : List Int} (h : ordB ts os = true) : ∀ i j, i < ts.length → j < ts.length → rk os i = rk os j → i = j := fun i j hi hj e => by
  have h1 := rk_at (ord_all h hi)
  have h2 := rk_at (ord_all h hj)
  rw [e, h2] at h1
  simp only [Option.some.injEq] at h1
  omega
/-- Before place k lie the tasks of smaller rank. -/
theorem mem_take {os : List Int} (hnd : os.Nodup) {k j : Nat} (hj : (j : Int) ∈ os) : (j : Int) ∈ os.take k ↔ rk os j < k := by
  constructor
  · intro h
    obtain ⟨p, hp, e⟩ := List.getElem_of_mem h
    rw [List.getElem_take] at e
    have hp' : p < k ∧ p < os.length := by rw [List.length_take] at hp; omega
    have h1 := rk_at hj
    have h2 : os[p]? = some (j : Int) := by rw [List.getElem?_eq_getElem hp'.2, e]
    have h3 := (List.getElem?_inj hp'.2 hnd).1 (h2.trans h1.symm)
    omega
  · intro h
    have h1 := rk_at hj
    have h2 : (os.take k)[rk os j]? = some (j : Int) := by rw [List.getElem?_take_of_lt h]; exact h1
    exact List.mem_of_getElem? h2
/-- The response time of the task at place k. -/
def rspO (ts : List T3) (os : List Int) (k : Nat) : Option Nat := resp ts (fun j => decide ((j : Int) ∈ os.take k)) (os.getD k 0).toNat
theorem rspO_rk {ts : List T3} {os : List Int} (h : ordB ts os = true) {i : Nat} (hi : i < ts.length) : rspO ts os (rk os i) = resp ts (fun j => decide (rk os j < rk os i)) i := by
  have h1 := rk_at (ord_all h hi)
  unfold rspO
  rw [List.getD, h1]
  show resp ts _ ((i : Int)).toNat = _
  rw [Int.toNat_natCast]
  exact resp_congr fun j hj => by
    rw [decide_eq_decide]
    exact mem_take (ordB_iff.1 h).2.2.2 (ord_all h hj)
/-- Feasible in this order. -/
def fixB (ts : List T3) (os : List Int) : Bool := ordB ts os && (List.range os.length).all fun k => (rspO ts os k).isSome
theorem fixB_iff {ts : List T3} {os : List Int} : fixB ts os = true ↔ ordB ts os = true ∧ FeasR ts (rk os) := by
  simp only [fixB, Bool.and_eq_true, List.all_eq_true, List.mem_range]
  constructor
  · rintro ⟨h, h2⟩
    refine ⟨h, rk_inj h, fun i hi hn => ?_⟩
    have h3 := h2 (rk os i) (rk_lt (ord_all h hi))
    rw [rspO_rk h hi, hn] at h3
    simp at h3
  · rintro ⟨h, h2⟩
    refine ⟨h, fun k hk => ?_⟩
    obtain ⟨_, hl, hr, hnd⟩ := ordB_iff.1 h
    have hx := hr os[k] (List.getElem_mem hk)
    obtain ⟨i, hi⟩ := Int.eq_ofNat_of_zero_le hx.1
    have hit : i < ts.length := by omega
    have hk2 : rk os i = k := by
      have h1 := rk_at (ord_all h hit)
      have h3 : os[k]? = some (i : Int) := by rw [List.getElem?_eq_getElem hk, hi]
      exact (List.getElem?_inj (rk_lt (ord_all h hit)) hnd).1 (h1.trans h3.symm)
    have h4 := h2.2 i hit
    rw [← rspO_rk h hit, hk2] at h4
    cases e : rspO ts os k with
    | none => exact absurd e h4
    | some r => rfl
theorem ord_rev {ts : List T3} {os : List Int} (h : ordB ts os = true) : ordB ts os.reverse = true := by
  obtain ⟨h0, h1, h2, h3⟩ := ordB_iff.1 h
  exact ordB_iff.2 ⟨h0, by simpa using h1, fun x hx => h2 x (by simpa using hx), (List.reverse_perm os).nodup_iff.2 h3⟩

end Go.Proofs.Ytocppoobcanhiab

namespace Go.Proofs.Ytocppoobcanhiab
open Go.RowKit Go.Deep

/-- The first index below n at which f has x, or -1. -/
def idF (f : Nat → Int) (x : Int) : Nat → Int
  | 0 => -1
  | n + 1 => if 0 ≤ idF f x n then idF f x n else if f n = x then (n : Int) else -1
theorem idF_none {f : Nat → Int} {x : Int} : ∀ {n : Nat}, (∀ k, k < n → f k ≠ x) → idF f x n = -1
  | 0, _ => rfl
  | n + 1, h => by
    have h1 := idF_none (n := n) fun k hk => h k (by omega)
    simp only [idF, h1]
    rw [if_neg (by omega), if_neg (h n (by omega))]
theorem idF_hit {f : Nat → Int} {x : Int} {k : Nat} (h0 : ∀ j, j < k → f j ≠ x) (h1 : f k = x) : ∀ n, k < n → idF f x n = k
  | 0, h => absurd h (by omega)
  | n + 1, h => by
    by_cases e : k = n
    · subst e
      simp only [idF, idF_none h0]
      rw [if_neg (by omega), if_pos h1]
    · have := idF_hit h0 h1 n (by omega)
      simp only [idF, this]
      rw [if_pos (by omega)]
theorem idF_neg {f : Nat → Int} {x : Int} {n : Nat} : idF f x n < 0 ↔ ∀ k, k < n → f k ≠ x := by
  constructor
  · induction n with
    | zero => intro _ k hk; omega
    | succ n ih =>
      intro h k hk
      simp only [idF] at h
      split at h
      · omega
      · split at h
        · omega
        · by_cases e : k = n
          · subst e; assumption
          · exact ih (by omega) k (by omega)
  · intro h; rw [idF_none h]; omega

/-- spec.l4Index. -/
theorem l4Index_any (a : Option Addr) (cap n : Nat) (f : Nat → Int) (x : Int) (w : World) (hf : IntF w a n f) (hn : n ≤ 1048576) :
    Calls Try.prog 53 #[.slice a n cap, .int .i64 x] w fun e w' =>
      e = .returned (.int .i64 (idF f x n)) ∧ w = w' := by
  have HF := Lib.hid hf
  clear hf
  go_enter Try.func53, Try.ntmps53
  go_wp2
  go_loopg [5] n (fun m i wr => ∃ k : Nat, m + k = n ∧ i = .int .i64 k ∧ (∀ j, j < k → f j ≠ x) ∧ w = wr)
  case atStart => exact ⟨0, rfl, rfl, fun j hj => by omega, rfl⟩
  case round =>
    obtain ⟨k, hk, rfl, hno, rfl⟩ := hrel
    have HK := Lib.hid hk
    have HN := Lib.hid hno
    have hk' : k ≤ n := by omega
    clear hk hno
    by_cases hlt : k < n
    · obtain ⟨b, off, rfl, hbs, c0⟩ := HF.out k hlt
      obtain ⟨y, hy⟩ : ∃ y, y = f k := ⟨_, rfl⟩
      rw [← hy] at c0
      have HY := Lib.hid hy
      clear hy
      by_cases hv : y = x
      · subst hv
        go_wp2
        go_ret
        exact ⟨by rw [idF_hit HN.out HY.out.symm n hlt]; rfl, rfl⟩
      · have HV := Lib.hid hv
        go_wp2
        go_roundg (gk - 1)
        case measure => have := HK.out; omega
        case rel => exact ⟨k + 1, by have := HK.out; omega, by go_num, fun j hj => by
          by_cases e : j = k
          · subst e; rw [← HY.out]; exact HV.out
          · exact HN.out j (by omega), rfl⟩
    · obtain rfl : k = n := by omega
      go_wp2
      go_ret
      exact ⟨by rw [idF_none HN.out]; rfl, rfl⟩

/-- What spec.OrderValid asks of the entries below k. -/
def ordF (f : Nat → Int) (n k : Nat) : Prop := ∀ j, j < k → (0 ≤ f j ∧ f j < n) ∧ ∀ i, i < j → f i ≠ f j
theorem ordF_list {ts : List T3} {os : List Int} (hs : svB ts = true) (hl : os.length = ts.length) : ordB ts os = true ↔ ordF (fun k => os.getD k 0) ts.length os.length := by
  rw [ordB_iff]
  have g : ∀ j, j < os.length → ∃ h : j < os.length, os.getD j 0 = os[j] := fun j h => ⟨h, by simp [List.getD, List.getElem?_eq_getElem h]⟩
  constructor
  · rintro ⟨_, _, h1, h2⟩ j hj
    obtain ⟨_, e⟩ := g j hj
    refine ⟨?_, fun i hi => ?_⟩
    · simp only [e]; exact h1 _ (List.getElem_mem _)
    · obtain ⟨_, e1⟩ := g i (by omega)
      simp only [e, e1]
      intro h
      have := (List.getElem_inj h2).1 h
      omega
  · intro h
    refine ⟨hs, hl, fun x hx => ?_, ?_⟩
    · obtain ⟨j, hj, rfl⟩ := List.getElem_of_mem hx
      obtain ⟨_, e⟩ := g j hj
      have := (h j hj).1
      simp only [e] at this
      exact this
    · rw [List.Nodup, List.pairwise_iff_getElem]
      intro i j hi hj hij
      have := (h j hj).2 i hij
      obtain ⟨_, e⟩ := g j hj
      obtain ⟨_, e1⟩ := g i (by omega)
      simp only [e, e1] at this
      exact this
theorem ordF_next {f : Nat → Int} {n k : Nat} {y : Int} (h : ordF f n k) (hy : y = f k) (h1 : 0 ≤ y ∧ y ≤ (n : Int) - 1) (h2 : idF f y k < 0) : ordF f n (k + 1) := fun j hj => by
  by_cases e : j = k
  · subst e
    rw [← hy]
    exact ⟨⟨h1.1, by omega⟩, fun i hi => idF_neg.1 h2 i hi⟩
  · exact h j (by omega)

/-- spec.OrderValid. -/
theorem specOrderValid_any (ta oa : Option Addr) (tcap ocap : Nat) (ts : List T3) (os : List Int) (w : World) (hr : Row w ta ts) (ho : IntF w oa os.length fun k => os.getD k 0) (hn : ts.length ≤ 1048576) (hc : os.length ≤ ocap) :
    Calls Try.prog 40 #[.slice ta ts.length tcap, .slice oa os.length ocap] w fun e w' =>
      e = .returned (.bool (ordB ts os)) ∧ Below w.heap.size w w' := by
  have HR := Lib.hid hr
  have HO := Lib.hid ho
  clear hr ho
  go_enter Try.func40, Try.ntmps40
  cases hs : svB ts with
  | false =>
    have hv : ordB ts os = false := by simp [ordB, hs]
    go_wp2_with (go_at_call 50; refine (specSetValid_any _ _ ts _ HR.out (by omega)).mono ?_; rintro e w1 ⟨rfl, hb1⟩; rw [hs])
    go_ret
    exact ⟨by rw [hv]; rfl, hb1⟩
  | true =>
    by_cases hl : os.length = ts.length
    · have HL := Lib.hid hl
      go_wp2_with (go_at_call 50; refine (specSetValid_any _ _ ts _ HR.out (by omega)).mono ?_; rintro e w1 ⟨rfl, hb1⟩; rw [hs])
      obtain ⟨f, hf⟩ : ∃ f : Nat → Int, f = fun k => os.getD k 0 := ⟨_, rfl⟩
      have HV := Lib.hid (show ordB ts os = true ↔ ordF f ts.length ts.length by rw [ordF_list hs hl, hf, hl])
      have HF := Lib.hid (show IntF w oa ts.length f by have := HO.out; rw [hl, ← hf] at this; exact this)
      rw [hl] at hc
      clear hf HO hl HL HR
      obtain ⟨n, hnn⟩ : ∃ n, n = ts.length := ⟨_, rfl⟩
      rw [← hnn] at HF HV hn hc ⊢
      clear hnn
      go_loopg [5] n (fun m i wr => ∃ k : Nat, m + k = n ∧ i = .int .i64 k ∧ ordF f n k ∧ Below w.heap.size w wr)
      case atStart => exact ⟨0, rfl, rfl, fun j hj => by omega, hb1⟩
      case round =>
        obtain ⟨k, hk, rfl, hall, hb⟩ := hrel
        have HK := Lib.hid hk
        have HA := Lib.hid hall
        have hk' : k ≤ n := by omega
        clear hk hall hb1
        by_cases hlt : k < n
        · have RF := Lib.hid (HF.out.below hb)
          have RF0 := Lib.hid (show IntF wr oa k f from fun j hj => RF.out j (by omega))
          obtain ⟨b, off, rfl, hbs, c0⟩ := RF.out k hlt
          obtain ⟨y, hy⟩ : ∃ y, y = f k := ⟨_, rfl⟩
          rw [← hy] at c0
          have hw : IntKind.i64.wrap ((n : Int) - 1) = (n : Int) - 1 := IntWalk.i64_in _ (by omega)
          have hk0 : (0 : Int) ≤ k := by omega
          have hk1 : (k : Int) < n := by omega
          have hk2 : (k : Int) ≤ ocap := by omega
          have CI := Lib.hid (fun W => l1In_any y 0 ((n : Int) - 1) W)
          have CX := Lib.hid (fun m => l4Index_any _ ocap k f y (wr.drewN m) (RF0.out.below (below_drewN _ _)) (by omega))
          by_cases hv : 0 ≤ y ∧ y ≤ (n : Int) - 1
          · have e1 : inB y 0 ((n : Int) - 1) = true := decide_eq_true hv
            rw [e1] at CI
            by_cases hx : idF f y k < 0
            · have HX := Lib.hid hx
              have HY := Lib.hid hy
              have HW := Lib.hid hv
              obtain ⟨z, hz⟩ : ∃ z, z = idF f y k := ⟨_, rfl⟩
              rw [← hz] at CX hx
              have hx' : ¬ 0 ≤ z := by omega
              clear hz hy hv e1
              go_wp2
              go_quiet (first | (go_at_call 84; exact quiet_left (CI.out _)) | (go_at_call 53; exact quiet_left (CX.out _)))
              go_wp2
              go_roundg (gk - 1)
              case measure => have := HK.out; omega
              case rel => exact ⟨k + 1, by have := HK.out; omega, by go_num, ordF_next HA.out HY.out HW.out HX.out, hb.trans ((below_drewN _ _).mono hb.size)⟩
            · have hno : ordB ts os = false := by
                rw [← Bool.not_eq_true, HV.out]
                intro h
                exact hx (by rw [hy]; exact idF_neg.2 fun j hj => (h k hlt).2 j hj)
              obtain ⟨z, hz⟩ : ∃ z, z = idF f y k := ⟨_, rfl⟩
              rw [← hz] at CX hx
              have hx' : 0 ≤ z := by omega
              clear hz hy hv e1 hx HV
              go_wp2
              go_quiet (first | (go_at_call 84; exact quiet_left (CI.out _)) | (go_at_call 53; exact quiet_left (CX.out _)))
              go_wp2
              go_ret
              exact ⟨ret_bool hno.symm, hb.trans ((below_drewN _ _).mono hb.size)⟩
          · have hno : ordB ts os = false := by
              rw [← Bool.not_eq_true, HV.out]
              intro h
              have := (h k hlt).1
              rw [← hy] at this
              omega
            have e1 : inB y 0 ((n : Int) - 1) = false := decide_eq_false hv
            rw [e1] at CI
            clear hy hv e1 HV CX
            go_wp2
            go_quiet ((go_at_call 84; exact quiet_left (CI.out _)))
            go_wp2
            go_ret
            exact ⟨ret_bool hno.symm, hb.trans ((below_drewN _ _).mono hb.size)⟩
        · obtain rfl : k = n := by omega
          go_wp2
          go_ret
          exact ⟨ret_bool (HV.out.2 HA.out).symm, hb⟩
    · have hv : ordB ts os = false := by simp [ordB, hl]
      go_wp2_with (go_at_call 50; refine (specSetValid_any _ _ ts _ HR.out (by omega)).mono ?_; rintro e w1 ⟨rfl, hb1⟩; rw [hs])
      go_ret
      exact ⟨by rw [hv]; rfl, hb1⟩

end Go.Proofs.Ytocppoobcanhiab

namespace Go.Proofs.Ytocppoobcanhiab
open Go.RowKit Go.Deep

theorem boolInfo : (Try.prog.info? 4).map (fun i => (i.zero, i.size, i.bytes)) = some (some (.bool false), 1, 1) := by kernel_rfl
theorem run_make_bools (n : Nat) (hn : n ≤ 1099511627776) (w : World) :
    (Instr.makeSlice 124 (.int .i64 (n : Int)) (.int .i64 (n : Int))).run Try.prog w = .ok (.slice (some ⟨w.heap.size, 0, none⟩) n n) (w.alloc (.cells (madeCells #[.bool false] n) 4)) := by
  obtain ⟨i, hi, hz, hs, hb⟩ := info_parts boolInfo
  have h := run_make (P := Try.prog) w 124 4 i _ Try.underlying124 hi hz .i64 .i64 (n : Int) (n : Int) (by omega) (by omega) (by rw [hb]; omega) (by omega)
  rw [hs] at h
  simpa [Value.cells] using h
/-- Entry i is among the first k values. -/
def seenB (f : Nat → Int) : Nat → Nat → Bool
  | 0, _ => false
  | k + 1, i => seenB f k i || decide (f k = (i : Int))
theorem seenB_iff {f : Nat → Int} {i : Nat} : ∀ {k : Nat}, seenB f k i = true ↔ ∃ j, j < k ∧ f j = (i : Int)
  | 0 => by simp [seenB]
  | k + 1 => by
    simp only [seenB, Bool.or_eq_true, decide_eq_true_eq]
    rw [seenB_iff (k := k)]
    constructor
    · rintro (⟨j, h1, h2⟩ | h)
      · exact ⟨j, by omega, h2⟩
      · exact ⟨k, by omega, h⟩
    · rintro ⟨j, h1, h2⟩
      by_cases e : j = k
      · subst e; exact .inr h2
      · exact .inl ⟨j, by omega, h2⟩

/-- A truth value was returned, of p. -/
def Says (e : Ending) (p : Prop) : Prop := ∃ b, e = .returned (.bool b) ∧ (b = true ↔ p)

set_option maxHeartbeats 1000000 in
/-- impl.permutation.valid. -/
theorem permValid_any (oa : Option Addr) (ocap n : Nat) (f : Nat → Int) (w : World) (hf : IntF w oa n f) (hn : n ≤ 1048576) :
    Calls Try.prog 99 #[.slice oa n ocap] w fun e w' =>
      Says e (ordF f n n) ∧ Below w.heap.size w w' := by
  have hmk := run_make_bools n (by omega)
  have HF := Lib.hid hf
  clear hf
  go_enter Try.func99, Try.ntmps99
  go_wp2
  clear hmk
  go_loopg [11] n (fun m i wr => ∃ k : Nat, m + k = n ∧ i = .int .i64 k ∧ ordF f n k ∧ wr.rowIs w.heap.size 4 n (fun j => .bool (seenB f k j)) ∧ Below w.heap.size w wr)
  case atStart => exact ⟨0, rfl, rfl, fun j hj => by omega, World.rowIs_made w (.bool false) n 4, below_box _ _⟩
  case round =>
    obtain ⟨k, hk, rfl, hall, hrow, hb⟩ := hrel
    have HK := Lib.hid hk
    have HA := Lib.hid hall
    have HW := Lib.hid hrow
    have hk' : k ≤ n := by omega
    clear hk hall hrow
    by_cases hlt : k < n
    · have RF := Lib.hid (HF.out.below hb)
      obtain ⟨b, off, rfl, hbs, c0⟩ := RF.out k hlt
      obtain ⟨y, hy⟩ : ∃ y, y = f k := ⟨_, rfl⟩
      rw [← hy] at c0
      have HY := Lib.hid hy
      clear hy
      by_cases h0 : y < 0
      · go_wp2
        go_ret
        exact ⟨⟨false, rfl, ⟨fun h => by simp at h, fun h => by have := (h k hlt).1; rw [← HY.out] at this; omega⟩⟩, hb⟩
      · by_cases h1 : (n : Int) ≤ y
        · go_wp2
          go_ret
          exact ⟨⟨false, rfl, ⟨fun h => by simp at h, fun h => by have := (h k hlt).1; rw [← HY.out] at this; omega⟩⟩, hb⟩
        · obtain ⟨i, rfl⟩ : ∃ i : Nat, y = i := ⟨y.toNat, by omega⟩
          have hin : i < n := by omega
          have hi1 : (i : Int) < n := by omega
          have hi0 : (0 : Int) ≤ i := by omega
          have h1' : ¬ (n : Int) ≤ i := by omega
          have h0' : ¬ (i : Int) < 0 := by omega
          have z0 := HW.out.cell hin
          have z1 := HW.out.frozen i
          cases hs : seenB f k i with
          | true =>
            rw [hs] at z0
            have HS := Lib.hid (seenB_iff.1 hs)
            clear hs h0 h1
            go_wp2
            go_ret
            refine ⟨⟨false, rfl, ⟨fun h => by simp at h, fun h => ?_⟩⟩, hb⟩
            obtain ⟨j, h1, h2⟩ := HS.out
            exact absurd (h2.trans HY.out) ((h k hlt).2 j h1)
          | false =>
            rw [hs] at z0
            have HS := Lib.hid hs
            clear hs h0 h1
            go_wp2
            go_roundg (gk - 1)
            case measure => have := HK.out; omega
            case rel =>
              refine ⟨k + 1, by have := HK.out; omega, by go_num, fun j hj => ?_, (HW.out.set i (.bool true)).congr (fun j _ => ?_), hb.setCell (Nat.le_refl _) _⟩
              · by_cases e : j = k
                · subst e
                  rw [← HY.out]
                  refine ⟨⟨hi0, hi1⟩, fun m hm e2 => ?_⟩
                  have := (seenB_iff (k := j) (i := i) (f := f)).2 ⟨m, hm, e2⟩
                  rw [HS.out] at this
                  simp at this
                · exact HA.out j (by omega)
              · simp only [seenB]
                rw [← HY.out]
                by_cases e : j = i
                · subst e; simp
                · rw [if_neg e, decide_eq_false (by omega), Bool.or_false]
    · obtain rfl : k = n := by omega
      go_wp2
      go_ret
      exact ⟨⟨true, rfl, ⟨fun _ => HA.out, fun _ => rfl⟩⟩, hb⟩

/-- impl.OrderValid. -/
theorem orderValid_any (ta oa : Option Addr) (tcap ocap : Nat) (ts : List T3) (os : List Int) (w : World) (hr : Row w ta ts) (ho : IntF w oa os.length fun k => os.getD k 0) (hn : ts.length ≤ 1099511627776) :
    Calls Try.prog 57 #[.slice ta ts.length tcap, .slice oa os.length ocap] w fun e w' =>
      e = .returned (.bool (ordB ts os)) ∧ Below w.heap.size w w' := by
  have HR := Lib.hid hr
  have HO := Lib.hid ho
  clear hr ho
  cases hs : svB ts with
  | false =>
    have hv : ordB ts os = false := by simp [ordB, hs]
    go_enter Try.func57, Try.ntmps57
    go_wp2_with (go_at_call 68; refine (setValid_any _ _ ts _ HR.out hn).mono ?_; rintro e w1 ⟨rfl, hb1⟩; rw [hs])
    go_ret
    exact ⟨ret_bool hv.symm, hb1⟩
  | true =>
    by_cases hl : os.length = ts.length
    · have hl5 := (sv_all hs).2
      have hol : os.length ≤ 5 := by omega
      have hl' : ((os.length : Int) == ts.length) = true := by simp; omega
      have HV := Lib.hid (show ordB ts os = true ↔ ordF (fun k => os.getD k 0) os.length os.length by have := ordF_list hs hl; rw [hl] at this ⊢; exact this)
      go_enter Try.func57, Try.ntmps57
      go_wp2_with fail
      refine (setValid_any _ _ ts _ HR.out hn).mono ?_
      rintro e w1 ⟨rfl, b1⟩
      rw [hs]
      clear hl
      go_wp2_with fail
      refine (permValid_any _ _ _ _ _ (HO.out.below b1) (by omega)).mono ?_
      rintro e w2 ⟨⟨b, rfl, hb⟩, b2⟩
      have HB := Lib.hid hb
      clear hb
      go_wp2
      go_ret
      refine ⟨ret_bool ?_, b1.trans (b2.mono b1.size)⟩
      rw [Bool.eq_iff_iff, HB.out, HV.out]
    · have hv : ordB ts os = false := by
        rw [Bool.eq_false_iff]
        exact fun h => hl (ordB_iff.1 h).2.1
      have hl' : ((os.length : Int) == ts.length) = false := by simp; omega
      clear hl
      go_enter Try.func57, Try.ntmps57
      go_wp2_with (go_at_call 68; refine (setValid_any _ _ ts _ HR.out hn).mono ?_; rintro e w1 ⟨rfl, hb1⟩; rw [hs])
      go_ret
      exact ⟨ret_bool hv.symm, hb1⟩

end Go.Proofs.Ytocppoobcanhiab

namespace Go.Proofs.Ytocppoobcanhiab
open Go.RowKit Go.Deep

/-- The cost of task i and the interference of the tasks hs in an interval of length x. -/
def rL (ts : List T3) (hs : List Nat) (i : Nat) : Nat → Nat := fun x => cst (tk ts i) + wkL ts hs x
theorem tk_at {ts : List T3} {i : Nat} (h : i < ts.length) : ts[i] = tk ts i := by simp [tk, List.getD, List.getElem?_eq_getElem h]
theorem Row.tk {w : World} {a : Option Addr} {ts : List T3} (h : Row w a ts) (hv : ts.all tv = true) {i : Nat} (hi : i < ts.length) : ∃ b off, a = some ⟨b, off, none⟩ ∧ b < w.heap.size ∧
    w.cell? ⟨b, off + i * 3, none⟩ = some (.int .i64 (cst (tk ts i) : Nat)) ∧ w.cell? ⟨b, off + i * 3 + 1, none⟩ = some (.int .i64 (dln (tk ts i) : Nat)) ∧ w.cell? ⟨b, off + i * 3 + 2, none⟩ = some (.int .i64 (per (tk ts i) : Nat)) := by
  obtain ⟨b, off, h1, h2, h3, h4, h5⟩ := h i _ (List.getElem?_eq_getElem hi)
  rw [tk_at hi] at h3 h4 h5
  have := tv_bd (tk_tv hv hi)
  rw [this.2.2.2.2.2.1, this.2.2.2.2.2.2.1, this.2.2.2.2.2.2.2]
  exact ⟨b, off, h1, h2, h3, h4, h5⟩
theorem cl_le {ts : List T3} (hv : ts.all tv = true) {j x : Nat} (hj : j < ts.length) (hx : x ≤ 12) : cl ts j x ≤ 184 := by
  have := tv_bd (tk_tv hv hj)
  unfold cl
  exact Nat.le_trans (Nat.mul_le_mul (show _ ≤ 23 from Nat.le_trans (Nat.div_le_self _ _) (by omega)) this.2.2.2.2.1) (by omega)
theorem wkL_step {ts : List T3} {hs : List Nat} {k x : Nat} (hk : k < hs.length) : wkL ts (hs.take (k + 1)) x = wkL ts (hs.take k) x + cl ts (hs.getD k 0) x := by
  have e : hs.getD k 0 = hs[k] := by simp [List.getD, List.getElem?_eq_getElem hk]
  rw [List.take_succ_eq_append_getElem hk, e]
  unfold wkL
  rw [List.map_append, List.sum_append]
  simp only [List.map_cons, List.map_nil, List.sum_cons, List.sum_nil, Nat.add_zero]
theorem wkL_le {ts : List T3} (hv : ts.all tv = true) {hs : List Nat} (hm : ∀ k, k < hs.length → hs.getD k 0 < ts.length) {x : Nat} (hx : x ≤ 12) : ∀ k, k ≤ hs.length → wkL ts (hs.take k) x ≤ 184 * k
  | 0, _ => by simp [wkL]
  | k + 1, h => by
    rw [wkL_step (by omega)]
    have := wkL_le hv hm hx k (by omega)
    have := cl_le hv (hm k (by omega)) hx
    omega
theorem rL_mono (ts : List T3) (hs : List Nat) (i : Nat) : ∀ x y, x ≤ y → rL ts hs i x ≤ rL ts hs i y := fun x y h => by
  unfold rL wkL
  have : ∀ l : List Nat, (l.map fun h => cl ts h x).sum ≤ (l.map fun h => cl ts h y).sum := fun l => by
    induction l with
    | nil => exact Nat.le_refl _
    | cons a l ih => simp only [List.map_cons, List.sum_cons]; exact Nat.add_le_add (cl_mono ts a h) ih
  exact Nat.add_le_add_left (this hs) _
theorem add_step {S S' r q c : Nat} (hq : 1 ≤ q) (h : S' = S + (r + q - 1) / q * c) : Value.int .i64 ((S : Int) + ((r : Int) + q - 1) / q * c) = .int .i64 (S' : Nat) := by
  have e : (r : Int) + q - 1 = ((r + q - 1 : Nat) : Int) := by omega
  rw [e, h]
  simp

set_option maxHeartbeats 2000000 in
/-- spec.l4Response. -/
theorem l4Response_any (ta ha : Option Addr) (tcap hcap : Nat) (ts : List T3) (hs : List Nat) (i : Nat) (w : World) (hr : Row w ta ts) (hh : IntF w ha hs.length fun k => (hs.getD k 0 : Nat)) (hv : ts.all tv = true)
    (hm : ∀ k, k < hs.length → hs.getD k 0 < ts.length) (hl : hs.length ≤ 1000) (hi : i < ts.length) :
    Calls Try.prog 87 #[.slice ta ts.length tcap, .slice ha hs.length hcap, .int .i64 i] w fun e w' =>
      e = .returned (.int .i64 (optI (lfp (rL ts hs i) (dln (tk ts i))))) ∧ Below w.heap.size w w' := by
  have HR := Lib.hid hr
  have HH := Lib.hid hh
  have HV := Lib.hid hv
  have HM := Lib.hid hm
  obtain ⟨b, off, rfl, hbs, c0, c1, c2⟩ := hr.tk hv hi
  have htv := tv_bd (tk_tv hv hi)
  have HI := Lib.hid (show Iter (rL ts hs i) (cst (tk ts i)) from Iter.start htv.1 fun x => Nat.le_add_right _ _)
  have HS := Lib.hid (show ∀ x, rL ts hs i x = cst (tk ts i) + wkL ts hs x from fun _ => rfl)
  obtain ⟨C, hC⟩ : ∃ C, C = cst (tk ts i) := ⟨_, rfl⟩
  obtain ⟨D, hD⟩ : ∃ D, D = dln (tk ts i) := ⟨_, rfl⟩
  rw [← hC] at HI HS c0
  rw [← hD] at c1
  rw [← hD]
  have hC1 : 1 ≤ C := by rw [hC]; exact htv.1
  have hC2 : C ≤ 8 := by rw [hC]; exact htv.2.2.2.2.1
  have hD2 : D ≤ 12 := by rw [hD]; omega
  have HC := Lib.hid (And.intro c0 c1)
  clear htv hC hD hr hh hv hm c2
  have hi0 : (0 : Int) ≤ i := by omega
  have hi1 : (i : Int) < ts.length := by omega
  go_enter Try.func87, Try.ntmps87
  go_wp2
  go_loopg [7] (D + 1 - C) (fun m s wr => ∃ r : Nat, m = D + 1 - r ∧ s = .int .i64 r ∧ Iter (rL ts hs i) r ∧ r ≤ 200000 ∧ Below w.heap.size w wr)
  case atStart => exact ⟨C, rfl, rfl, HI.out, by omega, Below.refl _ _⟩
  case round =>
    obtain ⟨r, hk, rfl, hit, hr2, hb⟩ := hrel
    have HK := Lib.hid hk
    have HT := Lib.hid hit
    clear hk hit c0 c1
    have c0 := (hb.cell (p := ⟨b, off + i * 3, none⟩) hbs).trans HC.out.1
    have c1 := (hb.cell (p := ⟨b, off + i * 3 + 1, none⟩) hbs).trans HC.out.2
    by_cases hlt : r ≤ D
    · have hlt' : (r : Int) ≤ D := by omega
      go_wp2
      clear c0 c1
      go_loopg [8, 9] hs.length (fun m s j w2 => ∃ k : Nat, m + k = hs.length ∧ j = .int .i64 k ∧ s = .int .i64 (C + wkL ts (hs.take k) r : Nat) ∧ Below w.heap.size w w2)
      case atStart => exact ⟨0, rfl, rfl, by simp [wkL], hb⟩
      case round =>
        clear hb
        obtain ⟨k, hk, rfl, rfl, hb⟩ := hrel
        have HK2 := Lib.hid hk
        have hk' : k ≤ hs.length := by omega
        clear hk
        have hle := wkL_le HV.out HM.out (show r ≤ 12 by omega) k hk'
        obtain ⟨S, hS⟩ : ∃ S, S = C + wkL ts (hs.take k) r := ⟨_, rfl⟩
        have hS2 : S ≤ 200000 := by omega
        have HSS := Lib.hid hS
        rw [← hS]
        clear hS hle
        by_cases hkl : k < hs.length
        · obtain ⟨j, hj⟩ : ∃ j, j = hs.getD k 0 := ⟨_, rfl⟩
          have hjl : j < ts.length := by rw [hj]; exact HM.out k hkl
          obtain ⟨b1, off1, rfl, hbs1, d0⟩ := (HH.out.below hb) k hkl
          simp only [← hj] at d0
          have HR2 := Lib.hid (HR.out.below hb)
          obtain ⟨b2, off2, hbb, _, e0, e1, e2⟩ := HR2.out.tk HV.out hjl
          simp only [Option.some.injEq, Addr.mk.injEq, and_true] at hbb
          obtain ⟨rfl, rfl⟩ := hbb
          have htv := tv_bd (tk_tv HV.out hjl)
          have HJ := Lib.hid (show wkL ts (hs.take (k + 1)) r = wkL ts (hs.take k) r + (r + per (tk ts j) - 1) / per (tk ts j) * cst (tk ts j) by rw [wkL_step hkl, ← hj]; rfl)
          obtain ⟨c, hc⟩ : ∃ c, c = cst (tk ts j) := ⟨_, rfl⟩
          obtain ⟨d, hd⟩ : ∃ d, d = dln (tk ts j) := ⟨_, rfl⟩
          obtain ⟨q, hq⟩ : ∃ q, q = per (tk ts j) := ⟨_, rfl⟩
          rw [← hc, ← hd, ← hq] at htv
          rw [← hc] at e0
          rw [← hd] at e1
          rw [← hq] at e2
          rw [← hc, ← hq] at HJ
          have p1 : 1 ≤ c := htv.1
          have p2 : 1 ≤ q := by omega
          have p4 : q ≤ 12 := htv.2.2.2.1
          have p5 : c ≤ 8 := htv.2.2.2.2.1
          clear hc hd hq hj htv
          have hj0 : (0 : Int) ≤ j := by omega
          have hj1 : (j : Int) < ts.length := by omega
          have hk0 : (0 : Int) ≤ k := by omega
          have hk1 : (k : Int) < hs.length := by omega
          have hne : ((q : Int) == 0) = false := by simp; omega
          have hs0 : (0 : Int) ≤ (r : Int) + q - 1 := by omega
          have hq0 : (0 : Int) ≤ ((r : Int) + q - 1) / q := Int.ediv_nonneg (by omega) (by omega)
          have hq1 : ((r : Int) + q - 1) / q ≤ 23 := Int.le_trans (Int.ediv_le_self _ hs0) (by omega)
          have hm0 : (0 : Int) ≤ ((r : Int) + q - 1) / q * c := Int.mul_nonneg (by omega) (by omega)
          have hm1 : ((r : Int) + q - 1) / q * c ≤ 184 := Int.le_trans (Int.mul_le_mul hq1 (show (c : Int) ≤ 8 by omega) (by omega) (by omega)) (by omega)
          go_wp2
          go_quiet (fail)
          go_wp2
          go_roundg (gk - 1)
          case measure => have := HK2.out; omega
          case rel => exact ⟨k + 1, by have := HK2.out; omega, by go_num, add_step (by omega) (by rw [HSS.out, HJ.out, Nat.add_assoc]), (hb.alloc hb.size _).trans ((below_drewN _ _).mono (hb.alloc hb.size _).size)⟩
        · obtain rfl : k = hs.length := by omega
          have HF := Lib.hid (show S = rL ts hs i r by rw [HSS.out, HS.out, List.take_length])
          by_cases hx : S = r
          · subst hx
            go_wp2
            go_ret
            exact ⟨by rw [HT.out.done HF.out.symm hlt]; rfl, hb⟩
          · have hx' : ¬ (S : Int) = r := by omega
            have HX := Lib.hid hx
            clear hx
            go_wp2
            go_roundg (D + 1 - S)
            case measure => have h1 := HK.out; have h2 := HT.out.step (rL_mono ts hs i); have h3 := HT.out.up; have h4 := HF.out; have h5 := HX.out; omega
            case rel => exact ⟨S, rfl, rfl, by rw [HF.out]; exact HT.out.step (rL_mono ts hs i), hS2, hb⟩
    · have hlt' : ¬ (r : Int) ≤ D := by omega
      go_wp2
      go_ret
      exact ⟨by rw [HT.out.over (by omega)]; rfl, hb⟩

end Go.Proofs.Ytocppoobcanhiab

namespace Go.Proofs.Ytocppoobcanhiab
open Go.RowKit Go.Deep

/-- The tasks above place k. -/
def abv (os : List Int) (k : Nat) : List Nat := (os.take k).map Int.toNat
theorem abv_len {os : List Int} {k : Nat} (h : k ≤ os.length) : (abv os k).length = k := by simp [abv]; omega
theorem abv_at {os : List Int} {k j : Nat} (h : k ≤ os.length) (hj : j < k) : (abv os k).getD j 0 = (os.getD j 0).toNat := by
  have h1 : j < os.length := by omega
  simp [abv, List.getD, List.getElem?_take_of_lt hj, List.getElem?_eq_getElem h1]
theorem nodup_toNat : ∀ {l : List Int}, l.Nodup → (∀ x ∈ l, 0 ≤ x) → (l.map Int.toNat).Nodup
  | [], _, _ => List.nodup_nil
  | a :: l, h, h0 => by
    rw [List.nodup_cons] at h
    rw [List.map_cons, List.nodup_cons]
    refine ⟨fun hm => ?_, nodup_toNat h.2 fun x hx => h0 x (List.mem_cons_of_mem _ hx)⟩
    obtain ⟨b, hb, e⟩ := List.mem_map.1 hm
    have h1 := h0 b (List.mem_cons_of_mem _ hb)
    have h2 := h0 a List.mem_cons_self
    have : b = a := by omega
    exact h.1 (this ▸ hb)
theorem abv_mem {ts : List T3} {os : List Int} (h : ordB ts os = true) {k j : Nat} : j ∈ abv os k ↔ (j : Int) ∈ os.take k := by
  constructor
  · intro hm
    obtain ⟨b, hb, e⟩ := List.mem_map.1 hm
    have := (ordB_iff.1 h).2.2.1 b (List.mem_of_mem_take hb)
    have e2 : (j : Int) = b := by omega
    exact e2 ▸ hb
  · exact fun hm => List.mem_map.2 ⟨_, hm, by simp⟩
theorem abv_lt {ts : List T3} {os : List Int} (h : ordB ts os = true) {k : Nat} : ∀ j ∈ abv os k, j < ts.length := fun j hj => by
  have := (ordB_iff.1 h).2.2.1 _ (List.mem_of_mem_take ((abv_mem h).1 hj))
  omega
theorem ord_at {ts : List T3} {os : List Int} (h : ordB ts os = true) {k : Nat} (hk : k < os.length) : 0 ≤ os.getD k 0 ∧ os.getD k 0 < ts.length := by
  have e : os.getD k 0 = os[k] := by simp [List.getD, List.getElem?_eq_getElem hk]
  rw [e]
  exact (ordB_iff.1 h).2.2.1 _ (List.getElem_mem _)
theorem abv_getD {ts : List T3} {os : List Int} (h : ordB ts os = true) {k : Nat} : ∀ j, j < (abv os k).length → (abv os k).getD j 0 < ts.length := fun j hj => by
  have e : (abv os k).getD j 0 = (abv os k)[j] := by simp [List.getD, List.getElem?_eq_getElem hj]
  rw [e]
  exact abv_lt h _ (List.getElem_mem _)
theorem IntF.abv {ts : List T3} {os : List Int} (h : ordB ts os = true) {w : World} {a : Option Addr} (hf : IntF w a os.length fun k => os.getD k 0) {k : Nat} (hk : k ≤ os.length) : IntF w a (abv os k).length fun j => ((abv os k).getD j 0 : Nat) := fun j hj => by
  rw [abv_len hk] at hj
  obtain ⟨b, o, e1, e2, e3⟩ := hf j (by omega)
  have h0 := (ord_at h (show j < os.length by omega)).1
  refine ⟨b, o, e1, e2, e3.trans ?_⟩
  simp only [abv_at hk hj]
  congr 2
  omega
theorem rsp_list {ts : List T3} {os : List Int} (h : ordB ts os = true) (k : Nat) :
    lfp (rL ts (abv os k) (os.getD k 0).toNat) (dln (tk ts (os.getD k 0).toNat)) = rspO ts os k := by
  unfold rspO resp
  congr 1
  funext x
  unfold rL rF abv
  rw [wkL_eq (nodup_toNat ((List.take_sublist _ _).nodup (ordB_iff.1 h).2.2.2) fun x hx => ((ordB_iff.1 h).2.2.1 x (List.mem_of_mem_take hx)).1) (abv_lt (k := k) h)]
  congr 2
  funext j
  exact decide_eq_decide.2 (abv_mem h)

/-- All places up to n have a response time. -/
def fitN (ts : List T3) (os : List Int) (n : Nat) : Bool := (List.range n).all fun k => (rspO ts os k).isSome
theorem fitN_succ (ts : List T3) (os : List Int) (n : Nat) : fitN ts os (n + 1) = (fitN ts os n && (rspO ts os n).isSome) := by simp [fitN, List.range_succ, List.all_append]
theorem fitN_no {ts : List T3} {os : List Int} {k : Nat} (h : rspO ts os k = none) : ∀ n, k < n → fitN ts os n = false := fun n hn => by
  rw [fitN, List.all_eq_false]
  exact ⟨k, List.mem_range.2 hn, by simp [h]⟩

theorem fixB_fit (ts : List T3) (os : List Int) : fixB ts os = (ordB ts os && fitN ts os os.length) := rfl

end Go.Proofs.Ytocppoobcanhiab

namespace Go.Proofs.Ytocppoobcanhiab
open Go.RowKit Go.Deep

/-- A valid order and a legal pattern. -/
def okF (ts : List T3) (os : List Int) (js : List J4) : Bool := ordB ts os && legB ts js
def lenRF (ts : List T3) (os : List Int) (js : List J4) : Nat := if okF ts os js = true then 120 else 0
def lenFF (ts : List T3) (os : List Int) (js : List J4) : Nat := if okF ts os js = true then js.length else 0
/-- The simulation by the places of an order. -/
def fxP (os : List Int) (js : List J4) : Pat := fixP js (rk os)
def runX (os : List Int) (js : List J4) : Nat → Int := fun t => optI ((fxP os js).run t)
def finX (os : List Int) (js : List J4) : Nat → Int := fun i => (fxP os js).fin 120 i
/-- The schedule by priorities, in two slices of its own; the zero value for invalid arguments. -/
def FixSched (base : Nat) (ts : List T3) (os : List Int) (js : List J4) (e : Ending) (w' : World) : Prop :=
  ∃ vr vf, e = .returned (.agg #[vr, vf]) ∧ OwnI w' base vr (lenRF ts os js) (runX os js) ∧ OwnI w' base vf (lenFF ts os js) (finX os js) ∧ Apart vf vr
theorem okF_iff {ts : List T3} {os : List Int} {js : List J4} : okF ts os js = true ↔ ordB ts os = true ∧ legB ts js = true := by simp [okF]
theorem rk_place' {ts : List T3} {os : List Int} (h : ordB ts os = true) {k y : Nat} (hk : k < os.length) (hy : os.getD k 0 = (y : Int)) : rk os y = k := by
  have e : os[k]? = some (y : Int) := by
    rw [← hy, List.getD_eq_getElem?_getD, List.getElem?_eq_getElem hk]
    rfl
  have hm : (y : Int) ∈ os := List.mem_of_getElem? e
  exact (List.getElem?_inj (rk_lt hm) (ordB_iff.1 h).2.2.2).1 ((rk_at hm).trans e.symm)
theorem idF_rk {ts : List T3} {os : List Int} (h : ordB ts os = true) {i : Nat} (hi : i < ts.length) : idF (fun k => os.getD k 0) (i : Int) os.length = (rk os i : Nat) := by
  have hm := ord_all h hi
  refine idF_hit (fun j hj e => ?_) ?_ _ (rk_lt hm)
  · have := rk_place' h (by have := rk_lt hm; omega) e
    omega
  · rw [List.getD_eq_getElem?_getD, rk_at hm]
    rfl
theorem fx_fits {ts : List T3} {js : List J4} (h : legB ts js = true) (os : List Int) : Fits js (fxP os js) := by
  obtain ⟨h1, _⟩ := leg_fits h
  exact ⟨rfl, h1.rel, h1.ex⟩
theorem fx_ex {ts : List T3} {js : List J4} (h : legB ts js = true) (os : List Int) : ∀ k, k < js.length → 1 ≤ (fxP os js).ex k ∧ (fxP os js).ex k ≤ 1000 := leg_ex h
theorem jid_at {ts : List T3} {js : List J4} (h : legB ts js = true) {k : Nat} (hk : k < js.length) : jid js k < ts.length ∧ (jb js k).1 = (jid js k : Nat) := by
  have h1 := (legB_iff.1 h).2.2 k hk
  have h2 := h1.1
  unfold jid
  omega

set_option maxRecDepth 100000 in
set_option maxHeartbeats 2000000 in
/-- spec.RunFixed. -/
theorem specRunFixed_any (a oa ja : Option Addr) (cap ocap jcap : Nat) (ts : List T3) (os : List Int) (js : List J4) (w : World) (hr : Row w a ts) (ho : IntF w oa os.length fun k => os.getD k 0) (hj : RowJ w ja js) (hn : ts.length ≤ 1048576) (hc : os.length ≤ ocap) (hjn : js.length ≤ 1099511627776) :
    Calls Try.prog 15 #[.slice a ts.length cap, .slice oa os.length ocap, .slice ja js.length jcap] w fun e w' =>
      FixSched w.heap.size ts os js e w' ∧ Below w.heap.size w w' := by
  obtain ⟨i0, hi, hz, hsz, hby⟩ := info_parts intInfo
  have HI := Lib.hid (And.intro hi (And.intro hz (And.intro hsz hby)))
  clear hi hz hsz hby
  obtain ⟨W, hW⟩ : ∃ W, W = w.alloc (.cells #[.slice none 0 0, .slice none 0 0] 28) := ⟨_, rfl⟩
  have BW : Below w.heap.size w W := by rw [hW]; exact below_box _ _
  have sW : w.heap.size < W.heap.size := by rw [hW]; simp
  have q1 : W.cell? ⟨w.heap.size, 0, none⟩ = some (.slice none 0 0) := by rw [hW]; simp [go_sem]
  have q2 : W.cell? ⟨w.heap.size, 1, none⟩ = some (.slice none 0 0) := by rw [hW]; simp [go_sem]
  have q3 : W.frozen? ⟨w.heap.size, 0, none⟩ = false := by rw [hW]; simp [go_sem]
  have q4 : W.frozen? ⟨w.heap.size, 1, none⟩ = false := by rw [hW]; simp [go_sem]
  have HR := Lib.hid (hr.below BW)
  have HO := Lib.hid (ho.below BW)
  have HJ := Lib.hid (hj.below BW)
  have HW := Lib.hid hW
  clear hr ho hj hW
  have FIN : ∀ W1, Below W.heap.size W W1 → okF ts os js = false → FixSched w.heap.size ts os js (.returned (.agg #[.slice none 0 0, .slice none 0 0])) ((W1.setCell ⟨w.heap.size, 0, none⟩ (.slice none 0 0)).setCell ⟨w.heap.size, 1, none⟩ (.slice none 0 0)) ∧ Below w.heap.size w ((W1.setCell ⟨w.heap.size, 0, none⟩ (.slice none 0 0)).setCell ⟨w.heap.size, 1, none⟩ (.slice none 0 0)) := fun W1 B1 hk => by
    refine ⟨⟨_, _, rfl, ?_, ?_, Apart.nil _⟩, ((BW.trans (B1.mono BW.size)).setCell (Nat.le_refl _) _).setCell (Nat.le_refl _) _⟩
    · rw [lenRF, if_neg (by rw [hk]; simp)]
      exact OwnI.nil _ _ _
    · rw [lenFF, if_neg (by rw [hk]; simp)]
      exact OwnI.nil _ _ _
  have FIN := Lib.hid FIN
  cases hv : ordB ts os with
  | false =>
    have hk : okF ts os js = false := by rw [okF, hv]; rfl
    go_enter Try.func15, Try.ntmps15
    go_wp2_with fail
    rw [← HW.out]
    refine (specOrderValid_any _ _ _ _ _ _ _ HR.out HO.out hn hc).mono ?_
    rintro e w1 ⟨rfl, b1⟩
    rw [hv]
    have x1 := (b1.cell (p := ⟨w.heap.size, 0, none⟩) sW).trans q1
    have x2 := (b1.cell (p := ⟨w.heap.size, 1, none⟩) sW).trans q2
    have x3 := (b1.frozen (p := ⟨w.heap.size, 0, none⟩) sW).trans q3
    have x4 := (b1.frozen (p := ⟨w.heap.size, 1, none⟩) sW).trans q4
    clear q1 q2 q3 q4
    go_wp2
    refine bodyPost_ret (v := .agg #[.slice none 0 0, .slice none 0 0]) ?_ rfl (FIN.out _ b1 hk)
    simp [results, Try.results15, go_sem, x1, x2]
  | true =>
    have HV := Lib.hid hv
    cases hl : legB ts js with
    | false =>
      have hk : okF ts os js = false := by rw [okF, hl, Bool.and_false]
      go_enter Try.func15, Try.ntmps15
      go_wp2_with fail
      rw [← HW.out]
      refine (specOrderValid_any _ _ _ _ _ _ _ HR.out HO.out hn hc).mono ?_
      rintro e w1 ⟨rfl, b1⟩
      rw [hv]
      go_wp2_with fail
      refine (specJobsLegal_any _ _ _ _ _ _ _ (HR.out.below b1) (HJ.out.below b1) (by omega) hjn).mono ?_
      rintro e w2 ⟨rfl, b2⟩
      rw [hl]
      have b12 := b1.trans (b2.mono b1.size)
      have x1 := (b12.cell (p := ⟨w.heap.size, 0, none⟩) sW).trans q1
      have x2 := (b12.cell (p := ⟨w.heap.size, 1, none⟩) sW).trans q2
      have x3 := (b12.frozen (p := ⟨w.heap.size, 0, none⟩) sW).trans q3
      have x4 := (b12.frozen (p := ⟨w.heap.size, 1, none⟩) sW).trans q4
      clear q1 q2 q3 q4
      go_wp2
      refine bodyPost_ret (v := .agg #[.slice none 0 0, .slice none 0 0]) ?_ rfl (FIN.out _ b12 hk)
      simp [results, Try.results15, go_sem, x1, x2]
    | true =>
      have HL := Lib.hid hl
      have HK := Lib.hid (okF_iff.2 ⟨hv, hl⟩)
      have h60 := (legB_iff.1 hl).2.1
      have hn5 : os.length ≤ 5 := by have h1 := ordB_iff.1 hv; have := (sv_all h1.1).2; omega
      clear hl hv FIN
      go_enter Try.func15, Try.ntmps15
      go_wp2_with fail
      rw [← HW.out]
      refine (specOrderValid_any _ _ _ _ _ _ _ HR.out HO.out hn hc).mono ?_
      rintro e w1 ⟨rfl, b1⟩
      rw [HV.out]
      go_wp2_with fail
      refine (specJobsLegal_any _ _ _ _ _ _ _ (HR.out.below b1) (HJ.out.below b1) (by omega) hjn).mono ?_
      rintro e w2 ⟨rfl, b2⟩
      rw [HL.out]
      have b12 := b1.trans (b2.mono b1.size)
      have hs2 := b12.size
      clear b1 b2
      go_wp2
      go_loopg [7, 8] js.length (fun m s i wr => ∃ k : Nat, m + k = js.length ∧ i = .int .i64 k ∧ OwnI wr w2.heap.size s k (fun k => ((fxP os js).key k : Nat)) ∧ Below W.heap.size W wr ∧ Below w2.heap.size w2 wr)
      case atStart => exact ⟨0, rfl, rfl, OwnI.empty w2 _, b12.alloc hs2 _, below_box _ _⟩
      case round =>
        obtain ⟨k, hk, rfl, ho, B, B'⟩ := hrel
        have HKK := Lib.hid hk
        have HOW := Lib.hid ho
        have hkk : k ≤ js.length := by omega
        clear hk ho
        by_cases hlt : k < js.length
        · have RJ := Lib.hid (HJ.out.below B)
          obtain ⟨bj, oj, rfl, hbj, x0, _, _, _⟩ := RJ.out k hlt
          have hid := jid_at HL.out hlt
          rw [hid.2] at x0
          have HKEY := Lib.hid (show (fxP os js).key k = rk os (jid js k) from rfl)
          have CI := l4Index_any oa ocap os.length (fun k => os.getD k 0) ((jid js k : Nat) : Int) wr (HO.out.below B) (by omega)
          rw [idF_rk HV.out hid.1] at CI
          obtain ⟨t, ht⟩ : ∃ t, t = jid js k := ⟨_, rfl⟩
          rw [← ht] at x0 CI HKEY
          obtain ⟨r, hr⟩ : ∃ r, r = rk os t := ⟨_, rfl⟩
          rw [← hr] at CI HKEY
          have CI := Lib.hid CI
          clear ht hr hid
          have hk0 : (0 : Int) ≤ k := by omega
          have hk1 : (k : Int) < js.length := by omega
          go_wp2_with fail
          refine CI.out.mono ?_
          rintro e w3 ⟨rfl, rfl⟩
          go_wp2_with (at_builtin; refine wpList_append_own _ rfl (.tmp 27) (.tmp 35) 23 rfl w2.heap.size 3 i0 _ 1 8 Try.underlying23 HI.out.1 HI.out.2.1 HI.out.2.2.1 HI.out.2.2.2 rfl (by decide) _ k (vals (fun k => ((fxP os js).key k : Nat)) k) rfl (World.ownsRow.alloc HOW.out _) ⟨wr.heap.size, 0, none⟩ 1 1 [.int .i64 (r : Int)] rfl rfl (news1 _ _ _) (one1 _) (by unfold maxLen; omega) (by omega) (Nat.le_trans B'.size (below_box _ _).size) ?_; intro v' w' hown' hgrow hnil)
          have B1 : Below w2.heap.size w2 w' := (B'.trans ((below_box wr _).mono B'.size)).grown hgrow (Nat.le_trans B'.size (below_box _ _).size) (fun k hk => HOW.out.from k hk)
          have B2 : Below W.heap.size W w' := b12.trans (B1.mono hs2)
          have HO1 := Lib.hid (show OwnI w' w2.heap.size v' (k + 1) (fun k => ((fxP os js).key k : Nat)) by unfold OwnI; rw [vals_succ, HKEY.out]; exact hown')
          clear hown' hgrow hnil
          go_roundg (gk - 1)
          case measure => have := HKK.out; omega
          case rel => exact ⟨k + 1, by have := HKK.out; omega, by go_num, HO1.out, B2, B1⟩
        · obtain rfl : k = js.length := by omega
          obtain ⟨ka, kcap, rfl, hIF, _⟩ := HOW.out.intF
          have KF := Lib.hid hIF
          clear hIF
          go_wp2_with fail
          refine (l3Run_any _ _ _ _ js (fxP os js) _ (HJ.out.below B) KF.out (fx_fits HL.out os) (fun k hk => (fx_ex HL.out os k hk).2) h60).mono ?_
          rintro e w4 ⟨⟨vr, vf, rfl, o1, o2, ap⟩, b4⟩
          have B4 := B.trans (b4.mono B.size)
          have y1 := (B4.cell (p := ⟨w.heap.size, 0, none⟩) sW).trans q1
          have y2 := (B4.cell (p := ⟨w.heap.size, 1, none⟩) sW).trans q2
          have y3 := (B4.frozen (p := ⟨w.heap.size, 0, none⟩) sW).trans q3
          have y4 := (B4.frozen (p := ⟨w.heap.size, 1, none⟩) sW).trans q4
          obtain ⟨ar, capr, rfl⟩ := own_shape o1
          obtain ⟨af, capf, rfl⟩ := own_shape o2
          have BB := Lib.hid (BW.trans (B4.mono BW.size))
          have O := Lib.hid (And.intro o1 (And.intro o2 ap))
          have hlr : w.heap.size < wr.heap.size := Nat.lt_of_lt_of_le sW B.size
          clear o1 o2 ap q1 q2 q3 q4 b4 B4
          go_wp2
          refine bodyPost_ret (v := .agg #[.slice ar 120 capr, .slice af js.length capf]) ?_ rfl ⟨⟨_, _, rfl, ?_, ?_, O.out.2.2⟩, (BB.out.setCell (Nat.le_refl _) _).setCell (Nat.le_refl _) _⟩
          · simp [results, Try.results15, go_sem, y1, y2]
          · rw [lenRF, if_pos HK.out]
            exact ((O.out.1.other fun e => by have := (O.out.1.lt _ e).1; simp at this; omega).other fun e => by have := (O.out.1.lt _ e).1; simp at this; omega).mono (by omega)
          · rw [lenFF, if_pos HK.out]
            exact ((O.out.2.1.other fun e => by have := (O.out.2.1.lt _ e).1; simp at this; omega).other fun e => by have := (O.out.2.1.lt _ e).1; simp at this; omega).mono (by omega)

end Go.Proofs.Ytocppoobcanhiab

namespace Go.Proofs.Ytocppoobcanhiab
open Go.RowKit Go.Deep

theorem run_make_permN (n : Nat) (hn : n ≤ 1099511627776) (w : World) :
    (Instr.makeSlice 74 (.int .i64 (n : Int)) (.int .i64 (n : Int))).run Try.prog w = .ok (.slice (some ⟨w.heap.size, 0, none⟩) n n) (w.alloc (.cells (madeCells #[.int .i64 0] n) 3)) := by
  obtain ⟨i, hi, hz, hs, hb⟩ := info_parts intInfo
  have h := run_make (P := Try.prog) w 74 3 i _ Try.underlying74 hi hz .i64 .i64 (n : Int) (n : Int) (by omega) (by omega) (by rw [hb]; omega) (by omega)
  rw [hs] at h
  simpa [Value.cells] using h
/-- The places of the first k tasks of an order. -/
def rkK (os : List Int) (k i : Nat) : Int := if rk os i < k then (rk os i : Nat) else 0
theorem rkK_step {ts : List T3} {os : List Int} (h : ordB ts os = true) {k y : Nat} (hk : k < os.length) (hy : os.getD k 0 = (y : Int)) (i : Nat) (hi : i < ts.length) : (if i = y then (k : Int) else rkK os k i) = rkK os (k + 1) i := by
  have hp := rk_place' h hk hy
  unfold rkK
  by_cases e : i = y
  · subst e
    rw [if_pos rfl, if_pos (by omega), hp]
  · rw [if_neg e]
    have hyl : y < ts.length := by have := ord_at h hk; omega
    have hne : rk os i ≠ k := fun e2 => e (rk_inj h i y hi hyl (e2.trans hp.symm))
    by_cases hl : rk os i < k
    · rw [if_pos hl, if_pos (by omega)]
    · rw [if_neg hl, if_neg (by omega)]

set_option maxHeartbeats 1000000 in
/-- impl.permutation.inverse. -/
theorem inverse_any (oa : Option Addr) (ocap : Nat) (ts : List T3) (os : List Int) (w : World) (ho : IntF w oa os.length fun k => os.getD k 0) (hv : ordB ts os = true) :
    Calls Try.prog 58 #[.slice oa os.length ocap] w fun e w' =>
      (∃ v, e = .returned v ∧ OwnI w' w.heap.size v os.length (fun i => (rk os i : Nat))) ∧ Below w.heap.size w w' := by
  have HO := Lib.hid ho
  have HV := Lib.hid hv
  have HLN := Lib.hid (ordB_iff.1 hv).2.1
  have hn5 : os.length ≤ 5 := by have h1 := ordB_iff.1 hv; have := (sv_all h1.1).2; omega
  clear ho hv
  have hmk := run_make_permN os.length (by omega)
  go_enter Try.func58, Try.ntmps58
  go_wp2
  clear hmk
  go_loopg [11] os.length (fun m i wr => ∃ k : Nat, m + k = os.length ∧ i = .int .i64 k ∧ OwnI wr w.heap.size (.slice (some ⟨w.heap.size, 0, none⟩) os.length os.length) os.length (rkK os k) ∧ Below w.heap.size w wr)
  case atStart => exact ⟨0, rfl, rfl, (rowIs_ownI (World.rowIs_made w (.int .i64 0) os.length 3) (Nat.le_refl _) (by unfold maxLen; omega)).congr (fun j _ => by simp [rkK]), below_box _ _⟩
  case round =>
    obtain ⟨k, hk, rfl, hown, hb⟩ := hrel
    have HK := Lib.hid hk
    have HW := Lib.hid hown
    have hk' : k ≤ os.length := by omega
    clear hk hown
    by_cases hlt : k < os.length
    · obtain ⟨b, off, rfl, hbs, c0⟩ := HO.out.below hb k hlt
      have hyb := ord_at HV.out hlt
      obtain ⟨y, hy⟩ : ∃ y, y = (os.getD k 0).toNat := ⟨_, rfl⟩
      have hy' : os.getD k 0 = (y : Int) := by omega
      have HY := Lib.hid hy'
      simp only [hy'] at c0
      have hyl : y < os.length := by have := HLN.out; omega
      have hy0 : (0 : Int) ≤ y := by omega
      have hy1 : (y : Int) < os.length := by omega
      have hk0 : (0 : Int) ≤ k := by omega
      have hk1 : (k : Int) < os.length := by omega
      have hcell := HW.out.cellAt hyl
      have z0 := hcell.1
      have z1 := hcell.2.1
      clear hy hyb hy' hcell
      go_wp2
      go_roundg (gk - 1)
      case measure => have := HK.out; omega
      case rel => exact ⟨k + 1, by have := HK.out; omega, by go_num, (HW.out.set hyl _).congr (fun j hj => rkK_step HV.out hlt HY.out j (by have := HLN.out; omega)), hb.setCell (Nat.le_refl _) _⟩
    · obtain rfl : k = os.length := by omega
      go_wp2
      go_ret
      exact ⟨⟨_, rfl, HW.out.congr fun j hj => by unfold rkK; rw [if_pos (rk_lt (ord_all HV.out (by have := HLN.out; omega)))]⟩, hb⟩

/-- Orders jobs by place, then by index. -/
def fixK (os : List Int) (js : List J4) : Nat → Nat := fun x => rk os (jid js x) * 64 + x
theorem fixK_lt {os : List Int} {js : List J4} (hn : js.length ≤ 60) {x y : Nat} (hx : x < js.length) (hy : y < js.length) : fixK os js x < fixK os js y ↔ rk os (jid js x) < rk os (jid js y) ∨ (rk os (jid js x) = rk os (jid js y) ∧ x < y) := by
  unfold fixK
  omega

set_option maxRecDepth 100000 in
set_option maxHeartbeats 1000000 in
/-- The comparison of impl.RunFixed: job x comes before job y. -/
theorem beforeF_any (pb cb : Nat) (pa ja : Option Addr) (pcap jcap : Nat) (ts : List T3) (os : List Int) (js : List J4) (x y : Nat) (w : World) (hp : w.cell? ⟨pb, 0, none⟩ = some (.slice pa os.length pcap)) (hc : w.cell? ⟨cb, 0, none⟩ = some (.slice ja js.length jcap)) (hj : RowJ w ja js)
    (hi : IntF w pa os.length fun i => (rk os i : Nat)) (hl : legB ts js = true) (hlen : os.length = ts.length) (hx : x < js.length) (hy : y < js.length) :
    Calls Try.prog 60 #[.int .i64 (x : Int), .int .i64 (y : Int), .pointer (some ⟨pb, 0, none⟩), .pointer (some ⟨cb, 0, none⟩)] w fun e w' =>
      e = .returned (.bool (decide (fixK os js x < fixK os js y))) ∧ Below w.heap.size w w' := by
  have h60 := (legB_iff.1 hl).2.1
  have HK := Lib.hid (fixK_lt (os := os) h60 hx hy)
  obtain ⟨bj, oj, rfl, hbj, x0, _, _, _⟩ := hj x hx
  obtain ⟨bj', oj', e, _, y0, _, _, _⟩ := hj y hy
  simp only [Option.some.injEq, Addr.mk.injEq, and_true] at e
  obtain ⟨rfl, rfl⟩ := e
  have jx := jid_at hl hx
  have jy := jid_at hl hy
  rw [jx.2] at x0
  rw [jy.2] at y0
  obtain ⟨tx, htx⟩ : ∃ t, t = jid js x := ⟨_, rfl⟩
  obtain ⟨ty, hty⟩ : ∃ t, t = jid js y := ⟨_, rfl⟩
  rw [← htx] at x0 jx HK
  rw [← hty] at y0 jy HK
  have ltx : tx < os.length := by omega
  have lty : ty < os.length := by omega
  obtain ⟨bp, op, rfl, hbp, c0⟩ := hi tx ltx
  obtain ⟨bp', op', e, _, d0⟩ := hi ty lty
  simp only [Option.some.injEq, Addr.mk.injEq, and_true] at e
  obtain ⟨rfl, rfl⟩ := e
  obtain ⟨rx, hrx⟩ : ∃ t, t = rk os tx := ⟨_, rfl⟩
  obtain ⟨ry, hry⟩ : ∃ t, t = rk os ty := ⟨_, rfl⟩
  simp only [← hrx] at c0
  simp only [← hry] at d0
  rw [← hrx, ← hry] at HK
  clear hj hi hl htx hty hrx hry jx jy hlen h60
  have hx0 : (0 : Int) ≤ x := by omega
  have hx1 : (x : Int) < js.length := by omega
  have hy0 : (0 : Int) ≤ y := by omega
  have hy1 : (y : Int) < js.length := by omega
  have tx0 : (0 : Int) ≤ tx := by omega
  have tx1 : (tx : Int) < os.length := by omega
  have ty0 : (0 : Int) ≤ ty := by omega
  have ty1 : (ty : Int) < os.length := by omega
  obtain ⟨c1, hc1⟩ : ∃ c, c = cmpI (rx : Int) ry := ⟨_, rfl⟩
  obtain ⟨c2, hc2⟩ : ∃ c, c = cmpI (x : Int) y := ⟨_, rfl⟩
  have C1 := fun W => compare_any (rx : Int) (ry : Int) W
  have C2 := fun W => compare_any (x : Int) (y : Int) W
  rw [← hc1] at C1
  rw [← hc2] at C2
  have HC := Lib.hid (And.intro hc1 hc2)
  clear hc1 hc2
  go_enter Try.func60, Try.ntmps60
  go_wp2
  refine wp_region_still_tail 20 (by kernel_rfl) (by kernel_rfl) ?_
  simp only [List.take_succ_cons, List.take_zero, List.drop_succ_cons, List.drop_zero]
  change wpStill _ _ w.drew (fun a' => wpList _ _ _ _ a' w.drew) _ _
  iterate 16 still_step
  still_call (C1 _)
  iterate 2 still_step
  still_call (C2 _)
  refine wpStill_nil ?_
  generalize hW : w.drew = W
  have HW := Lib.hid hW
  clear hW C1 C2
  go_wp2_with fail
  refine (or_new _ _ _).mono ?_
  rintro e w' ⟨rfl, rfl⟩
  obtain ⟨c3, hc3⟩ : ∃ c, c = orI c1 c2 := ⟨_, rfl⟩
  rw [← hc3]
  have HC3 := Lib.hid hc3
  clear hc3
  go_wp2
  go_ret
  refine ⟨ret_bool ?_, ?_⟩
  · rw [HC3.out, HC.out.1, HC.out.2]
    exact decide_eq_decide.2 ((orI_lt _ _ _ _).trans (by rw [HK.out]; omega))
  · rw [← HW.out]
    exact (Below.refl _ _).drew.alloc (Nat.le_refl _) _

set_option maxRecDepth 100000 in
set_option maxHeartbeats 2000000 in
/-- impl.RunFixed. -/
theorem runFixed_any (a oa ja : Option Addr) (cap ocap jcap : Nat) (ts : List T3) (os : List Int) (js : List J4) (w : World) (hr : Row w a ts) (ho : IntF w oa os.length fun k => os.getD k 0) (hj : RowJ w ja js) (hn : ts.length ≤ 1099511627776) (hjn : js.length ≤ 1099511627776) :
    Calls Try.prog 19 #[.slice a ts.length cap, .slice oa os.length ocap, .slice ja js.length jcap] w fun e w' =>
      FixSched w.heap.size ts os js e w' ∧ Below w.heap.size w w' := by
  obtain ⟨W, hW⟩ : ∃ W, W = (w.alloc (.cells #[.slice ja js.length jcap] 33)).alloc (.cells #[.slice none 0 0, .slice none 0 0] 28) := ⟨_, rfl⟩
  have BW : Below w.heap.size w W := by rw [hW]; exact (below_box _ _).alloc (by simp) _
  have sW : w.heap.size + 1 < W.heap.size := by rw [hW]; simp
  have q0 : W.cell? ⟨w.heap.size, 0, none⟩ = some (.slice ja js.length jcap) := by rw [hW]; simp [go_sem]
  have q1 : W.cell? ⟨w.heap.size + 1, 0, none⟩ = some (.slice none 0 0) := by rw [hW]; simp [go_sem]
  have q2 : W.cell? ⟨w.heap.size + 1, 1, none⟩ = some (.slice none 0 0) := by rw [hW]; simp [go_sem]
  have q3 : W.frozen? ⟨w.heap.size + 1, 0, none⟩ = false := by rw [hW]; simp [go_sem]
  have q4 : W.frozen? ⟨w.heap.size + 1, 1, none⟩ = false := by rw [hW]; simp [go_sem]
  have HR := Lib.hid (hr.below BW)
  have HO := Lib.hid (ho.below BW)
  have HJ := Lib.hid (hj.below BW)
  have HW := Lib.hid hW
  clear hr ho hj hW
  have FIN : ∀ W1, Below W.heap.size W W1 → okF ts os js = false → FixSched w.heap.size ts os js (.returned (.agg #[.slice none 0 0, .slice none 0 0])) ((W1.setCell ⟨w.heap.size + 1, 0, none⟩ (.slice none 0 0)).setCell ⟨w.heap.size + 1, 1, none⟩ (.slice none 0 0)) ∧ Below w.heap.size w ((W1.setCell ⟨w.heap.size + 1, 0, none⟩ (.slice none 0 0)).setCell ⟨w.heap.size + 1, 1, none⟩ (.slice none 0 0)) := fun W1 B1 hk => by
    refine ⟨⟨_, _, rfl, ?_, ?_, Apart.nil _⟩, ((BW.trans (B1.mono BW.size)).setCell (by simp) _).setCell (by simp) _⟩
    · rw [lenRF, if_neg (by rw [hk]; simp)]
      exact OwnI.nil _ _ _
    · rw [lenFF, if_neg (by rw [hk]; simp)]
      exact OwnI.nil _ _ _
  have FIN := Lib.hid FIN
  cases hv : ordB ts os with
  | false =>
    have hk : okF ts os js = false := by rw [okF, hv]; rfl
    go_enter Try.func19, Try.ntmps19
    go_wp2_with fail
    rw [← HW.out]
    refine (orderValid_any _ _ _ _ _ _ _ HR.out HO.out hn).mono ?_
    rintro e w1 ⟨rfl, b1⟩
    rw [hv]
    have x1 := (b1.cell (p := ⟨w.heap.size + 1, 0, none⟩) sW).trans q1
    have x2 := (b1.cell (p := ⟨w.heap.size + 1, 1, none⟩) sW).trans q2
    have x3 := (b1.frozen (p := ⟨w.heap.size + 1, 0, none⟩) sW).trans q3
    have x4 := (b1.frozen (p := ⟨w.heap.size + 1, 1, none⟩) sW).trans q4
    clear q0 q1 q2 q3 q4
    go_wp2
    refine bodyPost_ret (v := .agg #[.slice none 0 0, .slice none 0 0]) ?_ rfl (FIN.out _ b1 hk)
    simp [results, Try.results19, go_sem, x1, x2]
  | true =>
    have HV := Lib.hid hv
    cases hl : legB ts js with
    | false =>
      have hk : okF ts os js = false := by rw [okF, hl, Bool.and_false]
      go_enter Try.func19, Try.ntmps19
      go_wp2_with fail
      rw [← HW.out]
      refine (orderValid_any _ _ _ _ _ _ _ HR.out HO.out hn).mono ?_
      rintro e w1 ⟨rfl, b1⟩
      rw [hv]
      have x0 := (b1.cell (p := ⟨w.heap.size, 0, none⟩) (show w.heap.size < _ by omega)).trans q0
      go_wp2_with fail
      refine (jobsLegal_any _ _ _ _ _ _ _ (HR.out.below b1) (HJ.out.below b1) hn hjn).mono ?_
      rintro e w2 ⟨rfl, b2⟩
      rw [hl]
      have b12 := b1.trans (b2.mono b1.size)
      have x1 := (b12.cell (p := ⟨w.heap.size + 1, 0, none⟩) sW).trans q1
      have x2 := (b12.cell (p := ⟨w.heap.size + 1, 1, none⟩) sW).trans q2
      have x3 := (b12.frozen (p := ⟨w.heap.size + 1, 0, none⟩) sW).trans q3
      have x4 := (b12.frozen (p := ⟨w.heap.size + 1, 1, none⟩) sW).trans q4
      clear q0 q1 q2 q3 q4 x0
      go_wp2
      refine bodyPost_ret (v := .agg #[.slice none 0 0, .slice none 0 0]) ?_ rfl (FIN.out _ b12 hk)
      simp [results, Try.results19, go_sem, x1, x2]
    | true =>
      have HL := Lib.hid hl
      have HK := Lib.hid (okF_iff.2 ⟨hv, hl⟩)
      have h60 := (legB_iff.1 hl).2.1
      have HLN := Lib.hid (ordB_iff.1 hv).2.1
      clear hl hv FIN
      go_enter Try.func19, Try.ntmps19
      go_wp2_with fail
      rw [← HW.out]
      refine (orderValid_any _ _ _ _ _ _ _ HR.out HO.out hn).mono ?_
      rintro e w1 ⟨rfl, b1⟩
      rw [HV.out]
      have x0 := (b1.cell (p := ⟨w.heap.size, 0, none⟩) (show w.heap.size < _ by omega)).trans q0
      go_wp2_with fail
      refine (jobsLegal_any _ _ _ _ _ _ _ (HR.out.below b1) (HJ.out.below b1) hn hjn).mono ?_
      rintro e w2 ⟨rfl, b2⟩
      rw [HL.out]
      have b12 := b1.trans (b2.mono b1.size)
      clear b1 b2 x0
      go_wp2_with fail
      refine (inverse_any _ _ ts os _ (HO.out.below b12) HV.out).mono ?_
      rintro e w3 ⟨⟨v, rfl, hov⟩, b3⟩
      obtain ⟨pa, pcap, rfl⟩ := own_shape hov
      have b13 := b12.trans (b3.mono b12.size)
      obtain ⟨w4, hw4⟩ : ∃ w4, w4 = w3.alloc (.cells #[.slice pa os.length pcap] 74) := ⟨_, rfl⟩
      have b4 : Below w3.heap.size w3 w4 := by rw [hw4]; exact below_box _ _
      have p0 : w4.cell? ⟨w3.heap.size, 0, none⟩ = some (.slice pa os.length pcap) := by rw [hw4]; simp [go_sem]
      have b14 := b13.trans (b4.mono b13.size)
      have IP := Lib.hid ((hov.intF').below b4)
      have s4 : w3.heap.size < w4.heap.size := by rw [hw4]; simp
      have x0 := (b13.cell (p := ⟨w.heap.size, 0, none⟩) (show w.heap.size < _ by omega)).trans q0
      have z0 := (b14.cell (p := ⟨w.heap.size, 0, none⟩) (show w.heap.size < _ by omega)).trans q0
      have z0u : (w3.alloc (.cells #[.slice pa os.length pcap] 74)).cell? ⟨w.heap.size, 0, none⟩ = some (.slice ja js.length jcap) := by rw [← hw4]; exact z0
      have J4 := Lib.hid (HJ.out.below b14)
      have HW4 := Lib.hid hw4
      have s14 := b14.size
      have hcb : w.heap.size < w4.heap.size := by omega
      have hne : ¬ w.heap.size = w3.heap.size := by have := b13.size; omega
      clear hov b12 b3 hw4 x0
      go_wp2_with fail
      rw [← HW4.out]
      clear z0u
      have hCmp : Cmp w4 (.func (.func 60) #[] #[.pointer (some ⟨w3.heap.size, 0, none⟩), .pointer (some ⟨w.heap.size, 0, none⟩)]) ja jcap js (fixK os js) := ⟨J4.out, .inr ⟨w3.heap.size, w.heap.size, rfl, fun V x y hB hx hy =>
        beforeF_any w3.heap.size w.heap.size pa ja pcap jcap ts os js x y V ((hB.cell (p := ⟨w3.heap.size, 0, none⟩) s4).trans p0) ((hB.cell (p := ⟨w.heap.size, 0, none⟩) hcb).trans z0) (J4.out.below hB) (IP.out.below hB) HL.out HLN.out hx hy⟩⟩
      refine (simulated_any ja jcap (.func (.func 60) #[] #[.pointer (some ⟨w3.heap.size, 0, none⟩), .pointer (some ⟨w.heap.size, 0, none⟩)]) js (fxP os js) (fixK os js) w4 hCmp (fx_fits HL.out os) (fx_ex HL.out os) h60 (fun i j h1 h2 => leg_rel HL.out h1 h2) (fun x y hx hy => fixK_lt h60 hx hy)).mono ?_
      rintro e w5 ⟨⟨vr, vf, rfl, o1, o2, ap⟩, b5⟩
      have b15 := b14.trans (b5.mono b14.size)
      have y1 := (b15.cell (p := ⟨w.heap.size + 1, 0, none⟩) sW).trans q1
      have y2 := (b15.cell (p := ⟨w.heap.size + 1, 1, none⟩) sW).trans q2
      have y3 := (b15.frozen (p := ⟨w.heap.size + 1, 0, none⟩) sW).trans q3
      have y4 := (b15.frozen (p := ⟨w.heap.size + 1, 1, none⟩) sW).trans q4
      obtain ⟨ar, capr, rfl⟩ := own_shape o1
      obtain ⟨af, capf, rfl⟩ := own_shape o2
      have BB := Lib.hid (BW.trans (b15.mono BW.size))
      have O := Lib.hid (And.intro o1 (And.intro o2 ap))
      clear o1 o2 ap z0 p0 q0 q1 q2 q3 q4 hCmp b5 b15 b14 b13 b4
      go_wp2
      refine bodyPost_ret (v := .agg #[.slice ar 120 capr, .slice af js.length capf]) ?_ rfl ⟨⟨_, _, rfl, ?_, ?_, O.out.2.2⟩, (BB.out.setCell (by simp) _).setCell (by simp) _⟩
      · simp [results, Try.results19, go_sem, y1, y2]
      · rw [lenRF, if_pos HK.out]
        exact ((O.out.1.other fun e => by have := (O.out.1.lt _ e).1; simp at this; omega).other fun e => by have := (O.out.1.lt _ e).1; simp at this; omega).mono (by omega)
      · rw [lenFF, if_pos HK.out]
        exact ((O.out.2.1.other fun e => by have := (O.out.2.1.lt _ e).1; simp at this; omega).other fun e => by have := (O.out.2.1.lt _ e).1; simp at this; omega).mono (by omega)

end Go.Proofs.Ytocppoobcanhiab

namespace Go.Proofs.Ytocppoobcanhiab
open Go.RowKit Go.Deep

/-- laws.sameInts, of two slices that hold the same. -/
theorem sameInts_same (a a' : Option Addr) (cap cap' n : Nat) (f : Nat → Int) (w : World) (h : IntF w a n f) (h' : IntF w a' n f) (hn : n ≤ 1048576) :
    Calls Try.prog 44 #[.slice a n cap, .slice a' n cap'] w fun e w' =>
      e = .returned (.bool true) ∧ ∃ m, w' = w.drewN m := by
  go_enter Try.func44, Try.ntmps44
  go_wp2
  go_loopg [5] n (fun m i wr => ∃ k : Nat, m + k = n ∧ i = .int .i64 k ∧ ∃ l, wr = w.drewN l)
  case atStart => exact ⟨0, rfl, rfl, 0, rfl⟩
  case round =>
    obtain ⟨k, hk, rfl, l, hwr⟩ := hrel
    have HK := Lib.hid hk
    have HW := Lib.hid hwr
    have hkk : k ≤ n := by omega
    clear hk
    by_cases hlt : k < n
    · obtain ⟨b, off, rfl, _, x0⟩ := h k hlt
      obtain ⟨b', off', rfl, _, y0⟩ := h' k hlt
      have g0 : wr.cell? ⟨b, off + k, none⟩ = some (.int .i64 (f k)) := by rw [hwr]; exact x0
      have g1 : wr.cell? ⟨b', off' + k, none⟩ = some (.int .i64 (f k)) := by rw [hwr]; exact y0
      obtain ⟨c, hc⟩ : ∃ c, c = f k := ⟨_, rfl⟩
      rw [← hc] at g0 g1
      have hk0 : (0 : Int) ≤ k := by omega
      have hk1 : (k : Int) < n := by omega
      clear x0 y0 h h' hwr hc
      go_wp2
      go_quiet (fail)
      go_wp2
      go_roundg (gk - 1)
      case measure => have := HK.out; omega
      case rel => exact ⟨k + 1, by have := HK.out; omega, by go_num, l + nq, by rw [HW.out, World.drewN_drewN]⟩
    · obtain rfl : k = n := by omega
      clear hwr
      go_wp2
      go_ret
      exact ⟨rfl, l, HW.out⟩

/-- laws.sameSchedule, of two schedules that hold the same. -/
theorem sameSchedule_same (r f r' f' : Option Addr) (c1 c2 c3 c4 n m : Nat) (fr ff : Nat → Int) (w : World) (h1 : IntF w r n fr) (h2 : IntF w f m ff) (h3 : IntF w r' n fr) (h4 : IntF w f' m ff) (hn : n ≤ 1048576) (hm : m ≤ 1048576) :
    Calls Try.prog 39 #[.agg #[.slice r n c1, .slice f m c2], .agg #[.slice r' n c3, .slice f' m c4]] w fun e w' =>
      e = .returned (.bool true) ∧ Below w.heap.size w w' := by
  have b0 : ∀ o1 o2, Below w.heap.size w ((w.alloc o1).alloc o2) := fun o1 o2 => (below_box _ _).alloc (by simp) _
  have H1 := Lib.hid fun o1 o2 => h1.below (b0 o1 o2)
  have H2 := Lib.hid fun o1 o2 => h2.below (b0 o1 o2)
  have H3 := Lib.hid fun o1 o2 => h3.below (b0 o1 o2)
  have H4 := Lib.hid fun o1 o2 => h4.below (b0 o1 o2)
  have B0 := Lib.hid b0
  clear h1 h2 h3 h4 b0
  go_enter Try.func39, Try.ntmps39
  go_wp2_with fail
  refine (sameInts_same _ _ _ _ _ fr _ (H1.out _ _) (H3.out _ _) hn).mono ?_
  rintro e w1 ⟨rfl, m1, rfl⟩
  go_wp2_with fail
  refine (sameInts_same _ _ _ _ _ ff _ ((H2.out _ _).below (below_drewN _ _)) ((H4.out _ _).below (below_drewN _ _)) hm).mono ?_
  rintro e w2 ⟨rfl, m2, rfl⟩
  go_wp2
  go_ret
  exact ⟨rfl, below_drewN' (B0.out _ _) _⟩

end Go.Proofs.Ytocppoobcanhiab

namespace Go.Proofs.Ytocppoobcanhiab
open Go.RowKit Go.Deep

set_option maxHeartbeats 1000000 in
/-- laws.toIntS. -/
theorem toIntS_any (a : Option Addr) (cap n : Nat) (f : Nat → Int) (w : World) (h : IntF w a n f) (hn : n ≤ 1099511627776) :
    Calls Try.prog 17 #[.slice a n cap] w fun e w' =>
      e = .returned (.slice (some ⟨w.heap.size, 0, none⟩) n n) ∧ OwnI w' w.heap.size (.slice (some ⟨w.heap.size, 0, none⟩) n n) n f ∧ Below w.heap.size w w' := by
  have hmk := run_make_ints n hn
  have HF := Lib.hid h
  clear h
  go_enter Try.func17, Try.ntmps17
  go_wp2
  clear hmk
  go_loopg [4] n (fun m i wr => ∃ k : Nat, m + k = n ∧ i = .int .i64 k ∧ wr.rowIs w.heap.size 3 n (fun j => .int .i64 (if j < k then f j else 0)) ∧ Below w.heap.size w wr)
  case atStart => exact ⟨0, rfl, rfl, (World.rowIs_made w (.int .i64 0) n 3).congr fun j _ => by rw [if_neg (Nat.not_lt_zero _)], below_box _ _⟩
  case round =>
    obtain ⟨k, hk, rfl, hr, B⟩ := hrel
    have HK := Lib.hid hk
    have HW := Lib.hid hr
    have hkk : k ≤ n := by omega
    clear hk hr
    by_cases hlt : k < n
    · obtain ⟨bf, of, rfl, hbf, y0⟩ := HF.out.below B k hlt
      have z0 := HW.out.cell hlt
      have z1 := HW.out.frozen k
      have hk0 : (0 : Int) ≤ k := by omega
      have hk1 : (k : Int) < n := by omega
      go_wp2
      go_roundg (gk - 1)
      case measure => have := HK.out; omega
      case rel => exact ⟨k + 1, by have := HK.out; omega, by go_num, (HW.out.set k (.int .i64 (f k))).congr fun j _ => by
          by_cases e : j = k
          · subst e; rw [if_pos rfl, if_pos (by omega)]
          · rw [if_neg e]
            by_cases e2 : j < k
            · rw [if_pos e2, if_pos (by omega)]
            · rw [if_neg e2, if_neg (by omega)], B.setCell (Nat.le_refl _) _⟩
    · obtain rfl : k = n := by omega
      go_wp2
      go_ret
      exact ⟨rfl, rowIs_ownI (HW.out.congr fun j hj => by rw [if_pos hj]) (Nat.le_refl _) (by unfold maxLen; omega), B⟩

end Go.Proofs.Ytocppoobcanhiab

namespace Go.Proofs.Ytocppoobcanhiab
open Go.ChangeShapes Go.WideShapes Go.ChangeAt Go.RowKit Go.Joins Go.Deep

theorem ownKnobs : ownKnob Try.prog.godebug = none := by kernel_rfl
theorem laidOut : laidOutB Try.prog = true := by kernel_rfl
theorem cellsLawTask : Try.prog.cellsOf 71 = 3 := by kernel_rfl

set_option maxRecDepth 100000 in
/-- A task that came in. -/
theorem task_of_arg {H : Type} {enc : TypeId × Value → H} {W : World} {base : Nat} {v : Value} {d : DataW H} {p : List MemPlace}
    (hv : Value.okWide Try.prog W .any base 71 v) (h : DataW.Trod enc Try.prog W 0 (fun _ => true) true 71 v d p) :
    ∃ x y z : Int, v = .agg #[.int .i64 x, .int .i64 y, .int .i64 z] := by
  obtain ⟨c0, c1, c2, y0, y1, y2, m, rfl, rfl, rfl, hy0, hy1, hy2⟩ := open_agg3 Try.underlying71 (by kernel_rfl) cellsLawTask hv h
  obtain ⟨a, e0, _, _⟩ := DataW.trod_int Try.underlying3 hy0
  obtain ⟨b, e1, _, _⟩ := DataW.trod_int Try.underlying3 hy1
  obtain ⟨c, e2, _, _⟩ := DataW.trod_int Try.underlying3 hy2
  simp at e0 e1 e2
  subst e0 e1 e2
  exact ⟨a, b, c, rfl⟩

set_option maxRecDepth 100000 in
/-- An int that came in. -/
theorem int_of_arg {H : Type} {enc : TypeId × Value → H} {W : World} {base : Nat} {v : Value} {d : DataW H} {p : List MemPlace}
    (hv : Value.okWide Try.prog W .any base 3 v) (h : DataW.Trod enc Try.prog W 0 (fun _ => true) true 3 v d p) :
    ∃ n : Int, v = .int .i64 n ∧ -9223372036854775808 ≤ n ∧ n ≤ 9223372036854775807 := by
  obtain ⟨n, rfl, rfl, rfl, hw⟩ := open_int Try.underlying3 hv h
  refine ⟨n, rfl, ?_⟩
  simp [Lit.wf, IntKind.min, IntKind.max, IntKind.signed, IntKind.bits] at hw
  omega

set_option maxRecDepth 100000 in
/-- A slice of tasks that came in. -/
theorem row_of_arg {H : Type} {enc : TypeId × Value → H} {W : World} {base : Nat} {v : Value} {d : DataW H} {p : List MemPlace}
    (hv : Value.okWide Try.prog W .any base 22 v) (h : DataW.Trod enc Try.prog W 0 (fun _ => true) true 22 v d p) :
    ∃ (a : Option Addr) (cap : Nat) (ts : List (Int × Int × Int)), v = .slice a ts.length cap ∧ Row W a ts ∧ ts.length ≤ maxLen := by
  obtain ⟨a0, len, cap, rfl⟩ := okWide_slice Try.underlying22 hv
  obtain ⟨fuel, hf⟩ := h
  rcases open_slice Try.underlying22 hf with ⟨hcs, _⟩ | ⟨a, l, c, m, n, D, Pl, hcs, _, hl, hm, hmm, _, hi⟩
  · simp [Value.cells] at hcs
    obtain ⟨rfl, rfl, rfl⟩ := hcs
    exact ⟨none, 0, [], rfl, fun k t hk => by simp at hk, by simp [maxLen]⟩
  · simp [Value.cells] at hcs
    obtain ⟨rfl, rfl, rfl⟩ := hcs
    simp only [if_true] at hmm
    subst hmm
    have hex : ∀ i : Nat, ∃ t : Int × Int × Int, i < len → W.cell? (a.add (i * 3)) = some (.int .i64 t.1) ∧ W.cell? ((a.add (i * 3)).add 1) = some (.int .i64 t.2.1) ∧ W.cell? ((a.add (i * 3)).add 2) = some (.int .i64 t.2.2) := by
      intro i
      by_cases hil : i < len
      · obtain ⟨cs', hc, ht⟩ := hi i (by omega)
        rw [cellsLawTask] at hc
        obtain ⟨y0, y1, y2, n', _, _, h0, h1, h2⟩ := trod_struct3 Try.underlying71 ht
        obtain ⟨x, e0, _, _⟩ := DataW.trod_int Try.underlying3 h0
        obtain ⟨y, e1, _, _⟩ := DataW.trod_int Try.underlying3 h1
        obtain ⟨z, e2, _, _⟩ := DataW.trod_int Try.underlying3 h2
        obtain ⟨_, hcl, hat⟩ := World.cells?_some hc
        have hi1 : Try.prog.cellsOf 3 = 1 := by kernel_rfl
        simp only [hi1] at e0 e1 e2
        match cs', hcl with
        | [v0, v1, v2], _ =>
          simp at e0 e1 e2
          subst e0 e1 e2
          refine ⟨(x, y, z), fun _ => ⟨?_, ?_, ?_⟩⟩
          · simpa [Addr.add] using hat 0 (by omega)
          · simpa using hat 1 (by omega)
          · simpa using hat 2 (by omega)
      · exact ⟨(0, 0, 0), fun h => absurd h hil⟩
    obtain ⟨T, hT⟩ := Classical.axiomOfChoice hex
    refine ⟨some a, m, (List.range len).map T, by simp, ?_, by simp; omega⟩
    intro k t hk
    obtain ⟨hkl, rfl⟩ : k < len ∧ T k = t := by
      rw [List.getElem?_map] at hk
      by_cases hkl : k < len
      · rw [List.getElem?_range hkl] at hk; exact ⟨hkl, by simpa using hk⟩
      · rw [List.getElem?_eq_none (by simp; omega)] at hk; simp at hk
    obtain ⟨b, off, spot⟩ := a
    have hsp : spot = none := by
      have := World.cell?_spot (hT 0 (by omega)).1
      simpa [Addr.add] using this
    subst hsp
    obtain ⟨h0, h1, h2⟩ := hT k hkl
    have hadd : (⟨b, off, none⟩ : Addr).add (k * 3) = ⟨b, off + k * 3, none⟩ := by
      unfold Addr.add
      split
      · simp_all
      · rfl
    rw [hadd] at h0 h1 h2
    refine ⟨b, off, rfl, ?_, h0, by simpa [Addr.add] using h1, by simpa [Addr.add] using h2⟩
    by_cases hb : b < W.heap.size
    · exact hb
    · have hnone : W.heap[b]? = none := Array.getElem?_eq_none (by omega)
      simp [World.cell?, hnone] at h0
end Go.Proofs.Ytocppoobcanhiab

namespace Go.Proofs.Ytocppoobcanhiab
open Go.ChangeShapes Go.WideShapes Go.ChangeAt Go.RowKit Go.Joins Go.Deep

set_option maxRecDepth 100000 in
/-- A slice of integers that came in. -/
theorem ints_of_arg {H : Type} {enc : TypeId × Value → H} {W : World} {base : Nat} {v : Value} {d : DataW H} {p : List MemPlace}
    (hv : Value.okWide Try.prog W .any base 23 v) (h : DataW.Trod enc Try.prog W 0 (fun _ => true) true 23 v d p) :
    ∃ (a : Option Addr) (cap : Nat) (os : List Int), v = .slice a os.length cap ∧ (IntF W a os.length fun k => os.getD k 0) ∧ os.length ≤ maxLen := by
  obtain ⟨a0, len, cap, rfl⟩ := okWide_slice Try.underlying23 hv
  obtain ⟨fuel, hf⟩ := h
  rcases open_ints Try.underlying23 Try.underlying3 (by kernel_rfl) hf with ⟨hcs, _⟩ | ⟨x, l, c, zs, hcs, _, hl, hm, hz, _, hcell, _⟩
  · simp [Value.cells] at hcs
    obtain ⟨rfl, rfl, rfl⟩ := hcs
    exact ⟨none, 0, [], rfl, fun k hk => absurd hk (Nat.not_lt_zero _), by simp [maxLen]⟩
  · simp [Value.cells] at hcs
    obtain ⟨rfl, rfl, rfl⟩ := hcs
    have hz' : zs.length = cap := by simpa using hz
    have hlen : (zs.take len).length = len := by rw [List.length_take]; omega
    refine ⟨some x, cap, zs.take len, by rw [hlen], ?_, by rw [hlen]; omega⟩
    rw [hlen]
    intro k hk
    have hg : (zs.take len).getD k 0 = zs.getD k 0 := by rw [List.getD_eq_getElem?_getD, List.getD_eq_getElem?_getD, List.getElem?_take_of_lt hk]
    simp only [hg]
    obtain ⟨b, off, spot⟩ := x
    have h0 := hcell 0 (by omega)
    have hsp : spot = none := by
      have := World.cell?_spot h0
      simpa [Addr.add] using this
    subst hsp
    have hk' := hcell k (by omega)
    have hadd : (⟨b, off, none⟩ : Addr).add k = ⟨b, off + k, none⟩ := by
      unfold Addr.add
      split
      · simp_all
      · rfl
    rw [hadd] at hk'
    refine ⟨b, off, rfl, ?_, hk'⟩
    by_cases hb : b < W.heap.size
    · exact hb
    · have hnone : W.heap[b]? = none := Array.getElem?_eq_none (by omega)
      simp [World.cell?, hnone] at hk'

end Go.Proofs.Ytocppoobcanhiab

namespace Go.Proofs.Ytocppoobcanhiab
open Go.ChangeShapes Go.WideShapes Go.ChangeAt Go.RowKit Go.Joins Go.Deep

theorem cellsLawJob : Try.prog.cellsOf 73 = 4 := by kernel_rfl

set_option maxRecDepth 100000 in
/-- A slice of jobs that came in. -/
theorem rowJ_of_arg {H : Type} {enc : TypeId × Value → H} {W : World} {base : Nat} {v : Value} {d : DataW H} {p : List MemPlace}
    (hv : Value.okWide Try.prog W .any base 24 v) (h : DataW.Trod enc Try.prog W 0 (fun _ => true) true 24 v d p) :
    ∃ (a : Option Addr) (cap : Nat) (js : List J4), v = .slice a js.length cap ∧ RowJ W a js ∧ js.length ≤ maxLen := by
  obtain ⟨a0, len, cap, rfl⟩ := okWide_slice Try.underlying24 hv
  obtain ⟨fuel, hf⟩ := h
  rcases open_slice Try.underlying24 hf with ⟨hcs, _⟩ | ⟨a, l, c, m, n, D, Pl, hcs, _, hl, hm, hmm, _, hi⟩
  · simp [Value.cells] at hcs
    obtain ⟨rfl, rfl, rfl⟩ := hcs
    exact ⟨none, 0, [], rfl, fun k hk => absurd hk (Nat.not_lt_zero _), by simp [maxLen]⟩
  · simp [Value.cells] at hcs
    obtain ⟨rfl, rfl, rfl⟩ := hcs
    simp only [if_true] at hmm
    subst hmm
    have hex : ∀ i : Nat, ∃ t : J4, i < len → W.cell? (a.add (i * 4)) = some (.int .i64 t.1) ∧ W.cell? ((a.add (i * 4)).add 1) = some (.int .i64 t.2.1) ∧ W.cell? ((a.add (i * 4)).add 2) = some (.int .i64 t.2.2.1) ∧ W.cell? ((a.add (i * 4)).add 3) = some (.int .i64 t.2.2.2) := by
      intro i
      by_cases hil : i < len
      · obtain ⟨cs', hc, ht⟩ := hi i (by omega)
        rw [cellsLawJob] at hc
        obtain ⟨y0, y1, y2, y3, n', _, _, h0, h1, h2, h3⟩ := trod_struct4 Try.underlying73 ht
        obtain ⟨x, e0, _, _⟩ := DataW.trod_int Try.underlying3 h0
        obtain ⟨y, e1, _, _⟩ := DataW.trod_int Try.underlying3 h1
        obtain ⟨z, e2, _, _⟩ := DataW.trod_int Try.underlying3 h2
        obtain ⟨u, e3, _, _⟩ := DataW.trod_int Try.underlying3 h3
        obtain ⟨_, hcl, hat⟩ := World.cells?_some hc
        have hi1 : Try.prog.cellsOf 3 = 1 := by kernel_rfl
        simp only [hi1] at e0 e1 e2 e3
        match cs', hcl with
        | [v0, v1, v2, v3], _ =>
          simp at e0 e1 e2 e3
          subst e0 e1 e2 e3
          refine ⟨(x, y, z, u), fun _ => ⟨?_, ?_, ?_, ?_⟩⟩
          · simpa [Addr.add] using hat 0 (by omega)
          · simpa using hat 1 (by omega)
          · simpa using hat 2 (by omega)
          · simpa using hat 3 (by omega)
      · exact ⟨(0, 0, 0, 0), fun h => absurd h hil⟩
    obtain ⟨T, hT⟩ := Classical.axiomOfChoice hex
    refine ⟨some a, m, (List.range len).map T, by simp, ?_, by simp; omega⟩
    intro k hk
    have hkl : k < len := by simpa using hk
    have hjb : jb ((List.range len).map T) k = T k := by simp [jb, List.getD, hkl]
    rw [hjb]
    obtain ⟨b, off, spot⟩ := a
    have hsp : spot = none := by
      have := World.cell?_spot (hT 0 (by omega)).1
      simpa [Addr.add] using this
    subst hsp
    obtain ⟨h0, h1, h2, h3⟩ := hT k hkl
    have hadd : (⟨b, off, none⟩ : Addr).add (k * 4) = ⟨b, off + k * 4, none⟩ := by
      unfold Addr.add
      split
      · simp_all
      · rfl
    rw [hadd] at h0 h1 h2 h3
    refine ⟨b, off, rfl, ?_, h0, by simpa [Addr.add] using h1, by simpa [Addr.add] using h2, by simpa [Addr.add] using h3⟩
    by_cases hb : b < W.heap.size
    · exact hb
    · have hnone : W.heap[b]? = none := Array.getElem?_eq_none (by omega)
      simp [World.cell?, hnone] at h0

/-- A slice of integers inside an argument. -/
theorem ints_of_field {H : Type} {enc : TypeId × Value → H} {W : World} {v : Value} {n : Nat} {y : DataW H × List MemPlace}
    (h : DataW.trod enc Try.prog W 0 (fun _ => true) true n 23 [v] = some y) :
    ∃ (a : Option Addr) (len cap : Nat) (f : Nat → Int), v = .slice a len cap ∧ IntF W a len f ∧ len ≤ maxLen := by
  rcases open_ints Try.underlying23 Try.underlying3 (by kernel_rfl) h with ⟨hcs, _⟩ | ⟨x, l, c, zs, hcs, _, hl, hm, hz, _, hcell, _⟩
  · simp at hcs
    subst hcs
    exact ⟨none, 0, 0, fun _ => 0, rfl, fun k hk => absurd hk (Nat.not_lt_zero _), by simp [maxLen]⟩
  · simp at hcs
    subst hcs
    simp only [if_true] at hz
    refine ⟨some x, l, c, fun k => zs.getD k 0, rfl, fun k hk => ?_, by omega⟩
    obtain ⟨b, off, spot⟩ := x
    have h0 := hcell 0 (by omega)
    have hsp : spot = none := by
      have := World.cell?_spot h0
      simpa [Addr.add] using this
    subst hsp
    have hk' := hcell k (by omega)
    have hadd : (⟨b, off, none⟩ : Addr).add k = ⟨b, off + k, none⟩ := by
      unfold Addr.add
      split
      · simp_all
      · rfl
    rw [hadd] at hk'
    refine ⟨b, off, rfl, ?_, hk'⟩
    by_cases hb : b < W.heap.size
    · exact hb
    · have hnone : W.heap[b]? = none := Array.getElem?_eq_none (by omega)
      simp [World.cell?, hnone] at hk'

end Go.Proofs.Ytocppoobcanhiab

namespace Go.Proofs.Ytocppoobcanhiab
open Go.RowKit Go.Deep

theorem lenR_le (ts : List T3) (os : List Int) (js : List J4) : lenRF ts os js ≤ 120 := by unfold lenRF; split <;> omega
theorem lenF_le (ts : List T3) (os : List Int) (js : List J4) : lenFF ts os js ≤ 60 := by
  unfold lenFF
  split
  · rename_i h
    exact (legB_iff.1 (okF_iff.1 h).2).2.1
  · omega
/-- The reference's schedule, its variable in block s0; its slices lie below. -/
structure X0 (w W : World) (s0 n m : Nat) (fr ff : Nat → Int) (r0 f0 : Option Addr) (c1 c2 b0 : Nat) : Prop where
  z0 : W.cell? ⟨s0, 0, none⟩ = some (.slice r0 n c1)
  z1 : W.cell? ⟨s0, 1, none⟩ = some (.slice f0 m c2)
  o1 : OwnI W b0 (.slice r0 n c1) n fr
  o2 : OwnI W b0 (.slice f0 m c2) m ff
  lo : ∀ k, (Value.slice r0 n c1).ownBlock = some k ∨ (Value.slice f0 m c2).ownBlock = some k → k < s0
  bl : Below w.heap.size w W
theorem X0.below {w W W' : World} {s0 n m b0 c1 c2 : Nat} {fr ff : Nat → Int} {r0 f0 : Option Addr} (h : X0 w W s0 n m fr ff r0 f0 c1 c2 b0) (hb : Below W.heap.size W W') : X0 w W' s0 n m fr ff r0 f0 c1 c2 b0 := by
  have hl := World.block_lt_of_cell? W ⟨s0, 0, none⟩ h.z0
  exact ⟨(hb.cell (p := ⟨s0, 0, none⟩) hl).trans h.z0, (hb.cell (p := ⟨s0, 1, none⟩) hl).trans h.z1, h.o1.below hb, h.o2.below hb, h.lo, h.bl.trans (hb.mono h.bl.size)⟩
theorem X0.start {w w3 : World} {n m b0 c1 c2 : Nat} {fr ff : Nat → Int} {r0 f0 : Option Addr} (o1 : OwnI w3 b0 (.slice r0 n c1) n fr) (o2 : OwnI w3 b0 (.slice f0 m c2) m ff) (bl : Below w.heap.size w w3) :
    X0 w (w3.alloc (.cells #[.slice r0 n c1, .slice f0 m c2] 28)) w3.heap.size n m fr ff r0 f0 c1 c2 b0 :=
  ⟨by simp [go_sem], by simp [go_sem], o1.alloc _, o2.alloc _, fun k hk => hk.elim (fun h => (o1.lt k h).2) (fun h => (o2.lt k h).2), bl.alloc bl.size _⟩
theorem X0.xr {w w6 : World} {s0 n m b0 bg : Nat} {fr ff gr gf : Nat → Int} {r0 f0 rg fg : Option Addr} {c1 c2 c3 c4 : Nat} (h : X0 w w6 s0 n m fr ff r0 f0 c1 c2 b0) (g1 : OwnI w6 bg (.slice rg n c3) n gr) (g2 : OwnI w6 bg (.slice fg m c4) m gf) :
    XR w (w6.alloc (.cells #[.slice rg n c3, .slice fg m c4] 28)) s0 w6.heap.size n m fr ff gr gf r0 f0 rg fg c1 c2 c3 c4 b0 bg := by
  have hl := World.block_lt_of_cell? w6 ⟨s0, 0, none⟩ h.z0
  have hb := below_box w6 (.cells #[.slice rg n c3, .slice fg m c4] 28)
  exact ⟨(hb.cell (p := ⟨s0, 0, none⟩) hl).trans h.z0, (hb.cell (p := ⟨s0, 1, none⟩) hl).trans h.z1, by simp [go_sem], by simp [go_sem], Nat.lt_of_lt_of_le hl hb.size, by simp, h.o1.below hb, h.o2.below hb, g1.below hb, g2.below hb, h.bl.alloc h.bl.size _⟩
/-- The program's schedule has been marked; the reference's and both variables are as they were. -/
theorem XR.marked {w W W' : World} {s0 sg n m : Nat} {fr ff gr gf hr hf : Nat → Int} {r0 f0 rg fg : Option Addr} {c1 c2 c3 c4 b0 bg : Nat} (h : XR w W s0 sg n m fr ff gr gf r0 f0 rg fg c1 c2 c3 c4 b0 bg)
    (hlo : ∀ k, (Value.slice r0 n c1).ownBlock = some k ∨ (Value.slice f0 m c2).ownBlock = some k → k < s0) (hs : s0 < bg) (hw : w.heap.size ≤ bg) (hy : W'.cell? ⟨sg, 0, none⟩ = some (.slice rg n c3) ∧ W'.cell? ⟨sg, 1, none⟩ = some (.slice fg m c4))
    (g1 : OwnI W' bg (.slice rg n c3) n hr) (g2 : OwnI W' bg (.slice fg m c4) m hf) (hb : Below bg W W') : XR w W' s0 sg n m fr ff hr hf r0 f0 rg fg c1 c2 c3 c4 b0 bg :=
  ⟨(hb.cell (p := ⟨s0, 0, none⟩) hs).trans h.z0, (hb.cell (p := ⟨s0, 1, none⟩) hs).trans h.z1, hy.1, hy.2, Nat.lt_of_lt_of_le h.l0 hb.size, Nat.lt_of_lt_of_le h.lg hb.size,
    h.o1.of_block (fun k hk => hb.block k (by have := hlo k (.inl hk); omega)), h.o2.of_block (fun k hk => hb.block k (by have := hlo k (.inr hk); omega)), g1, g2, h.bl.trans (hb.mono hw)⟩

set_option maxRecDepth 100000 in
set_option maxHeartbeats 4000000 in
/-- laws.FnExactRunFixed. -/
theorem fnExactRunFixed_any (a : Option Addr) (cap : Nat) (ts : List T3) (oa : Option Addr) (ocap : Nat) (os : List Int) (ja : Option Addr) (jcap : Nat) (js : List J4) (w : World) (hr : Row w a ts) (hm : ts.length ≤ maxLen) (ho : IntF w oa os.length fun k => os.getD k 0) (_ : os.length ≤ maxLen) (hj : RowJ w ja js) (hjm : js.length ≤ maxLen) :
    Calls Try.prog 3 #[.slice a ts.length cap, .slice oa os.length ocap, .slice ja js.length jcap] w fun e w' =>
      e = .returned (.bool true) ∧ Below w.heap.size w w' := by
  have HR := Lib.hid hr
  have HJ := Lib.hid hj
  have HO := Lib.hid ho
  clear hr hj ho
  by_cases hol : 1048576 < os.length
  · have hol' : (1048576 : Int) < os.length := by omega
    go_enter Try.func3, Try.ntmps3
    go_wp2
    go_ret
    exact ⟨rfl, Below.refl _ _⟩
  have hol' : ¬ (1048576 : Int) < os.length := by omega
  have hon : os.length ≤ 1048576 := by omega
  clear hol
  by_cases hn : ts.length ≤ 1048576
  · by_cases hjl : js.length ≤ 1048576 - ts.length
    · have hn' : ts.length ≤ 1099511627776 := by omega
      have hjn' : js.length ≤ 1099511627776 := by omega
      have h' : ¬ (1048576 - (ts.length : Int) < 0) := by omega
      have hlr := lenR_le ts os js
      have hlf := lenF_le ts os js
      obtain ⟨LR, hLR⟩ : ∃ l, l = lenRF ts os js := ⟨_, rfl⟩
      obtain ⟨LF, hLF⟩ : ∃ l, l = lenFF ts os js := ⟨_, rfl⟩
      rw [← hLR] at hlr
      rw [← hLF] at hlf
      have HLR := Lib.hid hLR
      have HLF := Lib.hid hLF
      clear hLR hLF
      go_enter Try.func3, Try.ntmps3
      go_wp2_with fail
      refine (szTaskS_small _ _ _ _ hn).mono ?_
      rintro e w' ⟨rfl, rfl⟩
      go_wp2_with fail
      rw [show (1048576 : Int) - (ts.length : Int) = ((1048576 - ts.length : Nat) : Int) by omega]
      refine (szJobS_small _ _ _ (1048576 - ts.length) _ hjl (by omega)).mono ?_
      rintro e w' ⟨rfl, rfl⟩
      have h'' : ¬ (((1048576 - ts.length : Nat) : Int) - (js.length : Int) < 0) := by omega
      go_wp2_with fail
      clear h' h''
      refine (toTaskS_any _ _ _ _ HR.out hn').mono ?_
      rintro e w1 ⟨rfl, r1, b1⟩
      have R1 := Lib.hid r1
      clear r1
      go_wp2_with fail
      refine (toIntS_any _ _ _ _ _ (HO.out.below b1) (by omega)).mono ?_
      rintro e wa ⟨rfl, ia, ba⟩
      have IA := Lib.hid ia.intF'
      have RA := Lib.hid (R1.out.below ba)
      have b1a := b1.trans (ba.mono b1.size)
      clear ia ba R1
      go_wp2_with fail
      refine (toJobS_any _ _ _ _ (HJ.out.below b1a) hjn').mono ?_
      rintro e w2 ⟨rfl, j2, b2⟩
      have J2 := Lib.hid j2
      have R2 := Lib.hid (RA.out.below b2)
      have I2 := Lib.hid (IA.out.below b2)
      have b12 := b1a.trans (b2.mono b1a.size)
      clear j2 RA IA b1a
      go_wp2_with fail
      refine (specRunFixed_any _ _ _ _ _ _ ts os js _ R2.out I2.out J2.out.rowJ hn (Nat.le_refl _) hjn').mono ?_
      rintro e w3 ⟨⟨vr, vf, rfl, o1, o2, ap⟩, b3⟩
      rw [← HLR.out] at o1
      rw [← HLF.out] at o2
      obtain ⟨r0, c1, rfl⟩ := own_shape o1
      obtain ⟨f0, c2, rfl⟩ := own_shape o2
      have b13 := b12.trans (b3.mono b12.size)
      have X3 := Lib.hid (X0.start o1 o2 b13)
      have hws := b13.size
      clear o1 o2 ap J2 R2 I2 b1 b2 b3 b12 b13
      go_wp2_with fail
      generalize hA : w3.alloc (.cells #[.slice r0 LR c1, .slice f0 LF c2] 28) = A1 at X3 ⊢
      have hs0 : w3.heap.size < A1.heap.size := by rw [← hA]; simp
      clear hA
      generalize hs : w3.heap.size = s0 at X3 hs0 hws ⊢
      clear hs
      refine (toTaskS_full _ _ _ _ (HR.out.below X3.out.bl) hn').mono ?_
      rintro e w4 ⟨rfl, F4', b4⟩
      have F4 := Lib.hid F4'
      have X4 := Lib.hid (X3.out.below b4)
      have hs4 : A1.heap.size < w4.heap.size := by obtain ⟨f, hrow, _⟩ := F4'; exact hrow.lt
      clear F4' X3 b4
      generalize ht0 : A1.heap.size = t0 at F4 hs0 hs4 ⊢
      clear ht0
      go_wp2_with fail
      refine (toIntS_any _ _ _ _ _ (HO.out.below X4.out.bl) (by omega)).mono ?_
      rintro e wb ⟨rfl, ib, bb⟩
      have IB := Lib.hid ib
      have FB := Lib.hid (F4.out.below bb)
      have XB := Lib.hid (X4.out.below bb)
      have hsb : w4.heap.size < wb.heap.size := (ib.lt w4.heap.size rfl).2
      clear ib F4 X4 bb
      generalize hi0 : w4.heap.size = i0 at IB hs4 hsb ⊢
      clear hi0
      go_wp2_with fail
      refine (toJobS_any _ _ _ _ (HJ.out.below XB.out.bl) hjn').mono ?_
      rintro e w5 ⟨rfl, j5, b5⟩
      have J5 := Lib.hid j5
      have I5 := Lib.hid (IB.out.below b5)
      have F5 := Lib.hid (FB.out.below b5)
      have X5 := Lib.hid (XB.out.below b5)
      have hs5 : wb.heap.size < w5.heap.size := by
        obtain ⟨_, ⟨e, _⟩ | ⟨g, _, cur, e, _, hb, _⟩⟩ := j5
        · simp at e
        · simp only [Value.slice.injEq, Option.some.injEq, Addr.mk.injEq, and_true] at e
          rw [e.1]
          exact (Array.getElem?_eq_some_iff.1 hb).1
      clear j5 FB XB IB b5
      generalize hj0 : wb.heap.size = j0 at J5 hsb hs5 ⊢
      clear hj0
      go_wp2_with fail
      refine (runFixed_any _ _ _ _ _ _ ts os js _ F5.out.row I5.out.intF' J5.out.rowJ hn' hjn').mono ?_
      rintro e w6 ⟨⟨vr, vf, rfl, o1, o2, ap⟩, b6⟩
      rw [← HLR.out] at o1
      rw [← HLF.out] at o2
      obtain ⟨rg, c3, rfl⟩ := own_shape o1
      obtain ⟨fg, c4, rfl⟩ := own_shape o2
      have AP := Lib.hid ap
      have XX := Lib.hid ((X5.out.below b6).xr o1 o2)
      have LO := Lib.hid X5.out.lo
      have J6 := Lib.hid ((J5.out.below b6).below (below_box w6 (.cells #[.slice rg LR c3, .slice fg LF c4] 28)))
      have F6 := Lib.hid ((F5.out.below b6).below (below_box w6 (.cells #[.slice rg LR c3, .slice fg LF c4] 28)))
      have I6 := Lib.hid ((I5.out.below b6).below (below_box w6 (.cells #[.slice rg LR c3, .slice fg LF c4] 28)))
      have hs6 := b6.size
      have GL := Lib.hid (show ∀ k, (Value.slice rg LR c3).ownBlock = some k ∨ (Value.slice fg LF c4).ownBlock = some k → k < w6.heap.size from fun k hk => hk.elim (fun h => (o1.lt k h).2) (fun h => (o2.lt k h).2))
      clear o1 o2 ap F5 J5 I5 X5 b6
      have y0 := XX.out.y0
      have y1 := XX.out.y1
      have z0 := XX.out.z0
      have z1 := XX.out.z1
      generalize hA : w6.alloc (.cells #[.slice rg LR c3, .slice fg LF c4] 28) = A2 at XX J6 F6 I6 y0 y1 z0 z1
      go_wp2_with fail
      clear hA y0 y1 z0 z1
      generalize hsg : w6.heap.size = sg at XX GL hs6 ⊢
      generalize hbg : w5.heap.size = bg at XX hs5 hs6 ⊢
      clear hsg hbg
      refine (eqSchedule_same _ _ _ _ _ _ _ _ LR LF (runX os js) (finX os js) _ XX.out.g1.intF' XX.out.g2.intF' XX.out.o1.intF' XX.out.o2.intF' (by omega) (by omega)).mono ?_
      rintro e w7 ⟨rfl, b7⟩
      have X7 := Lib.hid (XX.out.below b7)
      have J7 := Lib.hid (J6.out.below b7)
      have F7 := Lib.hid (F6.out.below b7)
      have I7 := Lib.hid (I6.out.below b7)
      clear XX J6 F6 I6 b7
      go_wp2_with fail
      refine (toTaskS_any _ _ _ _ (HR.out.below X7.out.bl) hn').mono ?_
      rintro e w8 ⟨rfl, r8, b8⟩
      have R8 := Lib.hid r8
      have X8 := Lib.hid (X7.out.below b8)
      have J8 := Lib.hid (J7.out.below b8)
      have F8 := Lib.hid (F7.out.below b8)
      have I8 := Lib.hid (I7.out.below b8)
      clear r8 X7 J7 F7 I7 b8
      go_wp2_with fail
      refine (eqTaskS_same _ _ _ _ ts _ F8.out.row R8.out hn').mono ?_
      rintro e w9 ⟨rfl, b9⟩
      have X9 := Lib.hid (X8.out.below b9)
      have J9 := Lib.hid (J8.out.below b9)
      have F9 := Lib.hid (F8.out.below b9)
      have I9 := Lib.hid (I8.out.below b9)
      clear X8 J8 F8 R8 I8 b9
      go_wp2_with fail
      refine (toIntS_any _ _ _ _ _ (HO.out.below X9.out.bl) (by omega)).mono ?_
      rintro e wc ⟨rfl, ic, bc⟩
      have TC := Lib.hid ic.intF'
      have XC := Lib.hid (X9.out.below bc)
      have JC := Lib.hid (J9.out.below bc)
      have FC := Lib.hid (F9.out.below bc)
      have IC := Lib.hid (I9.out.below bc)
      clear ic X9 J9 F9 I9 bc
      go_wp2_with fail
      refine (eqIntS_same _ _ _ _ _ _ _ IC.out.intF' TC.out (by omega)).mono ?_
      rintro e wd ⟨rfl, nd, hwd⟩
      have bd : Below wc.heap.size wc wd := by rw [hwd]; exact below_drewN _ _
      have X9 := Lib.hid (XC.out.below bd)
      have J9 := Lib.hid (JC.out.below bd)
      have F9 := Lib.hid (FC.out.below bd)
      have I9 := Lib.hid (IC.out.below bd)
      clear hwd bd XC JC FC IC TC
      go_wp2_with fail
      refine (toJobS_any _ _ _ _ (HJ.out.below X9.out.bl) hjn').mono ?_
      rintro e w10 ⟨rfl, r10, b10⟩
      have R10 := Lib.hid r10.rowJ
      have X10 := Lib.hid (X9.out.below b10)
      have J10 := Lib.hid (J9.out.below b10)
      have F10 := Lib.hid (F9.out.below b10)
      have I10 := Lib.hid (I9.out.below b10)
      clear r10 X9 J9 F9 I9 b10
      go_wp2_with fail
      refine (eqJobS_same _ _ _ _ js _ J10.out.rowJ R10.out hjn').mono ?_
      rintro e w11 ⟨rfl, b11⟩
      have X11 := Lib.hid (X10.out.below b11)
      have J11 := Lib.hid (J10.out.below b11)
      have I11 := Lib.hid (I10.out.below b11)
      obtain ⟨f11, rf11, _⟩ := F10.out.below b11
      have RF11 := Lib.hid rf11
      clear X10 J10 F10 R10 I10 b11 rf11
      go_wp2_with fail
      refine (markTaskS_any _ _ _ _ 1 _ RF11.out hn (by omega)).mono ?_
      rintro e w12 ⟨rfl, g12⟩
      have X12 := Lib.hid (X11.out.mark g12 (fun k hk => by simp only [Option.some.injEq] at hk; omega) LO.out)
      have J12 := Lib.hid (J11.out.apart g12 (fun k hk e => by simp only [Value.ownBlock, Option.some.injEq] at hk e; omega))
      have I12 := Lib.hid (I11.out.of_block (fun k hk => g12.block k (I11.out.lt k hk).2 (fun e => by simp only [Value.ownBlock, Option.some.injEq] at hk e; omega)))
      clear X11 J11 I11 RF11 g12
      obtain ⟨q1, hq1⟩ : ∃ q : Nat, ((1 : Nat) : Int) + 3 * (ts.length : Int) = (q : Int) ∧ q ≤ 10000000 := ⟨1 + 3 * ts.length, by omega, by omega⟩
      rw [hq1.1]
      obtain ⟨hq1', hq1⟩ := hq1
      clear hq1'
      go_wp2_with fail
      refine (markIntS_any _ _ _ _ q1 _ _ I12.out (by omega) (by omega)).mono ?_
      rintro e wf ⟨rfl, -, gf⟩
      have XF := Lib.hid (X12.out.mark gf (fun k hk => by simp only [Value.ownBlock, Option.some.injEq] at hk; omega) LO.out)
      have JF := Lib.hid (J12.out.apart gf (fun k hk e => by simp only [Value.ownBlock, Option.some.injEq] at hk e; omega))
      clear X12 J12 I12 gf
      obtain ⟨q2, hq2⟩ : ∃ q : Nat, (q1 : Int) + (os.length : Int) = (q : Int) ∧ q ≤ 20000000 := ⟨q1 + os.length, by omega, by omega⟩
      rw [hq2.1]
      obtain ⟨hq2', hq2⟩ := hq2
      clear hq2'
      go_wp2_with fail
      refine (markJobS_any _ _ _ _ q2 _ _ JF.out.ownF (by omega) (by omega)).mono ?_
      rintro e w13 ⟨rfl, _, g13⟩
      have X13 := Lib.hid (XF.out.mark g13 (fun k hk => by simp only [Value.ownBlock, Option.some.injEq] at hk; omega) LO.out)
      clear XF JF g13
      have hk0 : ¬ (q2 : Int) + 4 * (js.length : Int) < 0 := by omega
      have y0 := X13.out.y0
      have y1 := X13.out.y1
      have z0 := X13.out.z0
      have z1 := X13.out.z1
      go_wp2_with fail
      refine (eqSchedule_same _ _ _ _ _ _ _ _ LR LF (runX os js) (finX os js) _ X13.out.g1.intF' X13.out.g2.intF' X13.out.o1.intF' X13.out.o2.intF' (by omega) (by omega)).mono ?_
      rintro e w14 ⟨rfl, b14⟩
      have X14 := Lib.hid (X13.out.below b14)
      clear X13 b14 y0 y1 z0 z1 hk0
      have y0 := X14.out.y0
      have y1 := X14.out.y1
      go_wp2_with fail
      refine (markSchedule_any _ _ _ _ _ _ _ _ 1 _ _ X14.out.g1 X14.out.g2 AP.out (by have := X14.out.lg; omega) (by omega) (by omega) (by omega)).mono ?_
      rintro e w15 ⟨rfl, m1, m2, b15, k15⟩
      have hsgl := X14.out.lg
      have hnb := k15 sg hsgl (fun e => by have := GL.out sg (.inl e.symm); omega) (fun e => by have := GL.out sg (.inr e.symm); omega)
      have X15 := Lib.hid (X14.out.marked LO.out (by omega) (by omega) ⟨(World.cell?_of_block (a := ⟨sg, 0, none⟩) hnb).trans y0, (World.cell?_of_block (a := ⟨sg, 1, none⟩) hnb).trans y1⟩ m1 m2 b15)
      clear X14 m1 m2 b15 k15 y0 y1 hsgl hnb
      have y0 := X15.out.y0
      have y1 := X15.out.y1
      go_wp2_with fail
      refine (heldSchedule_any _ _ _ _ _ _ 1 _ X15.out.g1.intF' X15.out.g2.intF' (by omega) (by omega) (by omega)).mono ?_
      rintro e w16 ⟨rfl, b16⟩
      have X16 := Lib.hid (X15.out.below b16)
      clear X15 b16 y0 y1
      have hp : ¬ ((1 : Nat) : Int) + (LR : Int) + (LF : Int) < 0 := by omega
      go_wp2_with fail
      refine (toTaskS_any _ _ _ _ (HR.out.below X16.out.bl) hn').mono ?_
      rintro e w17 ⟨rfl, r17, b17⟩
      have R17 := Lib.hid r17
      have X17 := Lib.hid (X16.out.below b17)
      clear r17 X16 b17
      go_wp2_with fail
      refine (toIntS_any _ _ _ _ _ (HO.out.below X17.out.bl) (by omega)).mono ?_
      rintro e wg ⟨rfl, ig, bg'⟩
      have IG := Lib.hid ig.intF'
      have RG := Lib.hid (R17.out.below bg')
      have XG := Lib.hid (X17.out.below bg')
      clear ig X17 R17 bg'
      go_wp2_with fail
      refine (toJobS_any _ _ _ _ (HJ.out.below XG.out.bl) hjn').mono ?_
      rintro e w18 ⟨rfl, r18, b18⟩
      have I18 := Lib.hid (IG.out.below b18)
      have J18 := Lib.hid r18.rowJ
      have R18 := Lib.hid (RG.out.below b18)
      have X18 := Lib.hid (XG.out.below b18)
      clear r18 XG RG IG b18
      go_wp2_with fail
      refine (runFixed_any _ _ _ _ _ _ ts os js _ R18.out I18.out J18.out hn' hjn').mono ?_
      rintro e w19 ⟨⟨vr, vf, rfl, o1, o2, ap⟩, b19⟩
      rw [← HLR.out] at o1
      rw [← HLF.out] at o2
      obtain ⟨rh, c5, rfl⟩ := own_shape o1
      obtain ⟨fh, c6, rfl⟩ := own_shape o2
      have bx := below_box w19 (.cells #[.slice rh LR c5, .slice fh LF c6] 28)
      have X19 := Lib.hid ((X18.out.below b19).below bx)
      have H19 := Lib.hid (And.intro (o1.below bx).intF' (o2.below bx).intF')
      clear o1 o2 ap X18 R18 J18 I18 b19 bx
      have z0 := X19.out.z0
      have z1 := X19.out.z1
      generalize hA : w19.alloc (.cells #[.slice rh LR c5, .slice fh LF c6] 28) = A3 at X19 H19 z0 z1
      have v0 : A3.cell? ⟨w19.heap.size, 0, none⟩ = some (.slice rh LR c5) := by rw [← hA]; simp [go_sem]
      have v1 : A3.cell? ⟨w19.heap.size, 1, none⟩ = some (.slice fh LF c6) := by rw [← hA]; simp [go_sem]
      go_wp2_with fail
      clear hA v0 v1 z0 z1
      refine (eqSchedule_same _ _ _ _ _ _ _ _ LR LF (runX os js) (finX os js) _ H19.out.1 H19.out.2 X19.out.o1.intF' X19.out.o2.intF' (by omega) (by omega)).mono ?_
      rintro e w20 ⟨rfl, b20⟩
      have X20 := Lib.hid (X19.out.below b20)
      clear X19 H19 b20
      have y0 := X20.out.y0
      have y1 := X20.out.y1
      go_wp2_with fail
      refine (heldSchedule_any _ _ _ _ _ _ 1 _ X20.out.g1.intF' X20.out.g2.intF' (by omega) (by omega) (by omega)).mono ?_
      rintro e w21 ⟨rfl, b21⟩
      have X21 := Lib.hid (X20.out.below b21)
      clear X20 b21 y0 y1
      go_wp2
      go_ret
      exact ⟨rfl, X21.out.bl⟩
    · have h' : ¬ (1048576 - (ts.length : Int) < 0) := by omega
      have hjl' : 1048576 - ts.length < js.length := by omega
      go_enter Try.func3, Try.ntmps3
      go_wp2_with fail
      refine (szTaskS_small _ _ _ _ hn).mono ?_
      rintro e w' ⟨rfl, rfl⟩
      go_wp2_with fail
      rw [show (1048576 : Int) - (ts.length : Int) = ((1048576 - ts.length : Nat) : Int) by omega]
      refine (szJobS_big _ _ _ (1048576 - ts.length) _ hjl' hjm (by omega)).mono ?_
      rintro e w' ⟨rfl, rfl⟩
      go_wp2
      go_ret
      exact ⟨rfl, Below.refl _ _⟩
  · have hn' : 1048576 < ts.length := by omega
    go_enter Try.func3, Try.ntmps3
    go_wp2_with (go_at_call 13; refine (szTaskS_big _ _ _ _ hn' hm).mono ?_; rintro e w' ⟨rfl, rfl⟩)
    go_ret
    exact ⟨rfl, Below.refl _ _⟩

end Go.Proofs.Ytocppoobcanhiab
