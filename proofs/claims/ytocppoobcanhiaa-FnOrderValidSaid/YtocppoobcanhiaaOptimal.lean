/- Plain arithmetic of promises 2 and 3: whatever keys are used, one tick of work a tick; so earliest deadline first is optimal, and a rejected set misses a deadline under every order. No dump. -/
import Derived.Test.YtocppoobcanhiaaLegal2
namespace Go.Proofs.Ytocppoobcanhiaa

/-- What is left of the jobs that A names. -/
def Pat.sumA (P : Pat) (A : Nat → Bool) (t : Nat) : Nat := sumN (fun i => if A i = true then P.left t i else 0) P.n
theorem Pat.work_step (P : Pat) (A : Nat → Bool) (t : Nat) : P.sumA A t ≤ P.sumA A (t + 1) + 1 := by
  cases hb : P.run t with
  | none =>
    have : P.sumA A t = P.sumA A (t + 1) := sumN_eq fun i _ => by
      have e : P.left (t + 1) i = P.left t i := by rw [P.left_succ, if_neg (by rw [hb]; simp)]
      show (if A i = true then P.left t i else 0) = if A i = true then P.left (t + 1) i else 0
      rw [e]
    omega
  | some b =>
    obtain ⟨h1, _, h3⟩ := P.run_pos hb
    have : P.sumA A t = P.sumA A (t + 1) + if A b = true then 1 else 0 := sumN_one (b := b) h1 (fun i _ hne => by
        have e : P.left (t + 1) i = P.left t i := by rw [P.left_succ, if_neg (by rw [hb]; simpa using fun e => hne e.symm)]
        show (if A i = true then P.left t i else 0) = if A i = true then P.left (t + 1) i else 0
        rw [e]) (by
        have e : P.left (t + 1) b = P.left t b - 1 := by rw [P.left_succ, if_pos hb]
        show (if A b = true then P.left t b else 0) = (if A b = true then P.left (t + 1) b else 0) + _
        rw [e]
        split <;> omega)
    rw [this]
    split <;> omega
theorem Pat.work_le (P : Pat) (A : Nat → Bool) {s : Nat} : ∀ {t : Nat}, s ≤ t → P.sumA A s ≤ P.sumA A t + (t - s)
  | 0, h => by obtain rfl : s = 0 := by omega
               omega
  | t + 1, h => by
    by_cases e : s = t + 1
    · subst e; omega
    · have h1 := P.work_le A (s := s) (t := t) (by omega)
      have h2 := P.work_step A t
      omega
/-- A job has its whole work left at its release. -/
theorem Pat.left_rel (P : Pat) {i : Nat} : ∀ {t : Nat}, t ≤ P.rel i → P.left t i = P.ex i
  | 0, _ => rfl
  | t + 1, h => by
    rw [P.left_succ, if_neg]
    · exact P.left_rel (by omega)
    · intro hr
      have := (P.run_pos hr).2.1
      omega
/-- Promise 3: if some keys leave nothing at the deadlines, earliest deadline first does not either. -/
theorem Pat.optimal {P Q : Pat} {T : Nat} (hn : P.n = Q.n) (hr : ∀ i, i < P.n → P.rel i = Q.rel i) (hx : ∀ i, i < P.n → P.ex i = Q.ex i)
    (h : ∀ i, i < P.n → P.key i ≤ T → Q.left (P.key i) i = 0) {m : Nat} (hm : m < P.n) (hk : P.key m ≤ T) : P.left (P.key m) m = 0 := by
  apply Classical.byContradiction
  intro hne
  obtain ⟨s, hs, h1⟩ := P.late hm (Nat.le_refl _) (Nat.pos_of_ne_zero hne)
  have h2 := Q.work_le (fun i => decide (s ≤ P.rel i ∧ P.key i ≤ P.key m)) hs
  have h3 : Q.sumA (fun i => decide (s ≤ P.rel i ∧ P.key i ≤ P.key m)) (P.key m) = 0 := sumN_zero fun i hi => by
    simp only [decide_eq_true_eq]
    split
    · rename_i hc
      have := Q.left_mono i hc.2
      have := h i (by omega) (by omega)
      omega
    · rfl
  have h4 : Q.sumA (fun i => decide (s ≤ P.rel i ∧ P.key i ≤ P.key m)) s = sumN (fun i => if s ≤ P.rel i ∧ P.key i ≤ P.key m then P.ex i else 0) P.n := by
    rw [Pat.sumA, ← hn]
    refine sumN_eq fun i hi => ?_
    simp only [decide_eq_true_eq]
    split
    · rename_i hc
      rw [Q.left_rel (by rw [← hr i hi]; exact hc.1), hx i hi]
    · rfl
  omega
/-- Promise 2: more work than D with deadlines up to D: under every order some job is late. -/
theorem Pat.over (Q : Pat) {D : Nat} {dl : Nat → Nat} (h : D < sumN (fun i => if dl i ≤ D then Q.ex i else 0) Q.n) : ∃ i, i < Q.n ∧ dl i ≤ D ∧ 0 < Q.left (dl i) i := by
  apply Classical.byContradiction
  intro hc
  have h2 := Q.work_le (fun i => decide (dl i ≤ D)) (Nat.zero_le D)
  have h3 : Q.sumA (fun i => decide (dl i ≤ D)) D = 0 := sumN_zero fun i hi => by
    simp only [decide_eq_true_eq]
    split
    · rename_i hd
      have := Q.left_mono i hd
      have : Q.left (dl i) i = 0 := by
        apply Classical.byContradiction
        intro hne
        exact hc ⟨i, hi, hd, Nat.pos_of_ne_zero hne⟩
      omega
    · rfl
  have h4 : Q.sumA (fun i => decide (dl i ≤ D)) 0 = sumN (fun i => if dl i ≤ D then Q.ex i else 0) Q.n := sumN_eq fun i _ => by
    simp only [decide_eq_true_eq]
    rfl
  omega
/-- The synchronous pattern up to a first overload, unless it is cut off, is late under every order. -/
theorem sy_late {ts : List T3} {D : Nat} (hv : svB ts = true) (hD : D ≤ 120) (hl : (sy ts D D).length < 60) (ho : D < dem ts D) (key : Nat → Nat) :
    ∃ i, i < (sy ts D D).length ∧ jdl (sy ts D D) i ≤ D ∧ 0 < (Pat.mk (sy ts D D).length (jrel (sy ts D D)) (jex (sy ts D D)) key).left (jdl (sy ts D D) i) i := by
  refine Pat.over (Pat.mk (sy ts D D).length (jrel (sy ts D D)) (jex (sy ts D D)) key) ?_
  rw [← sy_dem hv hl] at ho
  refine Nat.lt_of_lt_of_le ho (Nat.le_of_eq (sumN_eq fun i hi => ?_))
  have := ((sy_sy (all_of_sv hv) hD (Nat.le_refl D)).dl i hi).1
  rw [if_pos (by simp only [jdl]; omega)]

end Go.Proofs.Ytocppoobcanhiaa
