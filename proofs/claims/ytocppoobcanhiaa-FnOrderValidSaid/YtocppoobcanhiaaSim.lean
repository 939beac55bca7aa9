/- Plain arithmetic of the simulation by static keys (chapters 3 and 4): best job, work left, finish times; the argument of the demand test: a job that is late by its deadline D has a window [s, D) in which more is asked than fits. No dump. -/
import Derived.Test.YtocppoobcanhiaaDem
namespace Go.Proofs.Ytocppoobcanhiaa

/-! ### Sums over 0..n-1 -/
def sumN (f : Nat → Nat) : Nat → Nat
  | 0 => 0
  | n + 1 => sumN f n + f n
theorem sumN_le {f g : Nat → Nat} : ∀ {n : Nat}, (∀ i, i < n → f i ≤ g i) → sumN f n ≤ sumN g n
  | 0, _ => Nat.le_refl _
  | n + 1, h => Nat.add_le_add (sumN_le fun i hi => h i (by omega)) (h n (by omega))
theorem sumN_eq {f g : Nat → Nat} {n : Nat} (h : ∀ i, i < n → f i = g i) : sumN f n = sumN g n :=
  Nat.le_antisymm (sumN_le fun i hi => Nat.le_of_eq (h i hi)) (sumN_le fun i hi => Nat.le_of_eq (h i hi).symm)
theorem sumN_one {f g : Nat → Nat} {b x : Nat} : ∀ {n : Nat}, b < n → (∀ i, i < n → i ≠ b → g i = f i) → g b = f b + x → sumN g n = sumN f n + x
  | 0, hb, _, _ => absurd hb (Nat.not_lt_zero _)
  | n + 1, hb, h, hx => by
    simp only [sumN]
    by_cases e : b = n
    · subst e
      rw [hx, sumN_eq (f := g) (g := f) fun i hi => h i (by omega) (by omega)]
      omega
    · rw [sumN_one (n := n) (by omega) (fun i hi hne => h i (by omega) hne) hx, h n (by omega) (by omega)]
      omega
theorem sumN_mem {f : Nat → Nat} {m : Nat} : ∀ {n : Nat}, m < n → f m ≤ sumN f n
  | 0, h => absurd h (Nat.not_lt_zero _)
  | n + 1, h => by
    simp only [sumN]
    by_cases e : m = n
    · subst e
      omega
    · have := sumN_mem (f := f) (n := n) (by omega : m < n)
      omega
theorem sumN_zero {f : Nat → Nat} {n : Nat} (h : ∀ i, i < n → f i = 0) : sumN f n = 0 := by
  rw [sumN_eq (g := fun _ => 0) h]
  induction n with
  | zero => rfl
  | succ n ih => simp only [sumN]; rw [ih fun i hi => h i (by omega)]

/-! ### The best job -/
def best (rel left key : Nat → Nat) (now : Nat) : Nat → Option Nat
  | 0 => none
  | k + 1 => match best rel left key now k with
    | none => if rel k ≤ now ∧ 0 < left k then some k else none
    | some b => if rel k ≤ now ∧ 0 < left k ∧ key k < key b then some k else some b
theorem best_none {rel left key : Nat → Nat} {now : Nat} : ∀ {n : Nat}, best rel left key now n = none → ∀ i, i < n → ¬ (rel i ≤ now ∧ 0 < left i)
  | 0, _, i, hi => absurd hi (Nat.not_lt_zero _)
  | n + 1, h, i, hi => by
    simp only [best] at h
    cases hb : best rel left key now n with
    | none =>
      rw [hb] at h
      simp only at h
      split at h
      · simp at h
      · by_cases e : i = n
        · subst e; assumption
        · exact best_none hb i (by omega)
    | some b =>
      rw [hb] at h
      simp only at h
      split at h <;> simp at h
theorem best_some {rel left key : Nat → Nat} {now b : Nat} : ∀ {n : Nat}, best rel left key now n = some b →
    b < n ∧ rel b ≤ now ∧ 0 < left b ∧ ∀ i, i < n → rel i ≤ now → 0 < left i → key b < key i ∨ (key b = key i ∧ b ≤ i)
  | 0, h => by simp [best] at h
  | n + 1, h => by
    simp only [best] at h
    cases hb : best rel left key now n with
    | none =>
      rw [hb] at h
      simp only at h
      split at h
      · rename_i hr
        obtain rfl : n = b := by simpa using h
        refine ⟨by omega, hr.1, hr.2, fun i hi h1 h2 => ?_⟩
        by_cases e : i = n
        · subst e; exact .inr ⟨rfl, Nat.le_refl _⟩
        · exact absurd ⟨h1, h2⟩ (best_none hb i (by omega))
      · simp at h
    | some c =>
      rw [hb] at h
      simp only at h
      obtain ⟨c1, c2, c3, c4⟩ := best_some hb
      split at h
      · rename_i hr
        obtain rfl : n = b := by simpa using h
        refine ⟨by omega, hr.1, hr.2.1, fun i hi h1 h2 => ?_⟩
        by_cases e : i = n
        · subst e; exact .inr ⟨rfl, Nat.le_refl _⟩
        · rcases c4 i (by omega) h1 h2 with h | ⟨h, _⟩ <;> exact .inl (by omega)
      · rename_i hr
        obtain rfl : c = b := by simpa using h
        refine ⟨by omega, c2, c3, fun i hi h1 h2 => ?_⟩
        by_cases e : i = n
        · subst e
          have : ¬ key i < key c := fun hk => hr ⟨h1, h2, hk⟩
          by_cases e2 : key c = key i
          · exact .inr ⟨e2, by omega⟩
          · exact .inl (by omega)
        · exact c4 i (by omega) h1 h2

/-! ### The simulation -/
structure Pat where
  n : Nat
  rel : Nat → Nat
  ex : Nat → Nat
  key : Nat → Nat
/-- The work left of each job at a time. -/
def Pat.left (P : Pat) : Nat → Nat → Nat
  | 0 => P.ex
  | t + 1 => fun i => if best P.rel (P.left t) P.key t P.n = some i then P.left t i - 1 else P.left t i
def Pat.run (P : Pat) (t : Nat) : Option Nat := best P.rel (P.left t) P.key t P.n
/-- The finish times as far as they are known at a time. -/
def Pat.fin (P : Pat) : Nat → Nat → Int
  | 0 => fun _ => -1
  | t + 1 => fun i => if P.run t = some i ∧ P.left (t + 1) i = 0 then (t : Int) + 1 else P.fin t i
theorem Pat.left_succ (P : Pat) (t i : Nat) : P.left (t + 1) i = if P.run t = some i then P.left t i - 1 else P.left t i := rfl
theorem Pat.fin_succ (P : Pat) (t i : Nat) : P.fin (t + 1) i = if P.run t = some i ∧ P.left (t + 1) i = 0 then (t : Int) + 1 else P.fin t i := rfl
theorem Pat.left_le (P : Pat) (t i : Nat) : P.left (t + 1) i ≤ P.left t i := by
  rw [P.left_succ]
  split <;> omega
theorem Pat.left_mono (P : Pat) (i : Nat) {s t : Nat} (h : s ≤ t) : P.left t i ≤ P.left s i := by
  induction t with
  | zero => obtain rfl : s = 0 := by omega
            exact Nat.le_refl _
  | succ t ih =>
    by_cases e : s = t + 1
    · subst e; exact Nat.le_refl _
    · exact Nat.le_trans (P.left_le t i) (ih (by omega))
theorem Pat.left_ex (P : Pat) (t i : Nat) : P.left t i ≤ P.ex i := P.left_mono i (Nat.zero_le t)
theorem Pat.run_pos {P : Pat} {t i : Nat} (h : P.run t = some i) : i < P.n ∧ P.rel i ≤ t ∧ 0 < P.left t i := by
  obtain ⟨h1, h2, h3, _⟩ := best_some h
  exact ⟨h1, h2, h3⟩
/-- Unfinished jobs have no finish time; a finished one has the time at which its last tick ended. -/
theorem Pat.fin_open (P : Pat) {t i : Nat} (h : 0 < P.left t i) : P.fin t i = -1 := by
  induction t with
  | zero => rfl
  | succ t ih =>
    rw [P.fin_succ, if_neg (by rintro ⟨_, h0⟩; omega)]
    exact ih (Nat.lt_of_lt_of_le h (P.left_le t i))
theorem Pat.fin_done (P : Pat) {t i : Nat} (hx : 0 < P.ex i) (h : P.left t i = 0) : ∃ f : Nat, P.fin t i = (f : Int) + 1 ∧ f < t ∧ P.run f = some i ∧ P.left (f + 1) i = 0 ∧ P.left f i = 1 := by
  induction t with
  | zero => exact absurd h (by simp only [Pat.left]; omega)
  | succ t ih =>
    by_cases h0 : P.left t i = 0
    · obtain ⟨f, h1, h2, h3⟩ := ih h0
      refine ⟨f, ?_, by omega, h3⟩
      rw [P.fin_succ, if_neg]
      · exact h1
      · rintro ⟨hr, _⟩
        have := (P.run_pos hr).2.2
        omega
    · have hr : P.run t = some i := by
        rw [P.left_succ] at h
        split at h
        · assumption
        · exact absurd h h0
      refine ⟨t, ?_, by omega, hr, h, ?_⟩
      · rw [P.fin_succ, if_pos ⟨hr, h⟩]
      · rw [P.left_succ, if_pos hr] at h
        omega
/-- Finished by D: nothing is left at D. -/
theorem Pat.fin_by (P : Pat) {T D i : Nat} (hx : 0 < P.ex i) (hD : D ≤ T) : (0 ≤ P.fin T i ∧ P.fin T i ≤ D) ↔ P.left D i = 0 := by
  constructor
  · rintro ⟨h0, h1⟩
    by_cases h : P.left T i = 0
    · obtain ⟨f, e, _, _, hl, _⟩ := P.fin_done hx h
      have := P.left_mono i (show f + 1 ≤ D by omega)
      omega
    · rw [P.fin_open (by omega)] at h0
      omega
  · intro h
    have hT : P.left T i = 0 := by have := P.left_mono i hD; omega
    obtain ⟨f, e, _, _, _, hl⟩ := P.fin_done hx hT
    have : f < D := by
      by_cases hf : D ≤ f
      · have := P.left_mono i hf
        omega
      · omega
    rw [e]
    omega

/-! ### The window in which too much is asked -/
/-- What is left of the jobs with a key of at most D. -/
def Pat.due (P : Pat) (D t : Nat) : Nat := sumN (fun i => if P.key i ≤ D then P.left t i else 0) P.n
theorem Pat.due_run {P : Pat} {D t b : Nat} (h : P.run t = some b) (hb : P.key b ≤ D) : P.due D t = P.due D (t + 1) + 1 := by
  obtain ⟨h1, _, h3⟩ := P.run_pos h
  refine sumN_one (b := b) h1 (fun i hi hne => ?_) ?_
  · have e : P.left (t + 1) i = P.left t i := by rw [P.left_succ, if_neg (by rw [h]; simpa using fun e => hne e.symm)]
    show (if P.key i ≤ D then P.left t i else 0) = if P.key i ≤ D then P.left (t + 1) i else 0
    rw [e]
  · rw [if_pos hb, if_pos hb, P.left_succ, if_pos h]
    omega
theorem Pat.window (P : Pat) (D t : Nat) : ∃ s, s ≤ t ∧ (∀ i, i < P.n → P.key i ≤ D → P.rel i < s → P.left s i = 0) ∧ P.due D s = P.due D t + (t - s) := by
  induction t with
  | zero => exact ⟨0, Nat.le_refl _, fun i _ _ h => absurd h (Nat.not_lt_zero _), by omega⟩
  | succ t ih =>
    by_cases hc : ∃ b, P.run t = some b ∧ P.key b ≤ D
    · obtain ⟨b, h1, h2⟩ := hc
      obtain ⟨s, hs, h3, h4⟩ := ih
      have := P.due_run h1 h2
      exact ⟨s, by omega, h3, by omega⟩
    · refine ⟨t + 1, Nat.le_refl _, fun i hi hk hr => ?_, by omega⟩
      have hz : P.left t i = 0 := by
        by_cases h0 : P.left t i = 0
        · exact h0
        · cases hb : P.run t with
          | none => exact absurd ⟨by omega, by omega⟩ (best_none hb i hi)
          | some b =>
            obtain ⟨_, _, _, h4⟩ := best_some hb
            refine absurd ⟨b, hb, ?_⟩ hc
            rcases h4 i hi (by omega) (by omega) with h | ⟨h, _⟩ <;> omega
      have := P.left_le t i
      omega
/-- A job with a key of at most D that is unfinished at D: more is asked within some window [s, D) than fits. -/
theorem Pat.late (P : Pat) {D m : Nat} (hm : m < P.n) (hk : P.key m ≤ D) (hl : 0 < P.left D m) :
    ∃ s, s ≤ D ∧ D - s < sumN (fun i => if s ≤ P.rel i ∧ P.key i ≤ D then P.ex i else 0) P.n := by
  obtain ⟨s, hs, h1, h2⟩ := P.window D D
  refine ⟨s, hs, ?_⟩
  have h3 : 1 ≤ P.due D D := Nat.le_trans (by rw [if_pos hk]; omega) (sumN_mem (f := fun i => if P.key i ≤ D then P.left D i else 0) hm)
  have h4 : P.due D s ≤ sumN (fun i => if s ≤ P.rel i ∧ P.key i ≤ D then P.ex i else 0) P.n := sumN_le fun i hi => by
    by_cases hk : P.key i ≤ D
    · by_cases hr : s ≤ P.rel i
      · rw [if_pos hk, if_pos ⟨hr, hk⟩]
        exact P.left_ex s i
      · rw [if_pos hk, h1 i hi hk (by omega)]
        exact Nat.zero_le _
    · rw [if_neg hk]
      exact Nat.zero_le _
  omega

/-! ### The ticks of a job; the past -/
/-- How often job i ran before T. -/
def Pat.ran (P : Pat) (i : Nat) (T : Nat) : Nat := sumN (fun t => if P.run t = some i then 1 else 0) T
theorem Pat.ran_left (P : Pat) (i T : Nat) : P.ran i T + P.left T i = P.ex i := by
  induction T with
  | zero => simp [Pat.ran, sumN, Pat.left]
  | succ T ih =>
    have e : P.ran i (T + 1) = P.ran i T + if P.run T = some i then 1 else 0 := rfl
    rw [e, P.left_succ]
    by_cases h : P.run T = some i
    · have := (P.run_pos h).2.2
      rw [if_pos h, if_pos h]
      omega
    · rw [if_neg h, if_neg h]
      omega
theorem best_more {rel left key rel' left' key' : Nat → Nat} {now m : Nat} (h : ∀ i, i < m → rel i = rel' i ∧ left i = left' i ∧ key i = key' i) : best rel left key now m = best rel' left' key' now m := by
  induction m with
  | zero => rfl
  | succ m ih =>
    have e := ih fun i hi => h i (by omega)
    obtain ⟨h1, h2, h3⟩ := h m (by omega)
    simp only [best]
    rw [e]
    cases hb : best rel' left' key' now m with
    | none => simp only; rw [h1, h2]
    | some b =>
      simp only
      obtain ⟨_, _, hk⟩ := h b (by have := (best_some hb).1; omega)
      rw [h1, h2, h3, hk]
theorem best_late {rel left key : Nat → Nat} {now m : Nat} : ∀ {n : Nat}, m ≤ n → (∀ i, m ≤ i → i < n → now < rel i) → best rel left key now n = best rel left key now m
  | 0, h, _ => by obtain rfl : m = 0 := by omega
                  rfl
  | n + 1, h, hr => by
    by_cases e : m = n + 1
    · subst e; rfl
    · have ih := best_late (rel := rel) (left := left) (key := key) (now := now) (m := m) (n := n) (by omega) fun i h1 h2 => hr i h1 (by omega)
      have hn := hr n (by omega) (by omega)
      rw [← ih]
      simp only [best]
      cases best rel left key now n with
      | none => simp only; rw [if_neg (by rintro ⟨h, _⟩; omega)]
      | some b => simp only; rw [if_neg (by rintro ⟨h, _⟩; omega)]
/-- Jobs that are released at T or later leave what runs before T as it is. -/
theorem Pat.past {P Q : Pat} {T : Nat} (hn : Q.n ≤ P.n) (h : ∀ i, i < Q.n → P.rel i = Q.rel i ∧ P.ex i = Q.ex i ∧ P.key i = Q.key i) (hr : ∀ i, Q.n ≤ i → i < P.n → T ≤ P.rel i) :
    ∀ t, t ≤ T → (∀ i, i < Q.n → P.left t i = Q.left t i) ∧ ∀ s, s < t → P.run s = Q.run s := by
  intro t
  induction t with
  | zero => exact fun _ => ⟨fun i hi => (h i hi).2.1, fun s hs => absurd hs (Nat.not_lt_zero _)⟩
  | succ t ih =>
    intro ht
    obtain ⟨i1, i2⟩ := ih (by omega)
    have e : P.run t = Q.run t := by
      show best P.rel (P.left t) P.key t P.n = best Q.rel (Q.left t) Q.key t Q.n
      rw [best_late hn fun i h1 h2 => by have := hr i h1 h2; omega]
      exact best_more fun i hi => ⟨(h i hi).1, i1 i hi, (h i hi).2.2⟩
    refine ⟨fun i hi => ?_, fun s hs => ?_⟩
    · rw [P.left_succ, Q.left_succ, e, i1 i hi]
    · by_cases hst : s = t
      · subst hst; exact e
      · exact i2 s (by omega)

end Go.Proofs.Ytocppoobcanhiaa
