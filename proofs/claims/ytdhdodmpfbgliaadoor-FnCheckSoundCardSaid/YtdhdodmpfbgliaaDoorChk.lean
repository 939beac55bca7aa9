/- The schedule checker as plain arithmetic (chapter 9): what is left of each job, the code of a tick, the first violation; promises 16, 17, 75 and 123. No function is walked. -/
import Derived.Test.YtdhdodmpfbgliaaDoorJobs
namespace Go.Proofs.YtdhdodmpfbgliaaDoor

/-- What is left of each job after t ticks of the schedule r. -/
def ckL (ex : Nat → Nat) (r : Nat → Int) : Nat → Nat → Nat
  | 0 => ex
  | t + 1 => fun i => if r t = (i : Int) then ckL ex r t i - 1 else ckL ex r t i
theorem ckL_succ (ex : Nat → Nat) (r : Nat → Int) (t i : Nat) : ckL ex r (t + 1) i = if r t = (i : Int) then ckL ex r t i - 1 else ckL ex r t i := rfl
theorem ckL_congr {ex : Nat → Nat} {r r' : Nat → Int} : ∀ {t : Nat}, (∀ s, s < t → r s = r' s) → ∀ i, ckL ex r t i = ckL ex r' t i
  | 0, _, _ => rfl
  | t + 1, h, i => by rw [ckL_succ, ckL_succ, h t (by omega), ckL_congr (fun s hs => h s (by omega)) i]
theorem ckL_le (ex : Nat → Nat) (r : Nat → Int) (i : Nat) : ∀ t, ckL ex r t i ≤ ex i
  | 0 => Nat.le_refl _
  | t + 1 => by
    have := ckL_le ex r i t
    rw [ckL_succ]
    split <;> omega
/-- The most urgent released, unfinished job. -/
def ckB (js : List J4) (left : Nat → Nat) (now : Nat) : Option Nat := best (jrel js) left (jdl js) now js.length
/-- The code of one tick, as far as it is told before the tick. -/
def ckT (js : List J4) (left : Nat → Nat) (k : Int) (now : Nat) : Nat :=
  if ¬ (-1 ≤ k ∧ k < js.length) then 3
  else if 0 ≤ k ∧ (now < jrel js k.toNat ∨ left k.toNat = 0) then 3
  else if k < 0 then (if ckB js left now = none then 0 else 4)
  else match ckB js left now with
    | some b => if jdl js b < jdl js k.toNat then 5 else 0
    | none => 0
/-- Whether a job is late after the tick. -/
def ckD (js : List J4) (left : Nat → Nat) (now : Nat) : Bool := decide (∃ i, i < js.length ∧ jdl js i = now + 1 ∧ 0 < left i)
/-- The code of a tick. -/
def ckG (js : List J4) (r : Nat → Int) (now : Nat) : Nat :=
  if ckT js (ckL (jex js) r now) (r now) now = 0 then (if ckD js (ckL (jex js) r (now + 1)) now = true then 6 else 0) else ckT js (ckL (jex js) r now) (r now) now
/-- The first violation of the n ticks from now on. -/
def ckF (js : List J4) (r : Nat → Int) : Nat → Nat → Nat × Nat
  | 0, _ => (0, 0)
  | n + 1, now => if ckG js r now = 0 then ckF js r n (now + 1) else (ckG js r now, now)
/-- CheckSchedule of a schedule of len ticks. -/
def ck9 (ts : List T3) (js : List J4) (len : Nat) (r : Nat → Int) : Nat × Nat :=
  if legB ts js = true then (if len = 120 then ckF js r 120 0 else (2, 0)) else (1, 0)

theorem ckT_le (js : List J4) (left : Nat → Nat) (k : Int) (now : Nat) : ckT js left k now ≤ 5 := by
  unfold ckT
  split
  · omega
  · split
    · omega
    · split
      · split <;> omega
      · split
        · split <;> omega
        · omega
theorem ckG_le (js : List J4) (r : Nat → Int) (now : Nat) : ckG js r now ≤ 6 := by
  unfold ckG
  have := ckT_le js (ckL (jex js) r now) (r now) now
  split
  · split <;> omega
  · omega
theorem ckF_ok {js : List J4} {r : Nat → Int} : ∀ {n now : Nat}, (ckF js r n now).1 = 0 ↔ ∀ t, now ≤ t → t < now + n → ckG js r t = 0
  | 0, now => by simp only [ckF, true_iff]; omega
  | n + 1, now => by
    simp only [ckF]
    split
    · rename_i h
      rw [ckF_ok]
      constructor
      · intro h2 t h3 h4
        by_cases e : t = now
        · subst e; exact h
        · exact h2 t (by omega) (by omega)
      · intro h2 t h3 h4
        exact h2 t (by omega) (by omega)
    · rename_i h
      simp only
      constructor
      · intro h2; exact absurd h2 h
      · intro h2; exact absurd (h2 now (Nat.le_refl _) (by omega)) h
theorem ckF_at {js : List J4} {r : Nat → Int} : ∀ {n now at_ : Nat}, now ≤ at_ → at_ < now + n → (∀ t, now ≤ t → t < at_ → ckG js r t = 0) → ckG js r at_ ≠ 0 → ckF js r n now = (ckG js r at_, at_)
  | 0, now, at_, h1, h2, _, _ => by omega
  | n + 1, now, at_, h1, h2, h3, h4 => by
    simp only [ckF]
    by_cases e : at_ = now
    · subst e
      rw [if_neg h4]
    · rw [if_pos (h3 now (Nat.le_refl _) (by omega))]
      exact ckF_at (by omega) (by omega) (fun t h5 h6 => h3 t (by omega) h6) h4
theorem ckF_bd {js : List J4} {r : Nat → Int} : ∀ {n now : Nat}, (ckF js r n now).1 ≤ 6 ∧ ((ckF js r n now).1 = 0 → (ckF js r n now).2 = 0) ∧ (0 < n → (ckF js r n now).2 < now + n)
  | 0, now => by simp [ckF]
  | n + 1, now => by
    simp only [ckF]
    split
    · have ih := ckF_bd (js := js) (r := r) (n := n) (now := now + 1)
      refine ⟨ih.1, ih.2.1, fun _ => ?_⟩
      by_cases hn : 0 < n
      · have := ih.2.2 hn; omega
      · obtain rfl : n = 0 := by omega
        simp [ckF]
    · rename_i h
      exact ⟨ckG_le _ _ _, fun h2 => absurd h2 h, fun _ => by simp only; omega⟩
theorem ck9_bd (ts : List T3) (js : List J4) (len : Nat) (r : Nat → Int) : (ck9 ts js len r).1 ≤ 6 ∧ (ck9 ts js len r).2 < 120 ∧ ((ck9 ts js len r).1 = 0 → (ck9 ts js len r).2 = 0) := by
  unfold ck9
  split
  · split
    · have h := ckF_bd (js := js) (r := r) (n := 120) (now := 0)
      exact ⟨h.1, by have := h.2.2 (by omega); omega, h.2.1⟩
    · simp
  · simp
/-- An accepted schedule: legal, of the right length, nothing wrong at any tick. -/
theorem ck9_ok {ts : List T3} {js : List J4} {len : Nat} {r : Nat → Int} : (ck9 ts js len r).1 = 0 ↔ legB ts js = true ∧ len = 120 ∧ ∀ t, t < 120 → ckG js r t = 0 := by
  unfold ck9
  split
  · rename_i h
    split
    · rename_i h2
      rw [ckF_ok]
      constructor
      · intro h3; exact ⟨h, h2, fun t ht => h3 t (Nat.zero_le _) (by omega)⟩
      · rintro ⟨_, _, h3⟩ t _ ht; exact h3 t (by omega)
    · rename_i h2
      constructor
      · intro h3; simp at h3
      · rintro ⟨_, h3, _⟩; exact absurd h3 h2
  · rename_i h
    constructor
    · intro h3; simp at h3
    · rintro ⟨h3, _⟩; exact absurd h3 h

/-! ### Promise 17 -/
/-- How often job k has run before T. -/
def ckN (r : Nat → Int) (k : Nat) (T : Nat) : Nat := sumN (fun t => if r t = (k : Int) then 1 else 0) T
theorem ckT_runs {js : List J4} {left : Nat → Nat} {now k : Nat} (h : ckT js left (k : Int) now = 0) : k < js.length ∧ jrel js k ≤ now ∧ 0 < left k := by
  unfold ckT at h
  split at h
  · simp at h
  · rename_i h1
    split at h
    · simp at h
    · rename_i h2
      simp only [Int.toNat_natCast] at h2
      refine ⟨by omega, ?_, ?_⟩ <;> omega
theorem ckG_runs {js : List J4} {r : Nat → Int} {now : Nat} (h : ckG js r now = 0) : ckT js (ckL (jex js) r now) (r now) now = 0 ∧ ckD js (ckL (jex js) r (now + 1)) now = false := by
  unfold ckG at h
  split at h
  · rename_i h1
    split at h
    · simp at h
    · rename_i h2
      exact ⟨h1, by simpa using h2⟩
  · rename_i h1
    exact absurd h h1
theorem ckN_left {js : List J4} {r : Nat → Int} {k : Nat} : ∀ {T : Nat}, (∀ t, t < T → ckG js r t = 0) → ckN r k T + ckL (jex js) r T k = jex js k
  | 0, _ => by simp [ckN, sumN, ckL]
  | T + 1, h => by
    have ih := ckN_left (js := js) (r := r) (k := k) (T := T) (fun t ht => h t (by omega))
    have e : ckN r k (T + 1) = ckN r k T + if r T = (k : Int) then 1 else 0 := rfl
    rw [e, ckL_succ]
    by_cases hr : r T = (k : Int)
    · have hT := (ckG_runs (h T (by omega))).1
      rw [hr] at hT
      have := (ckT_runs hT).2.2
      rw [if_pos hr, if_pos hr]
      omega
    · rw [if_neg hr, if_neg hr]
      omega
/-- Before its release a job does not run. -/
theorem ck_rel {js : List J4} {r : Nat → Int} {k : Nat} (h : ∀ t, t < 120 → ckG js r t = 0) : ∀ {T : Nat}, T ≤ 120 → T ≤ jrel js k → ckN r k T = 0
  | 0, _, _ => rfl
  | T + 1, h1, h2 => by
    have ih := ck_rel h (k := k) (T := T) (by omega) (by omega)
    have e : ckN r k (T + 1) = ckN r k T + if r T = (k : Int) then 1 else 0 := rfl
    rw [e, ih, if_neg]
    intro hr
    have hT := (ckG_runs (h T (by omega))).1
    rw [hr] at hT
    have := (ckT_runs hT).2.1
    omega
/-- By its deadline a job has run for its execution time. -/
theorem ck_due {js : List J4} {r : Nat → Int} {k : Nat} (h : ∀ t, t < 120 → ckG js r t = 0) (hk : k < js.length) (h1 : 1 ≤ jdl js k) (h2 : jdl js k ≤ 120) : ckN r k (jdl js k) = jex js k := by
  have hd := (ckG_runs (h (jdl js k - 1) (by omega))).2
  have h3 := ckN_left (js := js) (r := r) (k := k) (T := jdl js k) (fun t ht => h t (by omega))
  have h4 : ¬ ∃ i, i < js.length ∧ jdl js i = jdl js k - 1 + 1 ∧ 0 < ckL (jex js) r (jdl js k - 1 + 1) i := by simpa [ckD] using hd
  rw [Nat.sub_add_cancel h1] at h4
  by_cases e : 0 < ckL (jex js) r (jdl js k) k
  · exact absurd ⟨k, hk, rfl, e⟩ h4
  · omega

/-! ### Promise 16 -/
/-- A schedule of earliest deadline first leaves what the simulation leaves. -/
theorem ckL_sim {js : List J4} {r : Nat → Int} : ∀ {T : Nat}, (∀ t, t < T → r t = optI ((edfP js).run t)) → ∀ i, ckL (jex js) r T i = (edfP js).left T i
  | 0, _, _ => rfl
  | T + 1, h, i => by
    have ih := ckL_sim (T := T) (fun t ht => h t (by omega))
    rw [ckL_succ, (edfP js).left_succ, h T (by omega), ih i]
    cases hr : (edfP js).run T with
    | none =>
      rw [if_neg (by simp only [optI]; omega), if_neg (by simp)]
    | some b =>
      by_cases e : b = i
      · subst e
        rw [if_pos (by simp only [optI]), if_pos rfl]
      · rw [if_neg (by simp only [optI]; omega), if_neg (by simpa using e)]
theorem ckB_sim {js : List J4} {r : Nat → Int} {T : Nat} (h : ∀ t, t < T → r t = optI ((edfP js).run t)) : ckB js (ckL (jex js) r T) T = (edfP js).run T := by
  have : ckL (jex js) r T = (edfP js).left T := funext (ckL_sim h)
  unfold ckB
  rw [this]
  rfl
theorem ckT_sim {js : List J4} {r : Nat → Int} {T : Nat} (h : ∀ t, t < T + 1 → r t = optI ((edfP js).run t)) : ckT js (ckL (jex js) r T) (r T) T = 0 := by
  have hb := ckB_sim (T := T) (fun t ht => h t (by omega))
  have hk := h T (by omega)
  unfold ckT
  rw [hb]
  cases hr : (edfP js).run T with
  | none =>
    rw [hr] at hk
    rw [show r T = -1 from hk]
    simp
    omega
  | some b =>
    obtain ⟨h1, h2, h3⟩ := (edfP js).run_pos hr
    have h4 := ckL_sim (js := js) (r := r) (T := T) (fun t ht => h t (by omega)) b
    have h5 : b < js.length := h1
    have h6 : jrel js b ≤ T := h2
    rw [hr] at hk
    rw [show r T = (b : Int) from hk]
    simp only [Int.toNat_natCast]
    rw [if_neg (by omega), if_neg (by rw [h4]; omega), if_neg (by omega), if_neg (Nat.lt_irrefl _)]
/-- The checker's answer on a simulated schedule: nothing, or a job that is late. -/
theorem ckG_sim {js : List J4} {r : Nat → Int} {T : Nat} (h : ∀ t, t < T + 1 → r t = optI ((edfP js).run t)) : ckG js r T = if ckD js ((edfP js).left (T + 1)) T = true then 6 else 0 := by
  unfold ckG
  rw [if_pos (ckT_sim h)]
  have : ckL (jex js) r (T + 1) = (edfP js).left (T + 1) := funext (ckL_sim h)
  rw [this]
theorem ckF_sim {js : List J4} {r : Nat → Int} (h : ∀ t, t < 120 → r t = optI ((edfP js).run t)) : ∀ {n now : Nat}, now + n ≤ 120 → (ckF js r n now).1 = 0 ∨ (ckF js r n now).1 = 6
  | 0, now, _ => .inl rfl
  | n + 1, now, hn => by
    have hg := ckG_sim (js := js) (r := r) (T := now) (fun t ht => h t (by omega))
    simp only [ckF]
    split
    · exact ckF_sim h (by omega)
    · rename_i h2
      simp only
      rw [hg] at h2 ⊢
      split at h2
      · rename_i h3; rw [if_pos h3]; exact .inr rfl
      · exact absurd rfl h2
/-- Accepted if and only if every job with a deadline within the simulated time is finished by it. -/
theorem ck9_sim {ts : List T3} {js : List J4} {r : Nat → Int} (hl : legB ts js = true) (h : ∀ t, t < 120 → r t = optI ((edfP js).run t)) : ((ck9 ts js 120 r).1 = 0 ↔ ∀ i, i < js.length → 1 ≤ jdl js i → jdl js i ≤ 120 → (edfP js).left (jdl js i) i = 0) ∧ ((ck9 ts js 120 r).1 = 0 ∨ (ck9 ts js 120 r).1 = 6) := by
  constructor
  · rw [ck9_ok]
    constructor
    · rintro ⟨_, _, h2⟩ i hi h3 h4
      have hg := h2 (jdl js i - 1) (by omega)
      rw [ckG_sim (fun t ht => h t (by omega))] at hg
      rw [Nat.sub_add_cancel h3] at hg
      by_cases e : 0 < (edfP js).left (jdl js i) i
      · rw [if_pos (by unfold ckD; exact decide_eq_true ⟨i, hi, by omega, e⟩)] at hg
        simp at hg
      · omega
    · intro h2
      refine ⟨hl, rfl, fun t ht => ?_⟩
      rw [ckG_sim (fun s hs => h s (by omega)), if_neg]
      unfold ckD
      simp only [decide_eq_true_eq]
      rintro ⟨i, hi, hd, hp⟩
      have := h2 i hi (by omega) (by omega)
      rw [hd] at this
      omega
  · unfold ck9
    rw [if_pos hl, if_pos rfl]
    exact ckF_sim h (by omega)

/-! ### Promise 75 -/
/-- A tick in which a job runs, replaced by idling, is where the schedule is rejected. -/
theorem ck9_tamper {ts : List T3} {js : List J4} {r r' : Nat → Int} {at_ : Nat} (h : (ck9 ts js 120 r).1 = 0) (ha : at_ < 120) (hr : 0 ≤ r at_) (h1 : r' at_ = -1) (h2 : ∀ t, t < at_ → r' t = r t) : ck9 ts js 120 r' = (4, at_) := by
  obtain ⟨hl, _, hg⟩ := ck9_ok.1 h
  have e : ∀ t, t < at_ → ckG js r' t = 0 := fun t ht => by
    have e1 : ∀ i, ckL (jex js) r' t i = ckL (jex js) r t i := ckL_congr (fun s hs => h2 s (by omega))
    have e2 : ∀ i, ckL (jex js) r' (t + 1) i = ckL (jex js) r (t + 1) i := ckL_congr (fun s hs => h2 s (by omega))
    have := hg t (by omega)
    unfold ckG at this ⊢
    rw [funext e1, funext e2, h2 t ht]
    exact this
  have hT := (ckG_runs (hg at_ ha)).1
  obtain ⟨k, hk⟩ : ∃ k : Nat, r at_ = (k : Int) := ⟨(r at_).toNat, by omega⟩
  rw [hk] at hT
  obtain ⟨k1, k2, k3⟩ := ckT_runs hT
  have e1 : ∀ i, ckL (jex js) r' at_ i = ckL (jex js) r at_ i := ckL_congr (fun s hs => h2 s hs)
  have h4 : ckG js r' at_ = 4 := by
    have : ckT js (ckL (jex js) r' at_) (r' at_) at_ = 4 := by
      unfold ckT
      rw [h1, if_neg (by omega), if_neg (by omega), if_pos (by omega), if_neg]
      intro hb
      exact best_none hb k k1 ⟨k2, by rw [e1 k]; exact k3⟩
    unfold ckG
    rw [this, if_neg (by omega)]
  unfold ck9
  rw [if_pos hl, if_pos rfl, ckF_at (Nat.zero_le at_) (by omega) (fun t _ ht => e t ht) (by rw [h4]; omega), h4]

end Go.Proofs.YtdhdodmpfbgliaaDoor
