/- Plain arithmetic of legal release patterns (chapter 3), and the argument of promise 1: an accepted task set misses no deadline under earliest deadline first. No dump. -/
import Derived.Test.YtocppoobcanhiaaSim
namespace Go.Proofs.Ytocppoobcanhiaa

/-- A job: task, release, deadline, execution time. -/
abbrev J4 := Int × Int × Int × Int
def jb (js : List J4) (k : Nat) : J4 := js.getD k (0, 0, 0, 0)
def jid (js : List J4) (k : Nat) : Nat := (jb js k).1.toNat
def jrel (js : List J4) (k : Nat) : Nat := (jb js k).2.1.toNat
def jdl (js : List J4) (k : Nat) : Nat := (jb js k).2.2.1.toNat
def jex (js : List J4) (k : Nat) : Nat := (jb js k).2.2.2.toNat
def tk (ts : List T3) (i : Nat) : T3 := ts.getD i (0, 0, 0)
/-- Behind the first k jobs: from when on a task may release again. -/
def nx (ts : List T3) (js : List J4) : Nat → Nat → Nat
  | 0 => fun _ => 0
  | k + 1 => fun i => if jid js k = i then jrel js k + per (tk ts i) else nx ts js k i
/-- Job k is fine behind the jobs before it. -/
def Leg1 (ts : List T3) (js : List J4) (k : Nat) : Prop :=
  (0 ≤ (jb js k).1 ∧ (jb js k).1 < ts.length) ∧ (0 ≤ (jb js k).2.1 ∧ (jb js k).2.1 ≤ 119) ∧ (nx ts js k (jid js k) : Int) ≤ (jb js k).2.1 ∧
  (jb js k).2.2.1 = (jb js k).2.1 + (tk ts (jid js k)).2.1 ∧ (1 ≤ (jb js k).2.2.2 ∧ (jb js k).2.2.2 ≤ (tk ts (jid js k)).1) ∧
  (k = 0 ∨ (jb js (k - 1)).2.1 < (jb js k).2.1 ∨ ((jb js (k - 1)).2.1 = (jb js k).2.1 ∧ (jb js (k - 1)).1 < (jb js k).1))
instance (ts : List T3) (js : List J4) (k : Nat) : Decidable (Leg1 ts js k) := by unfold Leg1; infer_instance
/-- A legal release pattern. -/
def legB (ts : List T3) (js : List J4) : Bool := svB ts && decide (js.length ≤ 60) && (List.range js.length).all fun k => decide (Leg1 ts js k)
theorem legB_iff {ts : List T3} {js : List J4} : legB ts js = true ↔ svB ts = true ∧ js.length ≤ 60 ∧ ∀ k, k < js.length → Leg1 ts js k := by
  simp only [legB, Bool.and_eq_true, decide_eq_true_eq, List.all_eq_true, List.mem_range, and_assoc]

theorem tk_tv {ts : List T3} (h : ts.all tv = true) {i : Nat} (hi : i < ts.length) : tv (tk ts i) = true := by
  rw [List.all_eq_true] at h
  have e : tk ts i = ts[i] := by simp [tk, hi]
  rw [e]
  exact h _ (List.getElem_mem hi)
/-- A legal job in natural numbers. -/
theorem Leg1.nat {ts : List T3} {js : List J4} {k : Nat} (h : Leg1 ts js k) (hv : ts.all tv = true) :
    jid js k < ts.length ∧ tv (tk ts (jid js k)) = true ∧ nx ts js k (jid js k) ≤ jrel js k ∧ jrel js k ≤ 119 ∧ jdl js k = jrel js k + dln (tk ts (jid js k)) ∧ 1 ≤ jex js k ∧ jex js k ≤ cst (tk ts (jid js k)) := by
  obtain ⟨⟨a1, a2⟩, ⟨b1, b2⟩, c, d, ⟨e1, e2⟩, _⟩ := h
  have hi : jid js k < ts.length := by simp only [jid]; omega
  have ht := tk_tv hv hi
  have hb := tv_bd ht
  refine ⟨hi, ht, ?_⟩
  simp only [jrel, jdl, jex]
  omega

/-! ### How much a legal pattern asks within a window -/
theorem sum_dem (ts : List T3) (x : Nat) : dem ts x = sumN (fun i => dem1 (tk ts i) x) ts.length := by
  induction ts using snoc_ind with
  | h0 => rfl
  | h1 l a ih =>
    rw [dem_snoc, ih, List.length_append, List.length_singleton]
    simp only [sumN]
    congr 1
    · refine sumN_eq fun i hi => ?_
      have : tk (l ++ [a]) i = tk l i := by
        simp only [tk, List.getD_eq_getElem?_getD]
        rw [List.getElem?_append_left hi]
      rw [this]
    · have : tk (l ++ [a]) l.length = a := by simp [tk]
      rw [this]
/-- Of the first k jobs, those of task i within [s, D]. -/
def cn (js : List J4) (s D : Nat) : Nat → Nat → Nat
  | 0 => fun _ => 0
  | k + 1 => fun i => if jid js k = i ∧ s ≤ jrel js k ∧ jdl js k ≤ D then cn js s D k i + 1 else cn js s D k i
theorem cn_bd {ts : List T3} {js : List J4} (hv : ts.all tv = true) {s D : Nat} : ∀ {k : Nat}, (∀ j, j < k → Leg1 ts js j) → ∀ i,
    cn js s D k i = 0 ∨ (1 ≤ cn js s D k i ∧ s + cn js s D k i * per (tk ts i) ≤ nx ts js k i ∧ s + (cn js s D k i - 1) * per (tk ts i) + dln (tk ts i) ≤ D)
  | 0, _, _ => .inl rfl
  | k + 1, h, i => by
    have ih := cn_bd hv (s := s) (D := D) (k := k) (fun j hj => h j (by omega)) i
    have hl := (h k (by omega)).nat hv
    obtain ⟨h1, h2, h3, h4, h5, h6⟩ := hl
    by_cases hi : jid js k = i
    · subst hi
      have hn : nx ts js (k + 1) (jid js k) = jrel js k + per (tk ts (jid js k)) := by simp only [nx, if_true]
      rw [hn]
      by_cases hc : s ≤ jrel js k ∧ jdl js k ≤ D
      · have hc' : cn js s D (k + 1) (jid js k) = cn js s D k (jid js k) + 1 := by simp only [cn]; rw [if_pos ⟨trivial, hc⟩]
        rw [hc']
        refine .inr ⟨by omega, ?_, ?_⟩
        · rw [Nat.succ_mul]
          rcases ih with e | ⟨_, e, _⟩
          · rw [e]; omega
          · omega
        · rw [Nat.add_sub_cancel]
          rcases ih with e | ⟨_, e, _⟩
          · rw [e]; omega
          · omega
      · have hc' : cn js s D (k + 1) (jid js k) = cn js s D k (jid js k) := by simp only [cn]; rw [if_neg (by rintro ⟨_, h⟩; exact hc h)]
        rw [hc']
        rcases ih with e | ⟨e0, e1, e2⟩
        · exact .inl e
        · exact .inr ⟨e0, by omega, e2⟩
    · have hn : nx ts js (k + 1) i = nx ts js k i := by simp only [nx]; rw [if_neg hi]
      have hc' : cn js s D (k + 1) i = cn js s D k i := by simp only [cn]; rw [if_neg (by rintro ⟨h, _⟩; exact hi h)]
      rw [hn, hc']
      exact ih
theorem cn_dem {ts : List T3} {js : List J4} (hv : ts.all tv = true) {s D k : Nat} (h : ∀ j, j < k → Leg1 ts js j) {i : Nat} (hi : i < ts.length) : cn js s D k i * cst (tk ts i) ≤ dem1 (tk ts i) (D - s) := by
  have hb := tv_bd (tk_tv hv hi)
  rcases cn_bd hv (s := s) (D := D) h i with e | ⟨e0, _, e2⟩
  · rw [e]
    simp
  · unfold dem1
    rw [if_pos (by omega)]
    refine Nat.mul_le_mul_right _ ?_
    have : cn js s D k i - 1 ≤ (D - s - dln (tk ts i)) / per (tk ts i) := by
      rw [Nat.le_div_iff_mul_le (by omega)]
      omega
    omega
theorem asked {ts : List T3} {js : List J4} (hv : ts.all tv = true) {s D : Nat} : ∀ {k : Nat}, (∀ j, j < k → Leg1 ts js j) →
    sumN (fun i => if s ≤ jrel js i ∧ jdl js i ≤ D then jex js i else 0) k ≤ sumN (fun i => cn js s D k i * cst (tk ts i)) ts.length
  | 0, _ => by simp [sumN]
  | k + 1, h => by
    have ih := asked hv (s := s) (D := D) (k := k) (fun j hj => h j (by omega))
    obtain ⟨h1, h2, h3, h4, h5, h6, h7⟩ := (h k (by omega)).nat hv
    simp only [sumN]
    by_cases hc : s ≤ jrel js k ∧ jdl js k ≤ D
    · rw [if_pos hc]
      have := sumN_one (f := fun i => cn js s D k i * cst (tk ts i)) (g := fun i => cn js s D (k + 1) i * cst (tk ts i)) (x := cst (tk ts (jid js k))) h1
        (fun i _ hne => by
          have : cn js s D (k + 1) i = cn js s D k i := by simp only [cn]; rw [if_neg (by rintro ⟨h, _⟩; exact hne h.symm)]
          show cn js s D (k + 1) i * _ = cn js s D k i * _
          rw [this])
        (by
          have : cn js s D (k + 1) (jid js k) = cn js s D k (jid js k) + 1 := by simp only [cn]; rw [if_pos ⟨trivial, hc⟩]
          show cn js s D (k + 1) (jid js k) * _ = cn js s D k (jid js k) * _ + _
          rw [this, Nat.succ_mul])
      rw [this]
      omega
    · rw [if_neg hc]
      have : sumN (fun i => cn js s D (k + 1) i * cst (tk ts i)) ts.length = sumN (fun i => cn js s D k i * cst (tk ts i)) ts.length := sumN_eq fun i _ => by
        have : cn js s D (k + 1) i = cn js s D k i := by simp only [cn]; rw [if_neg (by rintro ⟨_, h⟩; exact hc h)]
        rw [this]
      rw [this]
      omega
theorem asked_dem {ts : List T3} {js : List J4} (h : legB ts js = true) (s D : Nat) :
    sumN (fun i => if s ≤ jrel js i ∧ jdl js i ≤ D then jex js i else 0) js.length ≤ dem ts (D - s) := by
  obtain ⟨hv, _, hl⟩ := legB_iff.1 h
  rw [sum_dem]
  exact Nat.le_trans (asked (all_of_sv hv) hl) (sumN_le fun i hi => cn_dem (all_of_sv hv) hl hi)

/-! ### An accepted task set -/
theorem edf_any {ts : List T3} (h : edf ts = true) (x : Nat) : dem ts x ≤ x := by
  obtain ⟨hv, hk⟩ := edf_iff.1 h
  have hall := all_of_sv hv
  have hb := hyp_bd ts hall
  have hH : wk ts (hyp ts) ≤ hyp ts := by
    rw [wk_hyper hall fun t ht => per_dvd_hyp ht, ← dem_hyper hall (fun t ht => per_dvd_hyp ht) hb.1]
    exact hk _ hb.1 (Nat.le_refl _)
  induction x using Nat.strongRecOn with
  | ind x ih =>
    by_cases h0 : x = 0
    · subst h0
      rw [dem_zero ts hall]
      exact Nat.le_refl _
    · by_cases h1 : x ≤ hyp ts
      · exact hk x (by omega) h1
      · have h2 := dem_split hall (hyp ts) (x - hyp ts)
        have h3 := ih (x - hyp ts) (by omega)
        rw [show hyp ts + (x - hyp ts) = x by omega] at h2
        omega
/-- The simulation by earliest deadlines. -/
def edfP (js : List J4) : Pat := ⟨js.length, jrel js, jex js, jdl js⟩
/-- Promise 1: nothing is left of a job at its deadline. -/
theorem edf_safe {ts : List T3} {js : List J4} (h : edf ts = true) (hl : legB ts js = true) {m : Nat} (hm : m < js.length) : (edfP js).left (jdl js m) m = 0 := by
  apply Classical.byContradiction
  intro hne
  obtain ⟨s, hs, h1⟩ := (edfP js).late (D := jdl js m) (m := m) hm (Nat.le_refl _) (by omega)
  have h2 := asked_dem hl s (jdl js m)
  have h3 := edf_any h (jdl js m - s)
  have h4 : sumN (fun i => if s ≤ (edfP js).rel i ∧ (edfP js).key i ≤ jdl js m then (edfP js).ex i else 0) (edfP js).n = sumN (fun i => if s ≤ jrel js i ∧ jdl js i ≤ jdl js m then jex js i else 0) js.length := rfl
  omega

end Go.Proofs.Ytocppoobcanhiaa
