/- The stack resource policy as plain arithmetic, and as the program keeps it (two stacks and a queue). No dump. -/
import Derived.Test.YtlagghoohloklaaPlain
import Derived.Test.YtlagghoohloklaaSec
namespace Go.Proofs.Ytlagghoohloklaa

/-! ### A simulation by any choice -/
structure Gen where
  n : Nat
  rel : Nat → Nat
  ex : Nat → Nat
  pick : (Nat → Nat) → Nat → Option Nat
def Gen.left (G : Gen) : Nat → Nat → Nat
  | 0 => G.ex
  | t + 1 => fun i => if G.pick (G.left t) t = some i then G.left t i - 1 else G.left t i
def Gen.run (G : Gen) (t : Nat) : Option Nat := G.pick (G.left t) t
def Gen.fin (G : Gen) : Nat → Nat → Int
  | 0 => fun _ => -1
  | t + 1 => fun i => if G.run t = some i ∧ G.left (t + 1) i = 0 then (t : Int) + 1 else G.fin t i
theorem Gen.left_succ (G : Gen) (t i : Nat) : G.left (t + 1) i = if G.run t = some i then G.left t i - 1 else G.left t i := rfl
theorem Gen.fin_succ (G : Gen) (t i : Nat) : G.fin (t + 1) i = if G.run t = some i ∧ G.left (t + 1) i = 0 then (t : Int) + 1 else G.fin t i := rfl
theorem Gen.left_le (G : Gen) (t i : Nat) : G.left (t + 1) i ≤ G.left t i := by
  rw [G.left_succ]
  split <;> omega
theorem Gen.left_mono (G : Gen) (i : Nat) {s t : Nat} (h : s ≤ t) : G.left t i ≤ G.left s i := by
  induction t with
  | zero => obtain rfl : s = 0 := by omega
            exact Nat.le_refl _
  | succ t ih =>
    by_cases e : s = t + 1
    · subst e; exact Nat.le_refl _
    · exact Nat.le_trans (G.left_le t i) (ih (by omega))
theorem Gen.left_ex (G : Gen) (t i : Nat) : G.left t i ≤ G.ex i := G.left_mono i (Nat.zero_le t)
/-- Only released, unfinished jobs run. -/
def Gen.Fair (G : Gen) : Prop := ∀ t i, G.run t = some i → i < G.n ∧ G.rel i ≤ t ∧ 0 < G.left t i
/-- The processor is idle only if no released job is unfinished. -/
def Gen.Busy (G : Gen) : Prop := ∀ t, G.run t = none → ∀ i, i < G.n → G.rel i ≤ t → G.left t i = 0
theorem Gen.fin_open (G : Gen) {t i : Nat} (h : 0 < G.left t i) : G.fin t i = -1 := by
  induction t with
  | zero => rfl
  | succ t ih =>
    rw [G.fin_succ, if_neg (by rintro ⟨_, h0⟩; omega)]
    exact ih (Nat.lt_of_lt_of_le h (G.left_le t i))
theorem Gen.fin_done (G : Gen) (hf : G.Fair) {t i : Nat} (hx : 0 < G.ex i) (h : G.left t i = 0) : ∃ f : Nat, G.fin t i = (f : Int) + 1 ∧ f < t ∧ G.run f = some i ∧ G.left (f + 1) i = 0 ∧ G.left f i = 1 := by
  induction t with
  | zero => exact absurd h (by simp only [Gen.left]; omega)
  | succ t ih =>
    by_cases h0 : G.left t i = 0
    · obtain ⟨f, h1, h2, h3⟩ := ih h0
      refine ⟨f, ?_, by omega, h3⟩
      rw [G.fin_succ, if_neg]
      · exact h1
      · rintro ⟨hr, _⟩
        have := (hf t i hr).2.2
        omega
    · have hr : G.run t = some i := by
        rw [G.left_succ] at h
        split at h
        · assumption
        · exact absurd h h0
      refine ⟨t, ?_, by omega, hr, h, ?_⟩
      · rw [G.fin_succ, if_pos ⟨hr, h⟩]
      · rw [G.left_succ, if_pos hr] at h
        omega
theorem Gen.fin_by (G : Gen) (hf : G.Fair) {T D i : Nat} (hx : 0 < G.ex i) (hD : D ≤ T) : (0 ≤ G.fin T i ∧ G.fin T i ≤ D) ↔ G.left D i = 0 := by
  constructor
  · rintro ⟨h0, h1⟩
    by_cases h : G.left T i = 0
    · obtain ⟨f, e, _, _, hl, _⟩ := G.fin_done hf hx h
      have := G.left_mono i (show f + 1 ≤ D by omega)
      omega
    · rw [G.fin_open (by omega)] at h0
      omega
  · intro h
    have hT : G.left T i = 0 := by have := G.left_mono i hD; omega
    obtain ⟨f, e, _, _, _, hl⟩ := G.fin_done hf hx hT
    have : f < D := by
      by_cases hf : D ≤ f
      · have := G.left_mono i hf
        omega
      · omega
    rw [e]
    omega
def Gen.ran (G : Gen) (i : Nat) (T : Nat) : Nat := sumN (fun t => if G.run t = some i then 1 else 0) T
theorem Gen.ran_left (G : Gen) (hf : G.Fair) (i T : Nat) : G.ran i T + G.left T i = G.ex i := by
  induction T with
  | zero => simp [Gen.ran, sumN, Gen.left]
  | succ T ih =>
    have e : G.ran i (T + 1) = G.ran i T + if G.run T = some i then 1 else 0 := rfl
    rw [e, G.left_succ]
    by_cases h : G.run T = some i
    · have := (hf T i h).2.2
      rw [if_pos h, if_pos h]
      omega
    · rw [if_neg h, if_neg h]
      omega
/-- Whoever has started was released before. -/
theorem Gen.begun (G : Gen) (hf : G.Fair) {i : Nat} : ∀ {t : Nat}, G.left t i < G.ex i → ∃ s, s < t ∧ G.run s = some i ∧ G.left s i = G.ex i
  | 0, h => absurd h (Nat.lt_irrefl _)
  | t + 1, h => by
    by_cases h0 : G.left t i < G.ex i
    · obtain ⟨s, h1, h2⟩ := begun G hf h0
      exact ⟨s, by omega, h2⟩
    · have h1 := G.left_ex t i
      refine ⟨t, by omega, ?_, by omega⟩
      rw [G.left_succ] at h
      split at h
      · assumption
      · omega
theorem Gen.left_rel (G : Gen) (hf : G.Fair) {t i : Nat} (h : t ≤ G.rel i) : G.left t i = G.ex i := by
  have h1 := G.left_ex t i
  by_cases h2 : G.left t i < G.ex i
  · obtain ⟨s, h3, h4, _⟩ := G.begun hf h2
    have := (hf s i h4).2.1
    omega
  · omega

/-! ### Busy at the same times -/
def Gen.all (G : Gen) (t : Nat) : Nat := sumN (G.left t) G.n
theorem Gen.all_some {G : Gen} (hf : G.Fair) {t i : Nat} (h : G.run t = some i) : G.all t = G.all (t + 1) + 1 := by
  obtain ⟨h1, _, h3⟩ := hf t i h
  refine sumN_one (b := i) h1 (fun j hj hne => ?_) ?_
  · rw [G.left_succ, if_neg (by rw [h]; simpa using fun e => hne e.symm)]
  · rw [G.left_succ, if_pos h]
    omega
theorem Gen.all_none {G : Gen} {t : Nat} (h : G.run t = none) : G.all (t + 1) = G.all t := by
  refine sumN_eq fun i _ => ?_
  rw [G.left_succ, if_neg (by rw [h]; simp)]
/-- Of the work that is left, what has been released. -/
def Gen.rdy (G : Gen) (t : Nat) : Nat := sumN (fun i => if G.rel i ≤ t then G.left t i else 0) G.n
def Gen.yet (G : Gen) (t : Nat) : Nat := sumN (fun i => if G.rel i ≤ t then 0 else G.ex i) G.n
theorem Gen.all_split {G : Gen} (hf : G.Fair) (t : Nat) : G.all t = G.rdy t + G.yet t := by
  unfold Gen.all Gen.rdy Gen.yet
  rw [← sumN_add]
  refine sumN_eq fun i _ => ?_
  by_cases h : G.rel i ≤ t
  · rw [if_pos h, if_pos h]
    omega
  · rw [if_neg h, if_neg h, G.left_rel hf (by omega)]
    omega
theorem Gen.run_rdy {G : Gen} (hf : G.Fair) (hb : G.Busy) (t : Nat) : G.run t = none ↔ G.rdy t = 0 := by
  constructor
  · intro h
    refine sumN_zero fun i hi => ?_
    split
    · exact hb t h i hi ‹_›
    · rfl
  · intro h
    cases hr : G.run t with
    | none => rfl
    | some i =>
      obtain ⟨h1, h2, h3⟩ := hf t i hr
      have := sumN_mem (f := fun i => if G.rel i ≤ t then G.left t i else 0) h1
      rw [if_pos h2] at this
      have e : sumN (fun i => if G.rel i ≤ t then G.left t i else 0) G.n = 0 := h
      omega
/-- Two policies that never idle in vain are idle at the same times. -/
theorem Gen.same_idle {G H : Gen} (hG : G.Fair) (bG : G.Busy) (hH : H.Fair) (bH : H.Busy) (hn : G.n = H.n) (hr : ∀ i, i < G.n → G.rel i = H.rel i) (hx : ∀ i, i < G.n → G.ex i = H.ex i) :
    ∀ t, G.all t = H.all t ∧ (G.run t = none ↔ H.run t = none) := by
  have key : ∀ t, G.all t = H.all t → (G.run t = none ↔ H.run t = none) := by
    intro t h
    have hy : G.yet t = H.yet t := by
      unfold Gen.yet
      rw [← hn]
      refine sumN_eq fun i hi => ?_
      rw [hr i hi, hx i hi]
    have := G.all_split hG t
    have := H.all_split hH t
    rw [G.run_rdy hG bG, H.run_rdy hH bH]
    omega
  intro t
  induction t with
  | zero =>
    have h : G.all 0 = H.all 0 := by
      unfold Gen.all
      rw [← hn]
      exact sumN_eq fun i hi => hx i hi
    exact ⟨h, key 0 h⟩
  | succ t ih =>
    have h : G.all (t + 1) = H.all (t + 1) := by
      cases hg : G.run t with
      | none =>
        have := G.all_none hg
        have := H.all_none (ih.2.1 hg)
        omega
      | some i =>
        cases hh : H.run t with
        | none => have := ih.2.2 hh; rw [hg] at this; simp at this
        | some j =>
          have := G.all_some hG hg
          have := H.all_some hH hh
          omega
    exact ⟨h, key _ h⟩
/-- The simulation by static keys is one of these. -/
def Pat.gen (P : Pat) : Gen := ⟨P.n, P.rel, P.ex, fun l t => best P.rel l P.key t P.n⟩
theorem Pat.gen_left (P : Pat) : ∀ t, P.gen.left t = P.left t
  | 0 => rfl
  | t + 1 => by
    funext i
    rw [P.gen.left_succ, P.left_succ]
    unfold Gen.run Pat.run
    rw [Pat.gen_left P t]
    rfl
theorem Pat.gen_run (P : Pat) (t : Nat) : P.gen.run t = P.run t := by
  unfold Gen.run
  rw [P.gen_left]
  rfl
theorem Pat.gen_fair (P : Pat) : P.gen.Fair := by
  intro t i h
  rw [P.gen_run] at h
  rw [P.gen_left]
  exact P.run_pos h
theorem Pat.gen_busy (P : Pat) : P.gen.Busy := by
  intro t h i hi hr
  rw [P.gen_run] at h
  rw [P.gen_left]
  have := best_none h i hi
  apply Classical.byContradiction
  intro h0
  exact this ⟨hr, Nat.pos_of_ne_zero h0⟩

/-! ### The stack resource policy -/
structure Srp where
  n : Nat
  rel : Nat → Nat
  ex : Nat → Nat
  key : Nat → Nat
  rdl : Nat → Nat
  st : Nat → Nat
  ln : Nat → Nat
  res : Nat → Nat
  ceil : Nat → Nat
def Srp.held (S : Srp) (l : Nat → Nat) (i : Nat) : Prop := 0 < S.ln i ∧ S.st i < S.ex i - l i ∧ S.ex i - l i < S.st i + S.ln i ∧ 0 < l i
instance (S : Srp) (l : Nat → Nat) (i : Nat) : Decidable (S.held l i) := by unfold Srp.held; infer_instance
/-- The smallest ceiling of what the first k jobs hold. -/
def Srp.sys (S : Srp) (l : Nat → Nat) : Nat → Nat
  | 0 => 13
  | k + 1 => if S.held l k then min (S.sys l k) (S.ceil (S.res k)) else S.sys l k
def Srp.top (S : Srp) (l : Nat → Nat) (now : Nat) : Option Nat := best S.rel (fun i => if l i < S.ex i then l i else 0) S.key now S.n
def Srp.pick (S : Srp) (l : Nat → Nat) (now : Nat) : Option Nat := match best S.rel l S.key now S.n with
  | none => none
  | some b => if l b = S.ex b ∧ S.sys l S.n ≤ S.rdl b then S.top l now else some b
def Srp.gen (S : Srp) : Gen := ⟨S.n, S.rel, S.ex, S.pick⟩
structure Srp.Ok (S : Srp) : Prop where
  key : ∀ i, i < S.n → S.key i = S.rel i + S.rdl i
  rdl : ∀ i, i < S.n → S.rdl i ≤ 12
  ex : ∀ i, i < S.n → 0 < S.ex i
  ceil : ∀ i, i < S.n → 0 < S.ln i → S.ceil (S.res i) ≤ S.rdl i
def Srp.Le (S : Srp) (k i : Nat) : Prop := S.key k < S.key i ∨ (S.key k = S.key i ∧ k ≤ i)
theorem Srp.Le.total {S : Srp} (k i : Nat) : S.Le k i ∨ S.Le i k := by
  unfold Srp.Le
  omega
theorem Srp.Le.anti {S : Srp} {k i : Nat} (h1 : S.Le k i) (h2 : S.Le i k) : k = i := by
  unfold Srp.Le at h1 h2
  omega
theorem Srp.sys_le {S : Srp} {l : Nat → Nat} {i : Nat} : ∀ {k : Nat}, i < k → S.held l i → S.sys l k ≤ S.ceil (S.res i)
  | 0, h, _ => absurd h (Nat.not_lt_zero _)
  | k + 1, h, hh => by
    simp only [Srp.sys]
    by_cases e : i = k
    · subst e
      rw [if_pos hh]
      exact Nat.min_le_right _ _
    · have := sys_le (S := S) (k := k) (by omega : i < k) hh
      split
      · exact Nat.le_trans (Nat.min_le_left _ _) this
      · exact this
theorem Srp.sys_cases (S : Srp) (l : Nat → Nat) : ∀ k : Nat, S.sys l k = 13 ∨ ∃ i, i < k ∧ S.held l i ∧ S.sys l k = S.ceil (S.res i)
  | 0 => .inl rfl
  | k + 1 => by
    simp only [Srp.sys]
    split
    · rename_i hh
      rcases Nat.le_total (S.sys l k) (S.ceil (S.res k)) with h | h
      · rw [Nat.min_eq_left h]
        rcases sys_cases S l k with e | ⟨i, h1, h2⟩
        · exact .inl e
        · exact .inr ⟨i, by omega, h2⟩
      · rw [Nat.min_eq_right h]
        exact .inr ⟨k, by omega, hh, rfl⟩
    · rcases sys_cases S l k with e | ⟨i, h1, h2⟩
      · exact .inl e
      · exact .inr ⟨i, by omega, h2⟩
theorem Srp.sys_13 (S : Srp) (l : Nat → Nat) : ∀ k : Nat, S.sys l k ≤ 13
  | 0 => Nat.le_refl _
  | k + 1 => by
    simp only [Srp.sys]
    have := sys_13 S l k
    split
    · exact Nat.le_trans (Nat.min_le_left _ _) this
    · exact this
theorem Srp.top_some {S : Srp} {l : Nat → Nat} {now k : Nat} (h : S.top l now = some k) : k < S.n ∧ S.rel k ≤ now ∧ 0 < l k ∧ l k < S.ex k ∧ ∀ i, i < S.n → S.rel i ≤ now → 0 < l i → l i < S.ex i → S.Le k i := by
  obtain ⟨h1, h2, h3, h4⟩ := best_some h
  have h5 : l k < S.ex k := by
    apply Classical.byContradiction
    intro hc
    rw [if_neg hc] at h3
    omega
  rw [if_pos h5] at h3
  refine ⟨h1, h2, h3, h5, fun i hi hr hp hl => ?_⟩
  refine h4 i hi hr ?_
  rw [if_pos hl]
  exact hp
/-- What is known of the job that runs. -/
theorem Srp.pick_some {S : Srp} {l : Nat → Nat} {now k : Nat} (h : S.pick l now = some k) : k < S.n ∧ S.rel k ≤ now ∧ 0 < l k ∧ (∀ i, i < S.n → S.rel i ≤ now → 0 < l i → l i < S.ex i → S.Le k i) ∧
    (((∀ i, i < S.n → S.rel i ≤ now → 0 < l i → S.Le k i) ∧ (l k = S.ex k → S.rdl k < S.sys l S.n)) ∨
     (l k < S.ex k ∧ ∃ b, b < S.n ∧ S.rel b ≤ now ∧ 0 < l b ∧ l b = S.ex b ∧ S.sys l S.n ≤ S.rdl b ∧ ∀ i, i < S.n → S.rel i ≤ now → 0 < l i → S.Le b i)) := by
  unfold Srp.pick at h
  cases hb : best S.rel l S.key now S.n with
  | none => rw [hb] at h; simp at h
  | some b =>
    rw [hb] at h
    simp only at h
    obtain ⟨b1, b2, b3, b4⟩ := best_some hb
    split at h
    · rename_i hc
      obtain ⟨h1, h2, h3, h4, h5⟩ := S.top_some h
      exact ⟨h1, h2, h3, h5, .inr ⟨h4, b, b1, b2, b3, hc.1, hc.2, b4⟩⟩
    · rename_i hc
      obtain rfl : b = k := by simpa using h
      refine ⟨b1, b2, b3, fun i hi hr hp _ => b4 i hi hr hp, .inl ⟨b4, fun e => ?_⟩⟩
      apply Classical.byContradiction
      intro hn
      exact hc ⟨e, by omega⟩
theorem Srp.pick_none {S : Srp} (ho : S.Ok) {l : Nat → Nat} {now : Nat} (hst : ∀ i, i < S.n → l i < S.ex i → S.rel i ≤ now) (h : S.pick l now = none) : ∀ i, i < S.n → S.rel i ≤ now → l i = 0 := by
  unfold Srp.pick at h
  cases hb : best S.rel l S.key now S.n with
  | none =>
    intro i hi hr
    have := best_none hb i hi
    apply Classical.byContradiction
    intro h0
    exact this ⟨hr, Nat.pos_of_ne_zero h0⟩
  | some b =>
    rw [hb] at h
    simp only at h
    obtain ⟨b1, b2, b3, b4⟩ := best_some hb
    split at h
    · rename_i hc
      exfalso
      rcases S.sys_cases l S.n with e | ⟨i, hi, hh, _⟩
      · have := ho.rdl b b1
        omega
      · unfold Srp.held at hh
        have hl : l i < S.ex i := by omega
        have := best_none h i hi
        refine this ⟨hst i hi hl, ?_⟩
        rw [if_pos hl]
        exact hh.2.2.2
    · simp at h
theorem Srp.fair (S : Srp) : S.gen.Fair := by
  intro t i h
  obtain ⟨h1, h2, h3, _⟩ := S.pick_some h
  exact ⟨h1, h2, h3⟩
theorem Srp.rel_of (S : Srp) {t i : Nat} (h : S.gen.left t i < S.ex i) : i < S.n ∧ S.rel i ≤ t := by
  obtain ⟨s, h1, h2, _⟩ := S.gen.begun S.fair h
  obtain ⟨h3, h4, _⟩ := S.fair s i h2
  have h4' : S.rel i ≤ s := h4
  exact ⟨h3, by omega⟩
theorem Srp.busy {S : Srp} (ho : S.Ok) : S.gen.Busy := by
  intro t h i hi hr
  exact S.pick_none ho (fun i _ hl => (S.rel_of hl).2) h i hi hr
/-- A started, unfinished job is never blocked: what runs is no less urgent. -/
theorem Srp.started {S : Srp} (ho : S.Ok) {t i : Nat} (h1 : S.gen.left t i < S.ex i) (h2 : 0 < S.gen.left t i) : ∃ k, S.gen.run t = some k ∧ k < S.n ∧ S.Le k i := by
  obtain ⟨hi, hr⟩ := S.rel_of h1
  cases hk : S.gen.run t with
  | none =>
    have := S.busy ho t hk i hi hr
    omega
  | some k =>
    obtain ⟨h3, _, _, h4, _⟩ := S.pick_some hk
    exact ⟨k, rfl, h3, h4 i hi hr h2 h1⟩
/-- Whoever holds a resource keeps its ceiling above the relative deadlines of the more urgent jobs that have started. -/
theorem Srp.inv {S : Srp} (t : Nat) : ∀ i j, i ≠ j → S.gen.left t j < S.ex j → 0 < S.gen.left t j → S.Le j i → S.held (S.gen.left t) i → S.rdl j < S.ceil (S.res i) := by
  induction t with
  | zero =>
    intro i j _ h
    exact absurd h (Nat.lt_irrefl _)
  | succ t ih =>
    intro i j hij h1 h2 h3 h4
    have hlj := S.gen.left_succ t j
    have hli := S.gen.left_succ t i
    cases hk : S.gen.run t with
    | none =>
      rw [hk, if_neg (by simp)] at hlj hli
      refine ih i j hij (by rw [← hlj]; exact h1) (by rw [← hlj]; exact h2) h3 ?_
      unfold Srp.held at h4 ⊢
      rw [← hli]
      exact h4
    | some k =>
      obtain ⟨k1, k2, k3, k4, k5⟩ := S.pick_some hk
      rw [hk] at hlj hli
      by_cases ei : k = i
      · subst ei
        rw [if_neg (by simpa using hij)] at hlj
        have hj := S.rel_of (t := t) (i := j) (by rw [← hlj]; exact h1)
        exact absurd (Srp.Le.anti (k4 j hj.1 hj.2 (by show 0 < S.gen.left t j; rw [← hlj]; exact h2) (by show S.gen.left t j < S.ex j; rw [← hlj]; exact h1)) h3) hij
      · rw [if_neg (by simpa using ei)] at hli
        have hh : S.held (S.gen.left t) i := by
          unfold Srp.held at h4 ⊢
          rw [← hli]
          exact h4
        by_cases ej : k = j
        · subst ej
          by_cases hn : S.gen.left t k = S.ex k
          · rcases k5 with ⟨_, k6⟩ | ⟨k6, _⟩
            · have h5 := k6 hn
              have hi : i < S.n := by
                unfold Srp.held at hh
                exact (S.rel_of (t := t) (i := i) (by omega)).1
              have := S.sys_le hi hh
              exact Nat.lt_of_lt_of_le h5 this
            · have k6' : S.gen.left t k < S.ex k := k6
              omega
          · have := S.gen.left_ex t k
            have hx : S.gen.ex k = S.ex k := rfl
            exact ih i k hij (by omega) k3 h3 hh
        · rw [if_neg (by simpa using ej)] at hlj
          exact ih i j hij (by rw [← hlj]; exact h1) (by rw [← hlj]; exact h2) h3 hh
/-- Critical sections on one resource exclude each other. -/
theorem Srp.mutex {S : Srp} (ho : S.Ok) {t i j : Nat} (hi : i < S.n) (hj : j < S.n) (hij : i ≠ j) (h1 : S.held (S.gen.left t) i) (h2 : S.held (S.gen.left t) j) : S.res i ≠ S.res j := by
  intro e
  have a1 := h1
  have a2 := h2
  unfold Srp.held at a1 a2
  rcases Srp.Le.total (S := S) i j with h | h
  · have := S.inv t j i (fun e => hij e.symm) (by omega) (by omega) h h2
    have := ho.ceil i hi a1.1
    rw [e] at this
    omega
  · have := S.inv t i j hij (by omega) (by omega) h h1
    have := ho.ceil j hj a2.1
    rw [← e] at this
    omega

/-! ### A window in which jobs with a deadline by D are pending -/
/-- At time t a job with a deadline by D is released and unfinished. -/
def Srp.pend (S : Srp) (D t : Nat) : Prop := ∃ i, i < S.n ∧ S.key i ≤ D ∧ S.rel i ≤ t ∧ 0 < S.gen.left t i
structure Srp.Win (S : Srp) (D s e : Nat) : Prop where
  clean : ∀ i, i < S.n → S.key i ≤ D → S.rel i < s → S.gen.left s i = 0
  pend : ∀ t, s ≤ t → t < e → S.pend D t
theorem Srp.win (S : Srp) (D : Nat) : ∀ T, ∃ s, s ≤ T ∧ S.Win D s T
  | 0 => ⟨0, Nat.le_refl _, fun i _ _ h => absurd h (Nat.not_lt_zero _), fun t _ h => absurd h (Nat.not_lt_zero _)⟩
  | T + 1 => by
    by_cases h : S.pend D T
    · obtain ⟨s, h1, h2⟩ := win S D T
      refine ⟨s, by omega, h2.clean, fun t ht he => ?_⟩
      by_cases e : t = T
      · subst e; exact h
      · exact h2.pend t ht (by omega)
    · refine ⟨T + 1, Nat.le_refl _, fun i hi hk hr => ?_, fun t h1 h2 => by omega⟩
      have h0 : S.gen.left T i = 0 := by
        apply Classical.byContradiction
        intro hc
        exact h ⟨i, hi, hk, by omega, Nat.pos_of_ne_zero hc⟩
      have := S.gen.left_le T i
      omega
/-- A job with a later deadline that runs within the window has started before it, and is inside a critical section whose ceiling the window sees. -/
theorem Srp.Win.low {S : Srp} (ho : S.Ok) {D s e : Nat} (hw : S.Win D s e) {t k : Nat} (h1 : s ≤ t) (h2 : t < e) (hk : S.gen.run t = some k) (hd : D < S.key k) :
    S.held (S.gen.left t) k ∧ D - s < S.rdl k ∧ S.ceil (S.res k) ≤ D - s := by
  obtain ⟨k1, k2, k3, k4, k5⟩ := S.pick_some hk
  obtain ⟨a, a1, a2, a3, a4⟩ := hw.pend t h1 h2
  rcases k5 with ⟨k6, _⟩ | ⟨k6, b, b1, b2, b3, b4, b5, b6⟩
  · have := k6 a a1 a3 a4
    unfold Srp.Le at this
    omega
  · have k6' : S.gen.left t k < S.ex k := k6
    -- whoever has started was the most urgent then
    have early : ∀ h, S.gen.left t h < S.ex h → D < S.key h → ∃ u, u < s ∧ S.rel h ≤ u ∧ ∀ i, i < S.n → S.rel i ≤ u → 0 < S.gen.left u i → S.Le h i := by
      intro h hl hD
      obtain ⟨u, u1, u2, u3⟩ := S.gen.begun S.fair hl
      obtain ⟨c1, c2, c3, c4, c5⟩ := S.pick_some u2
      rcases c5 with ⟨c6, _⟩ | ⟨c6, _⟩
      · refine ⟨u, ?_, c2, c6⟩
        apply Classical.byContradiction
        intro hn
        obtain ⟨x, x1, x2, x3, x4⟩ := hw.pend u (by omega) (by omega)
        have := c6 x x1 x3 x4
        unfold Srp.Le at this
        omega
      · have : S.gen.left u h < S.ex h := c6
        have u3' : S.gen.left u h = S.ex h := u3
        omega
    have hbD : S.key b ≤ D := by
      have := b6 a a1 a3 a4
      unfold Srp.Le at this
      omega
    have hbs : s ≤ S.rel b := by
      apply Classical.byContradiction
      intro hn
      have h0 := hw.clean b b1 hbD (by omega)
      have := S.gen.left_mono b h1
      have b3' : 0 < S.gen.left t b := b3
      omega
    have kb := ho.key b b1
    have kk := ho.key k k1
    obtain ⟨u, u1, u2, _⟩ := early k k6' hd
    have hrk : D - s < S.rdl k := by omega
    rcases S.sys_cases (S.gen.left t) S.n with h13 | ⟨h, hh1, hh2, hh3⟩
    · have := ho.rdl b b1
      have b5' : S.sys (S.gen.left t) S.n ≤ S.rdl b := b5
      omega
    · have b5' : S.sys (S.gen.left t) S.n ≤ S.rdl b := b5
      by_cases e : h = k
      · subst e
        exact ⟨hh2, hrk, by omega⟩
      · exfalso
        have hx := hh2
        unfold Srp.held at hx
        have hr := S.rel_of (t := t) (i := h) (by omega)
        have := S.inv t h k e k6' k3 (k4 h hr.1 hr.2 hx.2.2.2 (by show S.gen.left t h < S.ex h; omega)) hh2
        omega
/-- All of them are one job, and it holds already at the window's start. -/
theorem Srp.Win.first {S : Srp} (ho : S.Ok) {D s e : Nat} (hw : S.Win D s e) {k : Nat} (hd : D < S.key k) : ∀ d t, t = s + d → t < e → S.gen.run t = some k → S.held (S.gen.left s) k := by
  intro d
  induction d using Nat.strongRecOn with
  | ind d ih =>
    intro t ht he hk
    by_cases hc : ∃ u, s ≤ u ∧ u < t ∧ S.gen.run u = some k
    · obtain ⟨u, u1, u2, u3⟩ := hc
      exact ih (u - s) (by omega) u (by omega) (by omega) u3
    · have same : ∀ u, s ≤ u → u ≤ t → S.gen.left u k = S.gen.left s k := by
        intro u
        induction u with
        | zero => intro h1 _; obtain rfl : s = 0 := by omega
                  rfl
        | succ u iu =>
          intro h1 h2
          by_cases es : s = u + 1
          · subst es; rfl
          · rw [S.gen.left_succ, if_neg (fun hr => hc ⟨u, by omega, by omega, hr⟩)]
            exact iu (by omega) (by omega)
      obtain ⟨h1, _⟩ := hw.low ho (by omega) he hk hd
      unfold Srp.held at h1 ⊢
      rw [same t (by omega) (Nat.le_refl _)] at h1
      exact h1
theorem Srp.Win.one {S : Srp} (ho : S.Ok) {D s e : Nat} (hw : S.Win D s e) {t1 t2 k1 k2 : Nat} (a1 : s ≤ t1) (b1 : t1 < e) (c1 : S.gen.run t1 = some k1) (d1 : D < S.key k1) (a2 : s ≤ t2) (b2 : t2 < e) (c2 : S.gen.run t2 = some k2) (d2 : D < S.key k2) : k1 = k2 := by
  have f1 := hw.first ho d1 (t1 - s) t1 (by omega) b1 c1
  have f2 := hw.first ho d2 (t2 - s) t2 (by omega) b2 c2
  obtain ⟨_, g1, h1⟩ := hw.low ho a1 b1 c1 d1
  obtain ⟨_, g2, h2⟩ := hw.low ho a2 b2 c2 d2
  apply Classical.byContradiction
  intro hne
  have x1 := f1
  have x2 := f2
  unfold Srp.held at x1 x2
  rcases Srp.Le.total (S := S) k1 k2 with h | h
  · have := S.inv s k2 k1 (fun e => hne e.symm) (by omega) (by omega) h f2
    omega
  · have := S.inv s k1 k2 hne (by omega) (by omega) h f1
    omega
/-- At time u a job with a deadline beyond D runs. -/
def Srp.lowAt (S : Srp) (D u : Nat) : Bool := match S.gen.run u with
  | some k => decide (D < S.key k)
  | none => false
theorem Srp.lowAt_iff {S : Srp} {D u : Nat} : S.lowAt D u = true ↔ ∃ k, S.gen.run u = some k ∧ D < S.key k := by
  unfold Srp.lowAt
  cases S.gen.run u <;> simp
/-- How many ticks of [s, t) are of jobs with a deadline beyond D. -/
def Srp.lows (S : Srp) (D s : Nat) (t : Nat) : Nat := sumN (fun u => if s ≤ u ∧ S.lowAt D u = true then 1 else 0) t
theorem Srp.lows_succ (S : Srp) (D s t : Nat) : S.lows D s (t + 1) = S.lows D s t + if s ≤ t ∧ S.lowAt D t = true then 1 else 0 := rfl
theorem Srp.lows_start (S : Srp) (D s : Nat) : S.lows D s s = 0 := sumN_zero fun u hu => by rw [if_neg (by omega)]
theorem Srp.Win.lows_one {S : Srp} (ho : S.Ok) {D s e k : Nat} (hw : S.Win D s e) (hk : ∀ u j, s ≤ u → u < e → S.gen.run u = some j → D < S.key j → j = k) (hd : D < S.key k) (hh : S.held (S.gen.left s) k) :
    ∀ d, s + d ≤ e → S.lows D s (s + d) + S.gen.left (s + d) k = S.gen.left s k ∧ S.lows D s (s + d) < S.ln k := by
  intro d
  induction d with
  | zero =>
    intro _
    rw [Nat.add_zero, S.lows_start]
    exact ⟨Nat.zero_add _, hh.1⟩
  | succ d ih =>
    intro hde
    obtain ⟨i1, i2⟩ := ih (by omega)
    rw [← Nat.add_assoc, S.lows_succ, S.gen.left_succ]
    by_cases hr : S.gen.run (s + d) = some k
    · rw [if_pos ⟨by omega, S.lowAt_iff.2 ⟨k, hr, hd⟩⟩, if_pos hr]
      obtain ⟨h1, _⟩ := hw.low ho (by omega) (by omega) hr hd
      unfold Srp.held at h1 hh
      have := S.gen.left_ex (s + d) k
      have := S.gen.left_ex s k
      have hx : S.gen.ex k = S.ex k := rfl
      omega
    · rw [if_neg, if_neg hr]
      · exact ⟨by omega, by omega⟩
      · rintro ⟨_, hl⟩
        obtain ⟨j, j1, j2⟩ := S.lowAt_iff.1 hl
        have := hk (s + d) j (by omega) (by omega) j1 j2
        subst this
        exact hr j1
/-- A window is blocked by less than one critical section, of a job with a longer relative deadline, on a resource that a job of the window may use. -/
theorem Srp.Win.lows_le {S : Srp} (ho : S.Ok) {D s e : Nat} (hse : s ≤ e) (hw : S.Win D s e) : S.lows D s e = 0 ∨ ∃ k, k < S.n ∧ D - s < S.rdl k ∧ S.ceil (S.res k) ≤ D - s ∧ 0 < S.ln k ∧ S.lows D s e < S.ln k := by
  by_cases hc : ∃ t k, s ≤ t ∧ t < e ∧ S.gen.run t = some k ∧ D < S.key k
  · obtain ⟨t, k, h1, h2, h3, h4⟩ := hc
    have hh := hw.first ho h4 (t - s) t (by omega) h2 h3
    obtain ⟨_, l2, l3⟩ := hw.low ho h1 h2 h3 h4
    have hone := hw.lows_one ho (k := k) (fun u j u1 u2 u3 u4 => hw.one ho u1 u2 u3 u4 h1 h2 h3 h4) h4 hh (e - s) (by omega)
    rw [show s + (e - s) = e by omega] at hone
    exact .inr ⟨k, (S.fair t k h3).1, l2, l3, hh.1, hone.2⟩
  · left
    refine sumN_zero fun u hu => ?_
    rw [if_neg]
    rintro ⟨h1, h2⟩
    obtain ⟨k, k1, k2⟩ := S.lowAt_iff.1 h2
    exact hc ⟨u, k, h1, hu, k1, k2⟩
/-- What is left of the jobs with a deadline by D. -/
def Srp.due (S : Srp) (D t : Nat) : Nat := sumN (fun i => if S.key i ≤ D then S.gen.left t i else 0) S.n
theorem Srp.Win.due_low {S : Srp} (ho : S.Ok) {D s e : Nat} (hw : S.Win D s e) : ∀ d, s + d ≤ e → S.due D (s + d) + d = S.due D s + S.lows D s (s + d) := by
  intro d
  induction d with
  | zero => intro _; show S.due D s + 0 = S.due D s + S.lows D s s; rw [S.lows_start]
  | succ d ih =>
    intro hde
    have i1 := ih (by omega)
    rw [show s + (d + 1) = s + d + 1 from rfl, S.lows_succ]
    cases hr : S.gen.run (s + d) with
    | none =>
      obtain ⟨i, h1, _, h3, h4⟩ := hw.pend (s + d) (by omega) (by omega)
      have := S.busy ho (s + d) hr i h1 h3
      omega
    | some k =>
      obtain ⟨k1, _, k3⟩ := S.fair (s + d) k hr
      by_cases hk : S.key k ≤ D
      · have hn : ¬ S.lowAt D (s + d) = true := by
          intro hl
          obtain ⟨j, j1, j2⟩ := S.lowAt_iff.1 hl
          rw [hr] at j1
          obtain rfl : k = j := by simpa using j1
          omega
        rw [if_neg (fun h => hn h.2)]
        have : S.due D (s + d) = S.due D (s + d + 1) + 1 := by
          refine sumN_one (b := k) k1 (fun i hi hne => ?_) ?_
          · have e : S.gen.left (s + d + 1) i = S.gen.left (s + d) i := by rw [S.gen.left_succ, if_neg (by rw [hr]; simpa using fun e => hne e.symm)]
            show (if S.key i ≤ D then S.gen.left (s + d) i else 0) = if S.key i ≤ D then S.gen.left (s + d + 1) i else 0
            rw [e]
          · rw [if_pos hk, if_pos hk, S.gen.left_succ, if_pos hr]
            omega
        omega
      · rw [if_pos ⟨by omega, S.lowAt_iff.2 ⟨k, hr, by omega⟩⟩]
        have : S.due D (s + d) = S.due D (s + d + 1) := by
          refine sumN_eq fun i hi => ?_
          by_cases hne : k = i
          · subst hne
            rw [if_neg hk, if_neg hk]
          · have e : S.gen.left (s + d + 1) i = S.gen.left (s + d) i := by rw [S.gen.left_succ, if_neg (by rw [hr]; simpa using hne)]
            show (if S.key i ≤ D then S.gen.left (s + d) i else 0) = if S.key i ≤ D then S.gen.left (s + d + 1) i else 0
            rw [e]
        omega
/-- A job with a deadline by D that is unfinished at D: some window [s, D) in which more is asked than fits beside less than one critical section; something is asked in it. -/
theorem Srp.late {S : Srp} (ho : S.Ok) {D m : Nat} (hm : m < S.n) (hk : S.key m ≤ D) (hl : 0 < S.gen.left D m) :
    ∃ s, s ≤ D ∧ 0 < sumN (fun i => if s ≤ S.rel i ∧ S.key i ≤ D then S.ex i else 0) S.n ∧ (D - s < sumN (fun i => if s ≤ S.rel i ∧ S.key i ≤ D then S.ex i else 0) S.n ∨
      ∃ k, k < S.n ∧ D - s < S.rdl k ∧ S.ceil (S.res k) ≤ D - s ∧ 0 < S.ln k ∧ D - s < sumN (fun i => if s ≤ S.rel i ∧ S.key i ≤ D then S.ex i else 0) S.n + S.ln k) := by
  obtain ⟨s, hs, hw⟩ := S.win D D
  have h2 := hw.due_low ho (D - s) (by omega)
  rw [show s + (D - s) = D by omega] at h2
  have h3 : 1 ≤ S.due D D := Nat.le_trans (by rw [if_pos hk]; omega) (sumN_mem (f := fun i => if S.key i ≤ D then S.gen.left D i else 0) hm)
  have h4 : S.due D s ≤ sumN (fun i => if s ≤ S.rel i ∧ S.key i ≤ D then S.ex i else 0) S.n := sumN_le fun i hi => by
    by_cases hk : S.key i ≤ D
    · by_cases hr : s ≤ S.rel i
      · rw [if_pos hk, if_pos ⟨hr, hk⟩]
        exact S.gen.left_ex s i
      · rw [if_pos hk, hw.clean i hi hk (by omega)]
        exact Nat.zero_le _
    · rw [if_neg hk]
      exact Nat.zero_le _
  have h5 : S.due D D ≤ S.due D s := sumN_le fun i _ => by
    split
    · exact S.gen.left_mono i hs
    · exact Nat.le_refl _
  refine ⟨s, hs, by omega, ?_⟩
  rcases hw.lows_le ho hs with h0 | ⟨k, k1, k2, k3, k4, k5⟩
  · left
    omega
  · right
    exact ⟨k, k1, k2, k3, k4, by omega⟩
/-- Between release and finish, jobs with later deadlines run for less than one critical section. -/
theorem Srp.blocked {S : Srp} (ho : S.Ok) {i f : Nat} (hi : i < S.n) (hf : S.gen.run f = some i) : S.lows (S.key i) (S.rel i) (f + 1) = 0 ∨ ∃ k, k < S.n ∧ S.lows (S.key i) (S.rel i) (f + 1) < S.ln k := by
  obtain ⟨s, hs, hw⟩ := S.win (S.key i) f
  obtain ⟨_, h2, h3⟩ := S.fair f i hf
  have hsr : s ≤ S.rel i := by
    apply Classical.byContradiction
    intro hc
    have := hw.clean i hi (Nat.le_refl _) (by omega)
    have := S.gen.left_mono i hs
    omega
  have hle : S.lows (S.key i) (S.rel i) (f + 1) ≤ S.lows (S.key i) s f := by
    rw [S.lows_succ, if_neg, Nat.add_zero]
    · refine sumN_le fun u _ => ?_
      split
      · rename_i h
        rw [if_pos ⟨by omega, h.2⟩]
        exact Nat.le_refl _
      · exact Nat.zero_le _
    · rintro ⟨_, h⟩
      obtain ⟨j, j1, j2⟩ := S.lowAt_iff.1 h
      rw [hf] at j1
      obtain rfl : i = j := by simpa using j1
      omega
  rcases hw.lows_le ho hs with h0 | ⟨k, k1, _, _, _, k5⟩
  · left; omega
  · exact .inr ⟨k, k1, by omega⟩
end Go.Proofs.Ytlagghoohloklaa

namespace Go.Proofs.Ytlagghoohloklaa

/-- The simulation of a pattern with critical sections. -/
def srpP (ts ss : List T3) (js : List J4) : Srp := ⟨js.length, jrel js, jex js, jdl js, fun k => tdl ts (jid js k), fun k => sst ss (jid js k), fun k => sln ss (jid js k), fun k => srs ss (jid js k), ce ts ss⟩
/-- Both arguments are fine. -/
def okR (ts ss : List T3) (js : List J4) : Bool := scB ts ss && legB ts js
theorem okR_iff {ts ss : List T3} {js : List J4} : okR ts ss js = true ↔ scB ts ss = true ∧ legB ts js = true := by simp only [okR, Bool.and_eq_true]
theorem leg_nat {ts : List T3} {js : List J4} (h : legB ts js = true) {k : Nat} (hk : k < js.length) : jid js k < ts.length ∧ jdl js k = jrel js k + tdl ts (jid js k) ∧ 1 ≤ jex js k ∧ jex js k ≤ cst (tk ts (jid js k)) ∧ jrel js k ≤ 119 ∧
    (jb js k).1 = (jid js k : Nat) ∧ (jb js k).2.1 = (jrel js k : Nat) ∧ (jb js k).2.2.1 = (jdl js k : Nat) ∧ (jb js k).2.2.2 = (jex js k : Nat) := by
  obtain ⟨h1, h2, h3⟩ := legB_iff.1 h
  have h4 := h3 k hk
  have h5 := h4.nat (all_of_sv h1)
  have h6 := tv_bd h5.2.1
  obtain ⟨⟨a1, a2⟩, ⟨b1, b2⟩, c, d, ⟨e1, e2⟩, _⟩ := h4
  unfold tdl
  refine ⟨h5.1, h5.2.2.2.2.1, h5.2.2.2.2.2.1, h5.2.2.2.2.2.2, h5.2.2.2.1, ?_⟩
  simp only [jid, jrel, jdl, jex] at *
  omega
theorem srp_ok {ts ss : List T3} {js : List J4} (h : okR ts ss js = true) : (srpP ts ss js).Ok := by
  obtain ⟨hs, hl⟩ := okR_iff.1 h
  refine ⟨fun k hk => (leg_nat hl hk).2.1, fun k hk => ?_, fun k hk => (leg_nat hl hk).2.2.1, fun k hk h0 => ?_⟩
  · have := sc_nat hs (leg_nat hl hk).1
    show tdl ts (jid js k) ≤ 12
    omega
  · exact ceN_le h0 rfl (leg_nat hl hk).1
/-- Promise 9. -/
theorem srp_safe {ts ss : List T3} {js : List J4} (h : rfB ts ss = true) (hl : legB ts js = true) {m : Nat} (hm : m < js.length) : (srpP ts ss js).gen.left (jdl js m) m = 0 := by
  apply Classical.byContradiction
  intro hne
  have hs := (rfB_iff.1 h).1
  have hok : okR ts ss js = true := okR_iff.2 ⟨hs, hl⟩
  obtain ⟨s, hsD, hpos, h1⟩ := Srp.late (srp_ok hok) (S := srpP ts ss js) (D := jdl js m) (m := m) hm (Nat.le_refl _) (Nat.pos_of_ne_zero hne)
  have h2 := asked_dem hl s (jdl js m)
  have e : sumN (fun i => if s ≤ (srpP ts ss js).rel i ∧ (srpP ts ss js).key i ≤ jdl js m then (srpP ts ss js).ex i else 0) (srpP ts ss js).n = sumN (fun i => if s ≤ jrel js i ∧ jdl js i ≤ jdl js m then jex js i else 0) js.length := rfl
  rw [e] at h1 hpos
  have h3 := edf_any (rf_edf h) (jdl js m - s)
  rcases h1 with h1 | ⟨k, k1, k2, k3, k4, k5⟩
  · omega
  · have hid := (leg_nat hl k1).1
    have hsc := sc_nat hs hid
    have hp : per (tk ts (jid js k)) ≤ hyp ts := Nat.le_of_dvd (hyp_bd ts (all_of_sv (scB_iff.1 hs).1)).1 (per_dvd_hyp (by
      have e : tk ts (jid js k) = ts[jid js k] := by simp [tk, hid]
      rw [e]
      exact List.getElem_mem hid))
    have htv := tv_bd (tk_sv (scB_iff.1 hs).1 hid)
    have k2' : jdl js m - s < tdl ts (jid js k) := k2
    have k3' : ce ts ss (srs ss (jid js k)) ≤ jdl js m - s := k3
    have k4' : 0 < sln ss (jid js k) := k4
    have k5' : jdl js m - s < sumN (fun i => if s ≤ jrel js i ∧ jdl js i ≤ jdl js m then jex js i else 0) js.length + sln ss (jid js k) := k5
    have h6 : sln ss (jid js k) ≤ bl ts ss (jdl js m - s) := blN_ge k2' k4' k3' hid
    have h7 : tdl ts (jid js k) ≤ hyp ts := by unfold tdl; omega
    have h8 := (rfB_iff.1 h).2 (jdl js m - s)
    by_cases h9 : 1 ≤ jdl js m - s
    · have := h8 h9 (by omega)
      omega
    · have e0 : jdl js m - s = 0 := by omega
      rw [e0, dem_zero ts (all_of_sv (scB_iff.1 hs).1)] at h2
      omega
/-- Promise 32. -/
theorem srp_blocked {ts ss : List T3} {js : List J4} (h : okR ts ss js = true) {i f : Nat} (hi : i < js.length) (hf : (srpP ts ss js).gen.run f = some i) : (srpP ts ss js).lows (jdl js i) (jrel js i) (f + 1) ≤ mxF (sln ss) ts.length := by
  rcases Srp.blocked (srp_ok h) (S := srpP ts ss js) hi hf with h0 | ⟨k, k1, k2⟩
  · exact Nat.le_trans (Nat.le_of_eq h0) (Nat.zero_le _)
  · have h1 := mxF_ge (f := sln ss) (leg_nat (okR_iff.1 h).2 k1).1
    have k2' : (srpP ts ss js).lows (jdl js i) (jrel js i) (f + 1) < sln ss (jid js k) := k2
    omega
/-- Promise 66. -/
theorem sys_none {S : Srp} (h : ∀ i, S.ln i = 0) (l : Nat → Nat) : ∀ k : Nat, S.sys l k = 13
  | 0 => rfl
  | k + 1 => by
    simp only [Srp.sys]
    rw [if_neg]
    · exact sys_none h l k
    · unfold Srp.held
      have := h k
      omega
theorem srp_none (ts : List T3) (js : List J4) (h : legB ts js = true) : ∀ t, (srpP ts (zs ts.length) js).gen.left t = (edfP js).left t ∧ (srpP ts (zs ts.length) js).gen.run t = (edfP js).run t := by
  have hln : ∀ i, (srpP ts (zs ts.length) js).ln i = 0 := fun i => by
    show sln (zs ts.length) (jid js i) = 0
    unfold sln
    rw [tk_zs]
    rfl
  have hpick : ∀ l t, (srpP ts (zs ts.length) js).pick l t = best (jrel js) l (jdl js) t js.length := by
    intro l t
    unfold Srp.pick
    show (match best (jrel js) l (jdl js) t js.length with
      | none => none
      | some b => if l b = jex js b ∧ (srpP ts (zs ts.length) js).sys l js.length ≤ tdl ts (jid js b) then (srpP ts (zs ts.length) js).top l t else some b) = best (jrel js) l (jdl js) t js.length
    cases hb : best (jrel js) l (jdl js) t js.length with
    | none => rfl
    | some b =>
      simp only
      rw [if_neg]
      rintro ⟨_, h2⟩
      rw [sys_none hln] at h2
      have hn := leg_nat h (best_some hb).1
      have := tv_bd (tk_sv (legB_iff.1 h).1 hn.1)
      unfold tdl at h2
      omega
  have hrun : ∀ t, (srpP ts (zs ts.length) js).gen.left t = (edfP js).left t → (srpP ts (zs ts.length) js).gen.run t = (edfP js).run t := by
    intro t e
    show (srpP ts (zs ts.length) js).pick ((srpP ts (zs ts.length) js).gen.left t) t = _
    rw [hpick, e]
    rfl
  intro t
  induction t with
  | zero => exact ⟨rfl, hrun 0 rfl⟩
  | succ t ih =>
    have e : (srpP ts (zs ts.length) js).gen.left (t + 1) = (edfP js).left (t + 1) := by
      funext i
      rw [Gen.left_succ, Pat.left_succ, ih.1, ih.2]
    exact ⟨e, hrun _ e⟩
theorem srp_none_fin (ts : List T3) (js : List J4) (h : legB ts js = true) : ∀ t i, (srpP ts (zs ts.length) js).gen.fin t i = (edfP js).fin t i
  | 0, _ => rfl
  | t + 1, i => by
    rw [Gen.fin_succ, Pat.fin_succ, (srp_none ts js h t).2, (srp_none ts js h (t + 1)).1, srp_none_fin ts js h t i]

end Go.Proofs.Ytlagghoohloklaa

namespace Go.Proofs.Ytlagghoohloklaa

/-- The first m entries as a list, the last one on top. -/
def stk (f : Nat → Nat) : Nat → List Nat
  | 0 => []
  | m + 1 => f m :: stk f m
theorem stk_congr {f g : Nat → Nat} : ∀ {m : Nat}, (∀ k, k < m → f k = g k) → stk f m = stk g m
  | 0, _ => rfl
  | m + 1, h => by
    simp only [stk]
    rw [h m (by omega), stk_congr fun k hk => h k (by omega)]
theorem stk_len (f : Nat → Nat) : ∀ m, (stk f m).length = m
  | 0 => rfl
  | m + 1 => by simp only [stk, List.length_cons]; rw [stk_len f m]
/-- One entry more. -/
def onTop (f : Nat → Nat) (m x : Nat) : Nat → Nat := fun k => if k = m then x else f k
theorem stk_push (f : Nat → Nat) (m x : Nat) : stk (onTop f m x) (m + 1) = x :: stk f m := by
  simp only [stk]
  rw [show onTop f m x m = x from if_pos rfl, stk_congr (f := onTop f m x) (g := f) fun k hk => if_neg (by omega)]
theorem stk_mem {f : Nat → Nat} {m k : Nat} (h : k < m) : f k ∈ stk f m := by
  induction m with
  | zero => omega
  | succ m ih =>
    simp only [stk, List.mem_cons]
    by_cases e : k = m
    · subst e; exact .inl rfl
    · exact .inr (ih (by omega))

/-- Which jobs hold, as a list of resources. -/
def Srp.hold (S : Srp) (l : Nat → Nat) (L : List Nat) : List Nat := (L.filter fun i => decide (S.held l i)).map S.res
theorem Srp.hold_cons (S : Srp) (l : Nat → Nat) (j : Nat) (L : List Nat) : S.hold l (j :: L) = if S.held l j then S.res j :: S.hold l L else S.hold l L := by
  unfold Srp.hold
  rw [List.filter_cons]
  by_cases h : S.held l j
  · rw [if_pos (by simpa using h), if_pos h]; rfl
  · rw [if_neg (by simpa using h), if_neg h]
theorem Srp.hold_congr {S : Srp} {l l' : Nat → Nat} {L : List Nat} (h : ∀ i, i ∈ L → l i = l' i) : S.hold l L = S.hold l' L := by
  unfold Srp.hold
  congr 1
  refine List.filter_congr fun i hi => decide_eq_decide.2 ?_
  unfold Srp.held
  rw [h i hi]
/-- The jobs that have started and are not finished, the most urgent one on top; what they hold. -/
structure Stk (S : Srp) (t : Nat) (L HL : List Nat) : Prop where
  mem : ∀ x, x ∈ L ↔ x < S.n ∧ 0 < S.gen.left t x ∧ S.gen.left t x < S.ex x
  srt : L.Pairwise fun a b => S.Le a b ∧ a ≠ b
  hl : HL = S.hold (S.gen.left t) L
theorem Stk.start (S : Srp) : Stk S 0 [] [] := ⟨fun x => ⟨fun h => absurd h (by simp), fun ⟨_, _, h⟩ => absurd h (Nat.lt_irrefl _)⟩, List.Pairwise.nil, rfl⟩
/-- The ceiling that counts. -/
def Srp.lid (S : Srp) : List Nat → Nat
  | [] => 13
  | r :: _ => S.ceil r
/-- It is the ceiling of the resource on top. -/
theorem Stk.sys {S : Srp} (ho : S.Ok) {t : Nat} {L HL : List Nat} (h : Stk S t L HL) (hc : ∀ i, i < S.n → 0 < S.ln i → S.ceil (S.res i) ≤ 13) : S.sys (S.gen.left t) S.n = S.lid HL := by
  have hin : ∀ i, i < S.n → S.held (S.gen.left t) i → i ∈ L := fun i hi hh => (h.mem i).2 (by
    unfold Srp.held at hh
    exact ⟨hi, hh.2.2.2, by omega⟩)
  -- the topmost holder among L
  have key : ∀ L' : List Nat, (∀ x, x ∈ L' → x ∈ L) → L'.Pairwise (fun a b => S.Le a b ∧ a ≠ b) → S.hold (S.gen.left t) L' = [] ∧ (∀ x, x ∈ L' → ¬ S.held (S.gen.left t) x) ∨
      ∃ i HL', S.hold (S.gen.left t) L' = S.res i :: HL' ∧ i ∈ L' ∧ S.held (S.gen.left t) i ∧ ∀ x, x ∈ L' → S.held (S.gen.left t) x → x = i ∨ (S.Le i x ∧ i ≠ x) := by
    intro L'
    induction L' with
    | nil => intro _ _; exact .inl ⟨rfl, fun x hx => by simp at hx⟩
    | cons a L' ih =>
      intro hs hp
      obtain ⟨hp1, hp2⟩ := List.pairwise_cons.1 hp
      rw [S.hold_cons]
      by_cases hh : S.held (S.gen.left t) a
      · rw [if_pos hh]
        refine .inr ⟨a, _, rfl, by simp, hh, fun x hx _ => ?_⟩
        rcases List.mem_cons.1 hx with rfl | hx
        · exact .inl rfl
        · exact .inr (hp1 x hx)
      · rw [if_neg hh]
        rcases ih (fun x hx => hs x (by simp [hx])) hp2 with ⟨e, hn⟩ | ⟨i, HL', e, hi, hhi, hall⟩
        · refine .inl ⟨e, fun x hx => ?_⟩
          rcases List.mem_cons.1 hx with rfl | hx
          · exact hh
          · exact hn x hx
        · refine .inr ⟨i, HL', e, by simp [hi], hhi, fun x hx hhx => ?_⟩
          rcases List.mem_cons.1 hx with rfl | hx
          · exact absurd hhx hh
          · exact hall x hx hhx
  rcases key L (fun x hx => hx) h.srt with ⟨e, hn⟩ | ⟨i, HL', e, hi, hhi, hall⟩
  · rw [h.hl, e]
    rcases S.sys_cases (S.gen.left t) S.n with e13 | ⟨x, hx, hhx, _⟩
    · exact e13
    · exact absurd hhx (hn x (hin x hx hhx))
  · rw [h.hl, e]
    show _ = S.ceil (S.res i)
    have hin' := (h.mem i).1 hi
    have hle := S.sys_le (k := S.n) hin'.1 hhi
    rcases S.sys_cases (S.gen.left t) S.n with e13 | ⟨x, hx, hhx, ex⟩
    · have hhi' := hhi
      unfold Srp.held at hhi'
      have := hc i hin'.1 hhi'.1
      omega
    · rcases hall x (hin x hx hhx) hhx with rfl | ⟨h1, h2⟩
      · exact ex
      · have h3 := S.inv t x i (fun e => h2 e.symm) hin'.2.2 hin'.2.1 h1 hhx
        have hhi' := hhi
        unfold Srp.held at hhi'
        have h4 := ho.ceil i hin'.1 hhi'.1
        omega
/-- At time t the heap holds, among the first nx jobs, those that have not started; the others are released at t or later. -/
structure Wt (S : Srp) (K : Nat → Nat) (t nx m : Nat) (f : Nat → Nat) : Prop where
  le : nx ≤ S.n
  mle : m ≤ nx
  past : ∀ k, k < nx → S.rel k ≤ t
  next : ∀ k, nx ≤ k → k < S.n → t ≤ S.rel k
  inj : ∀ a b, a < m → b < m → f a = f b → a = b
  mem : ∀ x, (∃ k, k < m ∧ f k = x) ↔ x < nx ∧ S.gen.left t x = S.ex x
  ok : HeapOk K f m
variable {S : Srp} {K f f' : Nat → Nat} {t nx m : Nat} {L HL : List Nat}
theorem Wt.start (S : Srp) (K f : Nat → Nat) : Wt S K 0 0 0 f :=
  ⟨Nat.zero_le _, Nat.le_refl _, fun _ hk => absurd hk (Nat.not_lt_zero _), fun _ _ _ => Nat.zero_le _, fun _ _ ha => absurd ha (Nat.not_lt_zero _), fun _ => ⟨fun ⟨_, hk, _⟩ => absurd hk (Nat.not_lt_zero _), fun ⟨h, _⟩ => absurd h (Nat.not_lt_zero _)⟩, fun _ _ hc => absurd hc (Nat.not_lt_zero _)⟩
theorem Wt.push (h : Wt S K t nx m f) (hn : nx < S.n) (hr : S.rel nx = t) (hm : Mixed (m + 1) (onTop f m nx) f') (hk : HeapOk K f' (m + 1)) : Wt S K t (nx + 1) (m + 1) f' := by
  have hin : ∀ k, k < m → f k < nx := fun k hk => ((h.mem (f k)).1 ⟨k, hk, rfl⟩).1
  have ea : ∀ k, k < m → onTop f m nx k = f k := fun k hk => if_neg (by omega)
  have en : onTop f m nx m = nx := if_pos rfl
  refine ⟨hn, by have := h.mle; omega, fun k hk => ?_, fun k hk hk' => h.next k (by omega) hk', hm.inj fun a b ha hb e => ?_, fun x => ?_, hk⟩
  · by_cases e : k = nx
    · subst e; omega
    · exact h.past k (by omega)
  · by_cases e1 : a = m
    · by_cases e2 : b = m
      · omega
      · rw [e1, en, ea b (by omega)] at e
        have := hin b (by omega)
        omega
    · by_cases e2 : b = m
      · rw [e2, en, ea a (by omega)] at e
        have := hin a (by omega)
        omega
      · rw [ea a (by omega), ea b (by omega)] at e
        exact h.inj a b (by omega) (by omega) e
  · have hl : S.gen.left t nx = S.ex nx := S.gen.left_rel S.fair (by show t ≤ S.rel nx; omega)
    constructor
    · rintro ⟨k, hk, rfl⟩
      obtain ⟨q, hq, e⟩ := hm.fro k hk
      by_cases e1 : q = m
      · rw [← e, e1, en]
        exact ⟨by omega, hl⟩
      · rw [← e, ea q (by omega)]
        have := (h.mem (f q)).1 ⟨q, by omega, rfl⟩
        exact ⟨by omega, this.2⟩
    · rintro ⟨h1, h2⟩
      by_cases e : x = nx
      · subst e
        obtain ⟨q, hq, e⟩ := hm.to m (by omega)
        exact ⟨q, hq, e.trans en⟩
      · obtain ⟨k, hk, e⟩ := (h.mem x).2 ⟨by omega, h2⟩
        obtain ⟨q, hq, e'⟩ := hm.to k (by omega)
        exact ⟨q, hq, e'.trans ((ea k hk).trans e)⟩
/-- All that is released at t lies in the heap or has lain there. -/
def Srp.All (S : Srp) (t nx : Nat) : Prop := ∀ k, nx ≤ k → k < S.n → t < S.rel k
/-- A released, unfinished job waits or has started. -/
theorem Wt.split (h : Wt S K t nx m f) (hs : Stk S t L HL) (hf : S.All t nx) {x : Nat} (hx : x < S.n) (hr : S.rel x ≤ t) (hl : 0 < S.gen.left t x) : (∃ k, k < m ∧ f k = x) ∨ x ∈ L := by
  have hn : x < nx := by
    rcases Nat.lt_or_ge x nx with e | e
    · exact e
    · have := hf x e hx; omega
  by_cases e : S.gen.left t x = S.ex x
  · exact .inl ((h.mem x).2 ⟨hn, e⟩)
  · have := S.gen.left_ex t x
    have hx' : S.gen.ex x = S.ex x := rfl
    exact .inr ((hs.mem x).2 ⟨hx, hl, by omega⟩)
theorem Wt.none (h : Wt S K t nx 0 f) (hs : Stk S t [] HL) (hf : S.All t nx) : S.gen.run t = none := by
  cases hr : S.gen.run t with
  | none => rfl
  | some b =>
    obtain ⟨h1, h2, h3⟩ := S.fair t b hr
    rcases h.split hs hf h1 h2 h3 with ⟨k, hk, _⟩ | hm
    · exact absurd hk (Nat.not_lt_zero _)
    · simp at hm
theorem Srp.best_is {S : Srp} {l : Nat → Nat} {t b : Nat} (hb : b < S.n) (hr : S.rel b ≤ t) (hl : 0 < l b) (hall : ∀ i, i < S.n → S.rel i ≤ t → 0 < l i → S.Le b i) : best S.rel l S.key t S.n = some b := by
  cases h : best S.rel l S.key t S.n with
  | none => exact absurd ⟨hr, hl⟩ (best_none h b hb)
  | some c =>
    obtain ⟨c1, c2, c3, c4⟩ := best_some h
    have h1 := hall c c1 c2 c3
    have h2 : S.Le c b := c4 b hb hr hl
    rw [Srp.Le.anti h2 h1]
theorem Stk.first {a : Nat} {L0 : List Nat} (hs : Stk S t (a :: L0) HL) {x : Nat} (hx : x ∈ a :: L0) : S.Le a x := by
  rcases List.mem_cons.1 hx with rfl | hx
  · unfold Srp.Le; omega
  · exact ((List.pairwise_cons.1 hs.srt).1 x hx).1
/-- Who has started stays on top if whoever waits is less urgent, or may not start. -/
theorem Wt.stay {a : Nat} {L0 : List Nat} (h : Wt S K t nx m f) (hs : Stk S t (a :: L0) HL) (hf : S.All t nx) (ho : S.Ok) (hc : ∀ i, i < S.n → 0 < S.ln i → S.ceil (S.res i) ≤ 13)
    (hK : ∀ x y, x < S.n → y < S.n → (K x < K y ↔ S.key x < S.key y ∨ (S.key x = S.key y ∧ x < y))) (hno : 0 < m → K (f 0) < K a → S.lid HL ≤ S.rdl (f 0)) : S.gen.run t = some a := by
  obtain ⟨a1, a2, a3⟩ := (hs.mem a).1 (by simp)
  have har : S.rel a ≤ t := (S.rel_of a3).2
  have hle := h.le
  have htop : S.top (S.gen.left t) t = some a := by
    refine S.best_is (l := fun i => if S.gen.left t i < S.ex i then S.gen.left t i else 0) a1 har (by rw [if_pos a3]; exact a2) fun i hi hri hli => ?_
    by_cases e : S.gen.left t i < S.ex i
    · rw [if_pos e] at hli
      exact hs.first ((hs.mem i).2 ⟨hi, hli, e⟩)
    · rw [if_neg e] at hli
      omega
  show S.pick (S.gen.left t) t = some a
  unfold Srp.pick
  by_cases hm : 0 < m
  · have hf0 := (h.mem (f 0)).1 ⟨0, hm, rfl⟩
    have hfn : f 0 < S.n := by omega
    have hmin : ∀ k, k < m → S.Le (f 0) (f k) := fun k hk => by
      have h1 := h.ok.top k hk
      have hkn := (h.mem (f k)).1 ⟨k, hk, rfl⟩
      have h2 := hK (f k) (f 0) (by omega) hfn
      rcases Srp.Le.total (S := S) (f 0) (f k) with e | e
      · exact e
      · unfold Srp.Le at e ⊢
        have : ¬ (S.key (f k) < S.key (f 0) ∨ (S.key (f k) = S.key (f 0) ∧ f k < f 0)) := fun hh => by have := h2.2 hh; omega
        omega
    by_cases hb : K (f 0) < K a
    · have hb' := (hK (f 0) a hfn a1).1 hb
      rw [S.best_is (l := S.gen.left t) (b := f 0) hfn (h.past _ hf0.1) (by have := ho.ex (f 0) hfn; omega) fun i hi hri hli => ?_]
      · simp only
        rw [if_pos ⟨hf0.2, by rw [hs.sys ho hc]; exact hno hm hb⟩]
        exact htop
      · rcases h.split hs hf hi hri hli with ⟨k, hk, rfl⟩ | hmem
        · exact hmin k hk
        · have := hs.first hmem
          unfold Srp.Le at this ⊢
          omega
    · have hb' : ¬ (S.key (f 0) < S.key a ∨ (S.key (f 0) = S.key a ∧ f 0 < a)) := fun hh => hb ((hK (f 0) a hfn a1).2 hh)
      rw [S.best_is (l := S.gen.left t) (b := a) a1 har a2 fun i hi hri hli => ?_]
      · simp only
        rw [if_neg (fun hh => by omega)]
      · rcases h.split hs hf hi hri hli with ⟨k, hk, rfl⟩ | hmem
        · have := hmin k hk
          unfold Srp.Le at this ⊢
          omega
        · exact hs.first hmem
  · rw [S.best_is (l := S.gen.left t) (b := a) a1 har a2 fun i hi hri hli => ?_]
    · simp only
      rw [if_neg (fun hh => by omega)]
    · rcases h.split hs hf hi hri hli with ⟨k, hk, rfl⟩ | hmem
      · omega
      · exact hs.first hmem
/-- Who waits starts. -/
theorem Wt.go (h : Wt S K t nx m f) (hs : Stk S t L HL) (hf : S.All t nx) (ho : S.Ok) (hc : ∀ i, i < S.n → 0 < S.ln i → S.ceil (S.res i) ≤ 13)
    (hK : ∀ x y, x < S.n → y < S.n → (K x < K y ↔ S.key x < S.key y ∨ (S.key x = S.key y ∧ x < y))) (hm : 0 < m) (hb : ∀ a L0, L = a :: L0 → K (f 0) < K a) (hlid : S.rdl (f 0) < S.lid HL) : S.gen.run t = some (f 0) ∧ ∀ x, x ∈ L → S.Le (f 0) x ∧ f 0 ≠ x := by
  have hle := h.le
  have hf0 := (h.mem (f 0)).1 ⟨0, hm, rfl⟩
  have hfn : f 0 < S.n := by omega
  have hL : ∀ x, x ∈ L → S.Le (f 0) x := by
    cases L with
    | nil => intro x hx; simp at hx
    | cons a L0 =>
      have hb' := (hK (f 0) a hfn ((hs.mem a).1 (by simp)).1).1 (hb a L0 rfl)
      intro x hx
      have := hs.first hx
      unfold Srp.Le at this ⊢
      omega
  refine ⟨?_, fun x hx => ⟨hL x hx, fun e => by have := ((hs.mem x).1 hx).2.2; rw [← e] at this; omega⟩⟩
  show S.pick (S.gen.left t) t = some (f 0)
  unfold Srp.pick
  rw [S.best_is (l := S.gen.left t) (b := f 0) hfn (h.past _ hf0.1) (by have := ho.ex (f 0) hfn; omega) fun i hi hri hli => ?_]
  · simp only
    rw [if_neg]
    rintro ⟨_, h2⟩
    rw [hs.sys ho hc] at h2
    omega
  · rcases h.split hs hf hi hri hli with ⟨k, hk, rfl⟩ | hmem
    · have h1 := h.ok.top k hk
      have hkn := (h.mem (f k)).1 ⟨k, hk, rfl⟩
      have h2 := hK (f k) (f 0) (by omega) hfn
      rcases Srp.Le.total (S := S) (f 0) (f k) with e | e
      · exact e
      · unfold Srp.Le at e ⊢
        have : ¬ (S.key (f k) < S.key (f 0) ∨ (S.key (f k) = S.key (f 0) ∧ f k < f 0)) := fun hh => by have := h2.2 hh; omega
        omega
    · exact hL i hmem
/-- Job j is on top and runs; below it those that have started before. -/
structure OnT (S : Srp) (t j : Nat) (L0 HL : List Nat) : Prop where
  run : S.gen.run t = some j
  mem : ∀ x, x ∈ L0 ↔ x ≠ j ∧ x < S.n ∧ 0 < S.gen.left t x ∧ S.gen.left t x < S.ex x
  srt : (j :: L0).Pairwise fun a b => S.Le a b ∧ a ≠ b
  hl : HL = S.hold (S.gen.left t) (j :: L0)
theorem Stk.mid {a : Nat} {L0 : List Nat} (hs : Stk S t (a :: L0) HL) (hr : S.gen.run t = some a) : OnT S t a L0 HL := by
  refine ⟨hr, fun x => ?_, hs.srt, hs.hl⟩
  have hne := (List.pairwise_cons.1 hs.srt).1
  constructor
  · intro hx
    exact ⟨fun e => (hne x hx).2 e.symm, (hs.mem x).1 (by simp [hx])⟩
  · rintro ⟨h1, h2⟩
    rcases List.mem_cons.1 ((hs.mem x).2 h2) with e | e
    · exact absurd e h1
    · exact e
theorem Stk.mid_new {j : Nat} (hs : Stk S t L HL) (hr : S.gen.run t = some j) (hj : S.gen.left t j = S.ex j) (hL : ∀ x, x ∈ L → S.Le j x ∧ j ≠ x) : OnT S t j L HL := by
  refine ⟨hr, fun x => ?_, List.pairwise_cons.2 ⟨hL, hs.srt⟩, ?_⟩
  · constructor
    · intro hx
      exact ⟨fun e => (hL x hx).2 e.symm, (hs.mem x).1 hx⟩
    · rintro ⟨_, h2⟩
      exact (hs.mem x).2 h2
  · rw [S.hold_cons, if_neg]
    · exact hs.hl
    · unfold Srp.held
      omega
/-- What the tick does to the stacks. -/
theorem OnT.next {j : Nat} {L0 : List Nat} (h : OnT S t j L0 HL) :
    Stk S (t + 1) (if S.gen.left t j = 1 then L0 else j :: L0) (if S.held (S.gen.left (t + 1)) j then S.res j :: S.hold (S.gen.left t) L0 else S.hold (S.gen.left t) L0) := by
  obtain ⟨j1, j2, j3⟩ := S.fair t j h.run
  have hj1 : j < S.n := j1
  have hlj : S.gen.left (t + 1) j = S.gen.left t j - 1 := by rw [S.gen.left_succ, if_pos h.run]
  have hlx : ∀ x, x ≠ j → S.gen.left (t + 1) x = S.gen.left t x := fun x hx => by rw [S.gen.left_succ, if_neg (by rw [h.run]; simpa using fun e => hx e.symm)]
  have hex := S.gen.left_ex t j
  have hexj : S.gen.ex j = S.ex j := rfl
  have hm0 : ∀ x, x ∈ L0 ↔ x ≠ j ∧ x < S.n ∧ 0 < S.gen.left (t + 1) x ∧ S.gen.left (t + 1) x < S.ex x := fun x => by
    rw [h.mem x]
    constructor
    · rintro ⟨h1, h2⟩; rw [hlx x h1]; exact ⟨h1, h2⟩
    · rintro ⟨h1, h2⟩; rw [hlx x h1] at h2; exact ⟨h1, h2⟩
  have hcong : S.hold (S.gen.left (t + 1)) L0 = S.hold (S.gen.left t) L0 := Srp.hold_congr fun i hi => hlx i ((h.mem i).1 hi).1
  obtain ⟨hp1, hp2⟩ := List.pairwise_cons.1 h.srt
  by_cases e : S.gen.left t j = 1
  · rw [if_pos e, if_neg (by unfold Srp.held; omega)]
    refine ⟨fun x => ?_, hp2, hcong.symm⟩
    rw [hm0 x]
    refine ⟨fun hh => hh.2, fun hh => ⟨fun ex => ?_, hh⟩⟩
    subst ex
    omega
  · rw [if_neg e]
    refine ⟨fun x => ?_, h.srt, ?_⟩
    · rw [List.mem_cons, hm0 x]
      constructor
      · rintro (rfl | hh)
        · exact ⟨hj1, by omega, by omega⟩
        · exact hh.2
      · intro hh
        by_cases ex : x = j
        · exact .inl ex
        · exact .inr ⟨ex, hh⟩
    · rw [S.hold_cons, hcong]
/-- What the heap is a tick later: none of those that wait has run .. -/
theorem Wt.later (h : Wt S K t nx m f) (hf : S.All t nx) (hno : ∀ k, k < m → S.gen.run t ≠ some (f k)) : Wt S K (t + 1) nx m f :=
  ⟨h.le, h.mle, fun k hk => by have := h.past k hk; omega, fun k h1 h2 => hf k h1 h2, h.inj, fun x => by
    rw [h.mem x, S.gen.left_succ]
    by_cases e : S.gen.run t = some x
    · rw [if_pos e]
      obtain ⟨x1, x2, x3⟩ := S.fair t x e
      have hex := S.gen.left_ex t x
      have hexj : S.gen.ex x = S.ex x := rfl
      constructor
      · rintro ⟨h1, h2⟩
        obtain ⟨k, hk, rfl⟩ := (h.mem x).2 ⟨h1, h2⟩
        exact absurd e (hno k hk)
      · rintro ⟨_, h2⟩
        omega
    · rw [if_neg e], h.ok⟩
/-- .. or the first one has, and is gone. -/
theorem Wt.popped (h : Wt S K t nx (m + 1) f) (hf : S.All t nx) (hr : S.gen.run t = some (f 0)) (hm : Mixed m (swp f 0 m) f') (hk : HeapOk K f' m) : Wt S K (t + 1) nx m f' := by
  obtain ⟨i1, i2⟩ := hm.popped h.inj
  obtain ⟨x1, x2, x3⟩ := S.fair t (f 0) hr
  have hex := S.gen.left_ex t (f 0)
  have hexj : S.gen.ex (f 0) = S.ex (f 0) := rfl
  refine ⟨h.le, by have := h.mle; omega, fun k hk => by have := h.past k hk; omega, fun k h1 h2 => hf k h1 h2, i1, fun x => ?_, hk⟩
  rw [i2 x, h.mem x, S.gen.left_succ]
  by_cases e : f 0 = x
  · subst e
    rw [if_pos hr]
    constructor
    · rintro ⟨_, h2⟩; exact absurd rfl h2
    · rintro ⟨_, h2⟩; omega
  · rw [if_neg (by rw [hr]; simpa using e)]
    exact ⟨fun ⟨a, _⟩ => a, fun a => ⟨a, fun e' => e e'.symm⟩⟩

end Go.Proofs.Ytlagghoohloklaa
