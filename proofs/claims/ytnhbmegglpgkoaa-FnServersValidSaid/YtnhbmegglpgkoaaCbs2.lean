/- Plain theory of chapter 5, without any program, second part: finish times of jobs and requests; without requests the servers do not exist (60); requests are served in order (59); a server that is alone serves back to back (61). Conditions: those that each theorem names. -/
import Derived.Test.YtnhbmegglpgkoaaCbs
namespace Go.Proofs.Ytnhbmegglpgkoaa
namespace Cb
/-- The finish times of the jobs as far as they are known at a time. -/
def fin (C : Cb) : Nat → Nat → Int
  | 0 => fun _ => -1
  | t + 1 => fun i => if C.run t = some i ∧ C.jl (t + 1) i = 0 then (t : Int) + 1 else fin C t i
/-- The finish times of the requests of server k as far as they are known at a time. -/
def dn (C : Cb) : Nat → Nat → Nat → Int
  | 0 => fun _ _ => -1
  | t + 1 => fun k i => if C.K t = some k ∧ (C.A t k).head = i ∧ i < ((C.st (t + 1)).sv k).head then (t : Int) + 1 else dn C t k i
variable {C : Cb}
theorem fin_succ (t i : Nat) : C.fin (t + 1) i = if C.run t = some i ∧ C.jl (t + 1) i = 0 then (t : Int) + 1 else C.fin t i := rfl
theorem dn_succ (t k i : Nat) : C.dn (t + 1) k i = if C.K t = some k ∧ (C.A t k).head = i ∧ i < ((C.st (t + 1)).sv k).head then (t : Int) + 1 else C.dn t k i := rfl
theorem jl_mono (i : Nat) {s t : Nat} (h : s ≤ t) : C.jl t i ≤ C.jl s i := by
  induction t with
  | zero => obtain rfl : s = 0 := by omega
            exact Nat.le_refl _
  | succ t ih =>
    by_cases e : s = t + 1
    · subst e; exact Nat.le_refl _
    · exact Nat.le_trans (jl_le t i) (ih (by omega))
theorem fin_open {t i : Nat} (h : 0 < C.jl t i) : C.fin t i = -1 := by
  induction t with
  | zero => rfl
  | succ t ih =>
    rw [fin_succ, if_neg (by rintro ⟨_, h0⟩; omega)]
    exact ih (Nat.lt_of_lt_of_le h (jl_le t i))
theorem fin_done {t i : Nat} (hx : 0 < C.P.ex i) (h : C.jl t i = 0) : ∃ f : Nat, C.fin t i = (f : Int) + 1 ∧ f < t ∧ C.run f = some i ∧ C.jl (f + 1) i = 0 ∧ C.jl f i = 1 := by
  induction t with
  | zero => exact absurd h (by show ¬ C.P.ex i = 0; omega)
  | succ t ih =>
    by_cases h0 : C.jl t i = 0
    · obtain ⟨f, h1, h2, h3⟩ := ih h0
      refine ⟨f, ?_, by omega, h3⟩
      rw [fin_succ, if_neg]
      · exact h1
      · rintro ⟨hr, _⟩
        have := (run_pos hr).2.2
        omega
    · have hr : C.run t = some i := by
        rw [C.jl_succ] at h
        split at h
        · assumption
        · exact absurd h h0
      refine ⟨t, ?_, by omega, hr, h, ?_⟩
      · rw [fin_succ, if_pos ⟨hr, h⟩]
      · rw [C.jl_succ, if_pos hr] at h
        omega
theorem fin_by {T D i : Nat} (hx : 0 < C.P.ex i) (hD : D ≤ T) : (0 ≤ C.fin T i ∧ C.fin T i ≤ D) ↔ C.jl D i = 0 := by
  constructor
  · rintro ⟨h0, h1⟩
    by_cases h : C.jl T i = 0
    · obtain ⟨f, e, _, _, hl, _⟩ := fin_done hx h
      have := jl_mono (C := C) i (show f + 1 ≤ D by omega)
      omega
    · rw [fin_open (by omega)] at h0
      omega
  · intro h
    have hT : C.jl T i = 0 := by have := jl_mono (C := C) i hD; omega
    obtain ⟨f, e, _, _, _, hl⟩ := fin_done hx hT
    have : f < D := by
      by_cases hf : D ≤ f
      · have := jl_mono (C := C) i hf
        omega
      · omega
    rw [e]
    omega

/-! ### Without requests (60) -/
theorem K_idle (h : C.Ok) (ha : ∀ k, k < C.ns → C.al k = []) (t : Nat) : C.K t = none := by
  cases hK : C.K t with
  | none => rfl
  | some k =>
    obtain ⟨k1, k2, _⟩ := K_some hK
    have := (A_ok h k1 t).cl
    rw [ha k k1] at this
    simp at this
    omega
theorem idle (h : C.Ok) (ha : ∀ k, k < C.ns → C.al k = []) : ∀ t, (∀ i, C.jl t i = C.P.left t i) ∧ ∀ i, C.fin t i = C.P.fin t i
  | 0 => ⟨fun _ => rfl, fun _ => rfl⟩
  | t + 1 => by
    obtain ⟨h1, h2⟩ := idle h ha t
    have hr : C.run t = C.P.run t := by
      unfold run
      rw [K_idle h ha t]
      show best C.P.rel (C.st t).jl C.P.key t C.P.n = best C.P.rel (C.P.left t) C.P.key t C.P.n
      exact best_more fun i _ => ⟨rfl, h1 i, rfl⟩
    have h3 : ∀ i, C.jl (t + 1) i = C.P.left (t + 1) i := fun i => by
      rw [C.jl_succ, C.P.left_succ, hr, h1]
    refine ⟨h3, fun i => ?_⟩
    rw [fin_succ, C.P.fin_succ, hr, h3, h2]
theorem idle_run (h : C.Ok) (ha : ∀ k, k < C.ns → C.al k = []) (t : Nat) : C.run t = C.P.run t := by
  unfold run
  rw [K_idle h ha t]
  show best C.P.rel (C.st t).jl C.P.key t C.P.n = best C.P.rel (C.P.left t) C.P.key t C.P.n
  exact best_more fun i _ => ⟨rfl, (idle h ha t).1 i, rfl⟩

/-! ### Requests are served in order (59) -/
/-- The ticks of server k up to t. -/
def rn (C : Cb) (k t : Nat) : Nat := sumN (fun u => if C.K u = some k then 1 else 0) t
/-- What was done of the first h requests. -/
def xs (al : List A2) (h : Nat) : Nat := sumN (fun i => aX al i) h
/-- The request being served: not faster than time allows; n ticks were spent in all. -/
structure Ord (al : List A2) (t n : Nat) (s : SV) : Prop where
  tm : ∀ i, i < s.come → aT al i ≤ t
  hd : s.head < s.come → aT al s.head + aX al s.head ≤ t + s.rest ∧ s.rest ≤ aX al s.head
  ct : n = xs al s.head + if s.head < s.come then aX al s.head - s.rest else 0
theorem Ord.take {q p t n : Nat} {al : List A2} {s : SV} (h : Ord al t n s) (ho : SvOk q al s) (ht : aT al s.come = t) : Ord al t n (s.take q p (aX al s.come) t) := by
  obtain ⟨h1, h2, h3⟩ := h
  have hc := take_come s q p (aX al s.come) t
  have htm : ∀ i, i < (s.take q p (aX al s.come) t).come → aT al i ≤ t := fun i hi => by
    rw [hc.1] at hi
    by_cases e : i = s.come
    · subst e; omega
    · exact h1 i (by omega)
  by_cases e : s.head = s.come
  · have hr : (s.take q p (aX al s.come) t).rest = aX al s.come := by
      unfold SV.take
      rw [if_pos e]
      split <;> rfl
    refine ⟨htm, fun _ => ?_, ?_⟩
    · rw [hc.2, hr, e]
      omega
    · rw [hc.2, hc.1, hr, if_pos (by omega)]
      rw [if_neg (by omega)] at h3
      rw [h3, e]
      omega
  · have hr : (s.take q p (aX al s.come) t).rest = s.rest := by
      unfold SV.take
      rw [if_neg e]
    have := ho.hc
    have hp : s.head < s.come := by omega
    refine ⟨htm, fun _ => ?_, ?_⟩
    · rw [hc.2, hr]
      exact h2 hp
    · rw [hc.2, hc.1, hr, if_pos (by omega)]
      rw [if_pos hp] at h3
      exact h3
theorem Ord.arr {q p t n : Nat} {al : List A2} {s : SV} (h : Ord al t n s) (ho : SvOk q al s) (ha : AlOk al) (hq : 1 ≤ q) : Ord al t n (s.arr q p al t) :=
  (arr_ind (I := fun s => Ord al t n s ∧ SvOk q al s) (fun _ hs hl ht => ⟨hs.1.take hs.2 ht, hs.2.take hq (ha _ hl) hl⟩) (Nat.le_refl _) ⟨h, ho⟩).1.1
theorem xs_succ (al : List A2) (h : Nat) : xs al (h + 1) = xs al h + aX al h := rfl
theorem Ord.serve {q p t n : Nat} {al : List A2} {s : SV} (h : Ord al t n s) (ho : SvOk q al s) (hp : s.head < s.come) : Ord al (t + 1) (n + 1) (s.serve q p al) := by
  obtain ⟨h1, h2, h3⟩ := h
  have hr := ho.r1 hp
  have h2' := h2 hp
  rw [if_pos hp] at h3
  refine ⟨fun i hi => Nat.le_succ_of_le (h1 i hi), ?_, ?_⟩
  · show (if s.rest - 1 = 0 then s.head + 1 else s.head) < s.come → aT al (if s.rest - 1 = 0 then s.head + 1 else s.head) + aX al (if s.rest - 1 = 0 then s.head + 1 else s.head) ≤ t + 1 + (if s.rest - 1 = 0 then (if s.head + 1 < s.come then aX al (s.head + 1) else 0) else s.rest - 1) ∧
      (if s.rest - 1 = 0 then (if s.head + 1 < s.come then aX al (s.head + 1) else 0) else s.rest - 1) ≤ aX al (if s.rest - 1 = 0 then s.head + 1 else s.head)
    by_cases hz : s.rest - 1 = 0
    · simp only [if_pos hz]
      intro hh
      rw [if_pos hh]
      have := h1 _ hh
      omega
    · simp only [if_neg hz]
      intro _
      omega
  · show n + 1 = xs al (if s.rest - 1 = 0 then s.head + 1 else s.head) + if (if s.rest - 1 = 0 then s.head + 1 else s.head) < s.come then aX al (if s.rest - 1 = 0 then s.head + 1 else s.head) - (if s.rest - 1 = 0 then (if s.head + 1 < s.come then aX al (s.head + 1) else 0) else s.rest - 1) else 0
    by_cases hz : s.rest - 1 = 0
    · simp only [if_pos hz]
      rw [xs_succ]
      split
      · omega
      · omega
    · simp only [if_neg hz]
      rw [if_pos hp]
      omega
theorem Ord.idle {t n : Nat} {al : List A2} {s : SV} (h : Ord al t n s) : Ord al (t + 1) n s :=
  ⟨fun i hi => Nat.le_succ_of_le (h.tm i hi), fun hp => by have := h.hd hp; omega, h.ct⟩
theorem ord (h : C.Ok) {k : Nat} (hk : k < C.ns) : ∀ t, Ord (C.al k) t (C.rn k t) ((C.st t).sv k)
  | 0 => ⟨fun i hi => absurd hi (Nat.not_lt_zero _), fun hp => absurd hp (Nat.lt_irrefl _), rfl⟩
  | t + 1 => by
    have ih := ord h hk t
    have ih2 : Ord (C.al k) t (C.rn k t) (C.A t k) := ih.arr (sv_ok h hk t) (h k hk).2 (h k hk).1
    rw [C.sv_succ]
    show Ord _ _ (C.rn k t + if C.K t = some k then 1 else 0) _
    by_cases hK : C.K t = some k
    · rw [if_pos hK, if_pos hK]
      exact ih2.serve (A_ok h hk t) (K_some hK).2.1
    · rw [if_neg hK, if_neg hK]
      exact ih2.idle
theorem arr_head {s : SV} {q p now : Nat} {al : List A2} : (s.arr q p al now).head = s.head :=
  (arr_ind (I := fun s' => s'.head = s.head) (fun s' hs _ _ => by rw [(take_come s' q p _ now).2]; exact hs) (Nat.le_refl _) rfl).1
theorem serve_head {s : SV} {q p : Nat} {al : List A2} : (s.serve q p al).head = if s.rest - 1 = 0 then s.head + 1 else s.head := rfl
/-- The finish times of a server's requests. -/
structure Fns (al : List A2) (t h : Nat) (d : Nat → Int) : Prop where
  fi : ∀ i, i < h → ∃ f : Nat, d i = (f : Int) ∧ f ≤ t ∧ aT al i + aX al i ≤ f ∧ ∀ j g : Nat, j < i → d j = (g : Int) → g < f
  op : ∀ i, h ≤ i → d i = -1
theorem fns (h : C.Ok) {k : Nat} (hk : k < C.ns) : ∀ t, Fns (C.al k) t ((C.st t).sv k).head (C.dn t k)
  | 0 => ⟨fun i hi => absurd hi (Nat.not_lt_zero _), fun _ _ => rfl⟩
  | t + 1 => by
    obtain ⟨h1, h2⟩ := fns h hk t
    have hA : (C.A t k).head = ((C.st t).sv k).head := arr_head
    have hs : ((C.st (t + 1)).sv k).head = if C.K t = some k ∧ (C.A t k).rest - 1 = 0 then (C.A t k).head + 1 else (C.A t k).head := by
      rw [C.sv_succ]
      by_cases hK : C.K t = some k
      · rw [if_pos hK, serve_head]
        by_cases hz : (C.A t k).rest - 1 = 0
        · rw [if_pos hz, if_pos ⟨hK, hz⟩]
        · rw [if_neg hz, if_neg (fun e => hz e.2)]
      · rw [if_neg hK, if_neg (fun e => hK e.1)]
    by_cases hc : C.K t = some k ∧ (C.A t k).rest - 1 = 0
    · rw [if_pos hc, hA] at hs
      have hd : ∀ i, C.dn (t + 1) k i = if i = ((C.st t).sv k).head then (t : Int) + 1 else C.dn t k i := fun i => by
        rw [dn_succ, hs, hA]
        by_cases e : i = ((C.st t).sv k).head
        · rw [if_pos e, if_pos ⟨hc.1, e.symm, by omega⟩]
        · rw [if_neg e, if_neg (fun x => e x.2.1.symm)]
      have hO : Ord (C.al k) t (C.rn k t) (C.A t k) := (ord h hk t).arr (sv_ok h hk t) (h k hk).2 (h k hk).1
      have hp := (K_some hc.1).2.1
      have hO2 := hO.hd hp
      rw [hA] at hO2
      have hr1 := (A_ok h hk t).r1 hp
      rw [hs]
      refine ⟨fun i hi => ?_, fun i hi => ?_⟩
      · by_cases e : i = ((C.st t).sv k).head
        · refine ⟨t + 1, ?_, Nat.le_refl _, ?_, fun j g hj hg => ?_⟩
          · rw [hd, if_pos e]
            omega
          · rw [e]
            omega
          · rw [hd, if_neg (by omega)] at hg
            obtain ⟨f, e1, e2, _⟩ := h1 j (by omega)
            omega
        · obtain ⟨f, e1, e2, e3, e4⟩ := h1 i (by omega)
          refine ⟨f, ?_, by omega, e3, fun j g hj hg => ?_⟩
          · rw [hd, if_neg e]
            exact e1
          · rw [hd, if_neg (by omega)] at hg
            exact e4 j g hj hg
      · rw [hd, if_neg (by omega)]
        exact h2 i (by omega)
    · rw [if_neg hc, hA] at hs
      have hd : ∀ i, C.dn (t + 1) k i = C.dn t k i := fun i => by
        rw [dn_succ, hs, hA, if_neg]
        rintro ⟨_, e1, e2⟩
        omega
      rw [hs]
      refine ⟨fun i hi => ?_, fun i hi => ?_⟩
      · obtain ⟨f, e1, e2, e3, e4⟩ := h1 i hi
        refine ⟨f, by rw [hd]; exact e1, by omega, e3, fun j g hj hg => ?_⟩
        rw [hd] at hg
        exact e4 j g hj hg
      · rw [hd]
        exact h2 i hi

/-! ### A server that is alone (61) -/
/-- Requests executed back to back. -/
def bb (al : List A2) : Nat → Nat
  | 0 => aT al 0 + aX al 0
  | i + 1 => max (bb al i) (aT al (i + 1)) + aX al (i + 1)
/-- The times ascend. -/
def AlUp (al : List A2) : Prop := ∀ i j, i ≤ j → j < al.length → aT al i ≤ aT al j
theorem bb_le {al : List A2} (ha : AlOk al) {i : Nat} : ∀ {j : Nat}, i ≤ j → bb al i ≤ bb al j
  | 0, h => by obtain rfl : i = 0 := by omega
               exact Nat.le_refl _
  | j + 1, h => by
    by_cases e : i = j + 1
    · subst e; exact Nat.le_refl _
    · have := bb_le ha (show i ≤ j by omega)
      simp only [bb]
      omega
/-- A server alone at time t; u: the time up to which requests have come. -/
structure Alone (al : List A2) (t : Nat) (s : SV) : Prop where
  tm : ∀ i, i < s.come → aT al i ≤ t
  dn : ∀ i, i < s.head → bb al i ≤ t
  hd : s.head < s.come → bb al s.head = t + s.rest
theorem Alone.take {q p t : Nat} {al : List A2} {s : SV} (h : Alone al t s) (ho : SvOk q al s) (ht : aT al s.come = t) : Alone al t (s.take q p (aX al s.come) t) := by
  obtain ⟨h1, h2, h3⟩ := h
  have hc := take_come s q p (aX al s.come) t
  refine ⟨fun i hi => ?_, fun i hi => h2 i (by rw [hc.2] at hi; exact hi), fun _ => ?_⟩
  · rw [hc.1] at hi
    by_cases e : i = s.come
    · subst e; omega
    · exact h1 i (by omega)
  · rw [hc.2]
    by_cases e : s.head = s.come
    · have hr : (s.take q p (aX al s.come) t).rest = aX al s.come := by
        unfold SV.take
        rw [if_pos e]
        split <;> rfl
      rw [hr, e]
      cases hcm : s.come with
      | zero =>
        rw [hcm] at ht
        simp only [bb]
        omega
      | succ c =>
        rw [hcm] at ht
        have := h2 c (by omega)
        simp only [bb]
        omega
    · have hr : (s.take q p (aX al s.come) t).rest = s.rest := by
        unfold SV.take
        rw [if_neg e]
      rw [hr]
      exact h3 (by have := ho.hc; omega)
theorem Alone.arr {q p t : Nat} {al : List A2} {s : SV} (h : Alone al t s) (ho : SvOk q al s) (ha : AlOk al) (hq : 1 ≤ q) : Alone al t (s.arr q p al t) :=
  (arr_ind (I := fun s => Alone al t s ∧ SvOk q al s) (fun _ hs hl ht => ⟨hs.1.take hs.2 ht, hs.2.take hq (ha _ hl) hl⟩) (Nat.le_refl _) ⟨h, ho⟩).1.1
theorem Alone.serve {q p t : Nat} {al : List A2} {s : SV} (h : Alone al t s) (ho : SvOk q al s) (hp : s.head < s.come) : Alone al (t + 1) (s.serve q p al) := by
  obtain ⟨h1, h2, h3⟩ := h
  have hr := ho.r1 hp
  have h3' := h3 hp
  refine ⟨fun i hi => Nat.le_succ_of_le (h1 i hi), ?_, ?_⟩
  · rw [serve_head]
    intro i hi
    by_cases hz : s.rest - 1 = 0
    · rw [if_pos hz] at hi
      by_cases e : i = s.head
      · subst e; omega
      · have := h2 i (by omega); omega
    · rw [if_neg hz] at hi
      have := h2 i hi; omega
  · rw [serve_head]
    show (if s.rest - 1 = 0 then s.head + 1 else s.head) < s.come → bb al (if s.rest - 1 = 0 then s.head + 1 else s.head) = t + 1 + (if s.rest - 1 = 0 then (if s.head + 1 < s.come then aX al (s.head + 1) else 0) else s.rest - 1)
    by_cases hz : s.rest - 1 = 0
    · simp only [if_pos hz]
      intro hh
      rw [if_pos hh]
      have := h1 _ hh
      simp only [bb]
      omega
    · simp only [if_neg hz]
      intro _
      omega
theorem arr_up {s : SV} {q p t : Nat} {al : List A2} (hu : AlUp al) (h : s.come < al.length → t ≤ aT al s.come) : (s.arr q p al t).come < al.length → t + 1 ≤ aT al (s.arr q p al t).come := by
  have h2 := arr_ind (I := fun s' : SV => s'.come < al.length → t ≤ aT al s'.come) (q := q) (p := p) (now := t) (al := al) (fun s' _ hl ht => by
    rw [(take_come s' q p _ t).1]
    intro hc
    have := hu s'.come (s'.come + 1) (by omega) hc
    omega) (Nat.le_refl _) h
  intro hc
  have := h2.1 hc
  have h3 := h2.2
  omega
theorem dl_up {q p : Nat} {al : List A2} {s : SV} {t : Nat} (h : s.dl ≤ (t + 1) * p + t) : (s.arr q p al t).dl ≤ (t + 1) * p + t :=
  (arr_ind (I := fun s : SV => s.dl ≤ (t + 1) * p + t) (q := q) (p := p) (now := t) (al := al) (fun s hs _ _ => by
    unfold SV.take
    split
    · split
      · show t + p ≤ (t + 1) * p + t
        rw [Nat.add_mul]
        omega
      · exact hs
    · exact hs) (Nat.le_refl _) h).1
theorem sv_dl {k : Nat} : ∀ t, ((C.st t).sv k).dl ≤ (t + 1) * C.p k + t
  | 0 => Nat.zero_le _
  | t + 1 => by
    have ih : (C.A t k).dl ≤ (t + 1) * C.p k + t := dl_up (sv_dl t)
    rw [C.sv_succ]
    have e : (t + 1 + 1) * C.p k = (t + 1) * C.p k + C.p k := by rw [Nat.add_mul (t + 1) 1, Nat.one_mul]
    split
    · show (if (C.A t k).left - 1 = 0 then (C.A t k).dl + C.p k else (C.A t k).dl) ≤ _
      split <;> omega
    · omega
theorem alone (h : C.Ok) (hn : C.P.n = 0) (h1 : C.ns = 1) (hu : AlUp (C.al 0)) (hp : C.p 0 ≤ 12) : ∀ t, t ≤ 120 → Alone (C.al 0) t ((C.st t).sv 0) ∧ (((C.st t).sv 0).come < (C.al 0).length → t ≤ aT (C.al 0) ((C.st t).sv 0).come) ∧ ∀ i, i < ((C.st t).sv 0).head → C.dn t 0 i = (bb (C.al 0) i : Int)
  | 0, _ => ⟨⟨fun i hi => absurd hi (Nat.not_lt_zero _), fun i hi => absurd hi (Nat.not_lt_zero _), fun hp => absurd hp (Nat.lt_irrefl _)⟩, fun _ => Nat.zero_le _, fun i hi => absurd hi (Nat.not_lt_zero _)⟩
  | t + 1, ht => by
    obtain ⟨a1, a2, a3⟩ := alone h hn h1 hu hp t (by omega)
    have hk : 0 < C.ns := by omega
    have b1 : Alone (C.al 0) t (C.A t 0) := a1.arr (sv_ok h hk t) (h 0 hk).2 (h 0 hk).1
    have b2 : (C.A t 0).come < (C.al 0).length → t + 1 ≤ aT (C.al 0) (C.A t 0).come := arr_up hu a2
    have hA : (C.A t 0).head = ((C.st t).sv 0).head := arr_head
    have ok := A_ok h hk t
    have hlim : C.lim t = 1073741824 := by
      cases hJ : C.J t with
      | none => exact (J_none hJ).2
      | some j => have := (J_some hJ).1; omega
    have hdl : (C.A t 0).dl < C.lim t := by
      have h2 : (C.A t 0).dl ≤ (t + 1) * C.p 0 + t := dl_up (sv_dl t)
      have h3 : (t + 1) * C.p 0 ≤ 121 * 12 := Nat.mul_le_mul (by omega) hp
      omega
    rw [C.sv_succ]
    by_cases hpd : (C.A t 0).head < (C.A t 0).come
    · have hK : C.K t = some 0 := by
        cases hK : C.K t with
        | none => have := K_none hK hk hpd; omega
        | some k =>
          have := (K_some hK).1
          obtain rfl : k = 0 := by omega
          rfl
      rw [if_pos hK]
      refine ⟨b1.serve ok hpd, b2, fun i hi => ?_⟩
      have hs : ((C.st (t + 1)).sv 0).head = if (C.A t 0).rest - 1 = 0 then (C.A t 0).head + 1 else (C.A t 0).head := by rw [C.sv_succ, if_pos hK, serve_head]
      rw [serve_head] at hi
      rw [dn_succ, hs]
      by_cases e : (C.A t 0).head = i
      · have hz : (C.A t 0).rest - 1 = 0 := by
          apply Classical.byContradiction
          intro hz
          rw [if_neg hz] at hi
          omega
        rw [if_pos hz, if_pos ⟨hK, e, by omega⟩]
        have b3 := b1.hd hpd
        have b4 := ok.r1 hpd
        rw [e] at b3
        omega
      · rw [if_neg (fun x => e x.2.1)]
        refine a3 i ?_
        rw [← hA]
        by_cases hz : (C.A t 0).rest - 1 = 0
        · rw [if_pos hz] at hi; omega
        · rw [if_neg hz] at hi; omega
    · have hK : C.K t ≠ some 0 := fun e => hpd (K_some e).2.1
      rw [if_neg hK]
      refine ⟨⟨fun i hi => Nat.le_succ_of_le (b1.tm i hi), fun i hi => Nat.le_succ_of_le (b1.dn i hi), fun hp => absurd hp hpd⟩, b2, fun i hi => ?_⟩
      rw [dn_succ, if_neg (fun x => hK x.1)]
      exact a3 i (by rw [← hA]; exact hi)
theorem share (h : C.Ok) (hn : C.P.n = 0) (h1 : C.ns = 1) (hu : AlUp (C.al 0)) (hp : C.p 0 ≤ 12) (hT : ∀ i, i < (C.al 0).length → aT (C.al 0) i ≤ 119) {i : Nat} (hi : i < (C.al 0).length) :
    C.dn 120 0 i = if bb (C.al 0) i ≤ 120 then (bb (C.al 0) i : Int) else -1 := by
  obtain ⟨a1, a2, a3⟩ := alone h hn h1 hu hp 120 (Nat.le_refl _)
  have hk : 0 < C.ns := by omega
  have ok := sv_ok h hk 120
  by_cases hh : i < ((C.st 120).sv 0).head
  · rw [if_pos (a1.dn i hh)]
    exact a3 i hh
  · have hc : ((C.st 120).sv 0).come = (C.al 0).length := by
      have := ok.cl
      apply Classical.byContradiction
      intro hne
      have hlt : ((C.st 120).sv 0).come < (C.al 0).length := by omega
      have := a2 hlt
      have := hT _ hlt
      omega
    have hpd : ((C.st 120).sv 0).head < ((C.st 120).sv 0).come := by omega
    have h2 := a1.hd hpd
    have h3 := ok.r1 hpd
    have h4 := bb_le (h 0 hk).2 (show ((C.st 120).sv 0).head ≤ i by omega)
    rw [if_neg (by omega)]
    exact (fns h hk 120).op i (by omega)
end Cb

end Go.Proofs.Ytnhbmegglpgkoaa
