/- Plain arithmetic of the processor-demand test: the demand bound, the first overload, the busy period; no program in sight. -/
import Derived.Test.YtocppoobcanhiaaUtilNum
namespace Go.Proofs.Ytocppoobcanhiaa

abbrev T3 := Int × Int × Int
def dln (t : T3) : Nat := t.2.1.toNat
/-- The demand bound of one task. -/
def dem1 (t : T3) (x : Nat) : Nat := if dln t ≤ x then ((x - dln t) / per t + 1) * cst t else 0
/-- The demand bound. -/
def dem (ts : List T3) (x : Nat) : Nat := ts.foldl (fun s t => s + dem1 t x) 0
theorem dem_snoc (ts : List T3) (t : T3) (x : Nat) : dem (ts ++ [t]) x = dem ts x + dem1 t x := by simp [dem]
theorem dem_nil (x : Nat) : dem [] x = 0 := rfl
theorem dem_append (as bs : List T3) (x : Nat) : dem (as ++ bs) x = dem as x + dem bs x := by
  induction bs using snoc_ind with
  | h0 => simp [dem]
  | h1 l a ih => rw [← List.append_assoc, dem_snoc, ih, dem_snoc]; omega
theorem tv_bd {t : T3} (h : tv t = true) : 1 ≤ cst t ∧ cst t ≤ dln t ∧ dln t ≤ per t ∧ per t ≤ 12 ∧ cst t ≤ 8 ∧ ((cst t : Nat) : Int) = t.1 ∧ ((dln t : Nat) : Int) = t.2.1 ∧ ((per t : Nat) : Int) = t.2.2 := by
  obtain ⟨c, d, p⟩ := t
  have h' := (tvB_iff c d p).1 h
  simp only [cst, per, dln]
  omega
theorem dem1_mono (t : T3) {x y : Nat} (h : x ≤ y) : dem1 t x ≤ dem1 t y := by
  unfold dem1
  by_cases h1 : dln t ≤ x
  · rw [if_pos h1, if_pos (by omega)]
    exact Nat.mul_le_mul_right _ (Nat.add_le_add_right (Nat.div_le_div_right (by omega)) 1)
  · rw [if_neg h1]
    exact Nat.zero_le _
theorem dem_le_of (ts : List T3) (f g : T3 → Nat → Nat) (x y : Nat) (h : ∀ t ∈ ts, f t x ≤ g t y) : ts.foldl (fun s t => s + f t x) 0 ≤ ts.foldl (fun s t => s + g t y) 0 := by
  induction ts using snoc_ind with
  | h0 => simp
  | h1 l a ih =>
    simp only [List.foldl_append, List.foldl_cons, List.foldl_nil]
    have h1 := ih fun t ht => h t (List.mem_append_left _ ht)
    have h2 := h a (by simp)
    omega
theorem dem_mono (ts : List T3) {x y : Nat} (h : x ≤ y) : dem ts x ≤ dem ts y := dem_le_of ts dem1 dem1 x y fun t _ => dem1_mono t h
theorem dem1_zero {t : T3} (h : tv t = true) : dem1 t 0 = 0 := by
  have := tv_bd h
  unfold dem1
  rw [if_neg (by omega)]
theorem dem_zero (ts : List T3) (h : ts.all tv = true) : dem ts 0 = 0 := by
  induction ts using snoc_ind with
  | h0 => rfl
  | h1 l a ih =>
    rw [List.all_append, Bool.and_eq_true] at h
    rw [dem_snoc, ih h.1, dem1_zero (by simpa using h.2)]
/-- A bound for the program's integers. -/
theorem dem1_le {t : T3} (h : tv t = true) (x : Nat) : dem1 t x ≤ 8 * (x + 1) := by
  have := tv_bd h
  unfold dem1
  split
  · have h1 : (x - dln t) / per t ≤ x := Nat.le_trans (Nat.div_le_self _ _) (by omega)
    have h2 : ((x - dln t) / per t + 1) * cst t ≤ (x + 1) * 8 := Nat.mul_le_mul (by omega) (by omega)
    omega
  · omega
theorem dem_le (ts : List T3) (h : ts.all tv = true) (x : Nat) : dem ts x ≤ ts.length * (8 * (x + 1)) := by
  induction ts using snoc_ind with
  | h0 => simp [dem]
  | h1 l a ih =>
    rw [List.all_append, Bool.and_eq_true] at h
    have h1 := ih h.1
    have h2 := dem1_le (t := a) (by simpa using h.2) x
    rw [dem_snoc, List.length_append, List.length_singleton, Nat.add_mul, Nat.one_mul]
    omega
theorem dem1_hyper {t : T3} {H : Nat} (h : tv t = true) (hd : per t ∣ H) (hH : 1 ≤ H) : dem1 t H = cst t * (H / per t) := by
  have hb := tv_bd h
  obtain ⟨q, rfl⟩ := hd
  have hp : 0 < per t := by omega
  have hq : 1 ≤ q := by
    rcases Nat.eq_zero_or_pos q with e | e
    · subst e; omega
    · exact e
  have hle : per t ≤ per t * q := Nat.le_mul_of_pos_right _ hq
  unfold dem1
  rw [if_pos (by omega), Nat.mul_div_cancel_left q hp, Nat.mul_comm]
  congr 1
  have e : (per t * q - dln t) / per t = q - 1 := by
    obtain ⟨r, rfl⟩ : ∃ r, q = r + 1 := ⟨q - 1, by omega⟩
    have e1 : per t * (r + 1) - dln t = (per t - dln t) + per t * r := by rw [Nat.mul_add, Nat.mul_one]; omega
    rw [e1, Nat.add_mul_div_left _ _ hp, Nat.div_eq_of_lt (by omega)]
    omega
  omega
/-- At the hyperperiod the demand is the work of one hyperperiod. -/
theorem dem_hyper {ts : List T3} {H : Nat} (h : ts.all tv = true) (hd : ∀ t ∈ ts, per t ∣ H) (hH : 1 ≤ H) : dem ts H = wrk H ts := by
  induction ts using snoc_ind with
  | h0 => rfl
  | h1 l a ih =>
    rw [List.all_append, Bool.and_eq_true] at h
    rw [dem_snoc, wrk_snoc, ih h.1 fun t ht => hd t (List.mem_append_left _ ht), dem1_hyper (by simpa using h.2) (hd a (by simp)) hH]

/-! ### The first overload -/
def fo (ts : List T3) : Int := if svB ts = true then (match (List.range (hyp ts)).find? (fun t => decide (t + 1 < dem ts (t + 1))) with | some t => (t : Int) + 1 | none => -1) else -1
theorem fo_no {ts : List T3} (h : svB ts = false) : fo ts = -1 := by simp [fo, h]
theorem fo_none {ts : List T3} (h : svB ts = true) (hk : ∀ t, 1 ≤ t → t ≤ hyp ts → dem ts t ≤ t) : fo ts = -1 := by
  have : (List.range (hyp ts)).find? (fun t => decide (t + 1 < dem ts (t + 1))) = none := by
    rw [List.find?_eq_none]
    intro t ht
    have := hk (t + 1) (by omega) (by have := List.mem_range.1 ht; omega)
    simp
    omega
  simp [fo, h, this]
theorem fo_some {ts : List T3} {x : Nat} (h : svB ts = true) (h1 : 1 ≤ x) (h2 : x ≤ hyp ts) (h3 : x < dem ts x) (hk : ∀ t, 1 ≤ t → t < x → dem ts t ≤ t) : fo ts = x := by
  have : (List.range (hyp ts)).find? (fun t => decide (t + 1 < dem ts (t + 1))) = some (x - 1) := by
    rw [List.find?_range_eq_some]
    refine ⟨?_, List.mem_range.2 (by omega), ?_⟩
    · have e : x - 1 + 1 = x := by omega
      rw [e]
      simpa using h3
    · intro j hj
      have := hk (j + 1) (by omega) (by omega)
      simp
      omega
  simp only [fo, h, this, if_true]
  omega
theorem fo_cases {ts : List T3} (h : svB ts = true) : (fo ts = -1 ∧ ∀ t, 1 ≤ t → t ≤ hyp ts → dem ts t ≤ t) ∨ ∃ x : Nat, fo ts = x ∧ 1 ≤ x ∧ x ≤ hyp ts ∧ x < dem ts x ∧ ∀ t, 1 ≤ t → t < x → dem ts t ≤ t := by
  by_cases hk : ∀ t, 1 ≤ t → t ≤ hyp ts → dem ts t ≤ t
  · exact .inl ⟨fo_none h hk, hk⟩
  · right
    have hex : ∃ t, 1 ≤ t ∧ t ≤ hyp ts ∧ t < dem ts t := by
      apply Classical.byContradiction
      intro hn
      apply hk
      intro t a b
      apply Classical.byContradiction
      intro c
      exact hn ⟨t, a, b, by omega⟩
    have hmin : ∀ n, (∃ t, t ≤ n ∧ 1 ≤ t ∧ t ≤ hyp ts ∧ t < dem ts t) → ∃ x, 1 ≤ x ∧ x ≤ hyp ts ∧ x < dem ts x ∧ ∀ t, 1 ≤ t → t < x → dem ts t ≤ t := by
      intro n
      induction n with
      | zero => rintro ⟨t, a, b, _⟩; omega
      | succ n ih =>
        rintro ⟨t, a, b, c, d⟩
        by_cases hlow : ∃ s, s ≤ n ∧ 1 ≤ s ∧ s ≤ hyp ts ∧ s < dem ts s
        · exact ih hlow
        · refine ⟨t, b, c, d, fun s s1 s2 => ?_⟩
          apply Classical.byContradiction
          intro hc
          exact hlow ⟨s, by omega, s1, by omega, by omega⟩
    obtain ⟨t, a, b, c⟩ := hex
    obtain ⟨x, x1, x2, x3, x4⟩ := hmin t ⟨t, Nat.le_refl _, a, b, c⟩
    exact ⟨x, fo_some h x1 x2 x3 x4, x1, x2, x3, x4⟩
def edf (ts : List T3) : Bool := svB ts && decide (fo ts = -1)
theorem edf_iff {ts : List T3} : edf ts = true ↔ svB ts = true ∧ ∀ t, 1 ≤ t → t ≤ hyp ts → dem ts t ≤ t := by
  simp only [edf, Bool.and_eq_true, decide_eq_true_eq]
  constructor
  · rintro ⟨h, hf⟩
    rcases fo_cases h with ⟨_, hk⟩ | ⟨x, hx, h1, _⟩
    · exact ⟨h, hk⟩
    · omega
  · rintro ⟨h, hk⟩
    exact ⟨h, fo_none h hk⟩
/-- An overload ends at a deadline. -/
theorem dem1_step {t : T3} (h : tv t = true) {x : Nat} (hx : 1 ≤ x) (hn : ¬ (dln t ≤ x ∧ (x - dln t) % per t = 0)) : dem1 t x = dem1 t (x - 1) := by
  have hb := tv_bd h
  have hp : 0 < per t := by omega
  unfold dem1
  by_cases h1 : dln t ≤ x
  · have h2 : ¬ (x - dln t) % per t = 0 := fun e => hn ⟨h1, e⟩
    have h3 : dln t ≤ x - 1 := by
      apply Classical.byContradiction
      intro hc
      have : x - dln t = 0 := by omega
      rw [this] at h2
      simp at h2
    rw [if_pos h1, if_pos h3]
    congr 2
    have e : x - dln t = (x - 1 - dln t) + 1 := by omega
    rw [e]
    rw [e] at h2
    exact Nat.succ_div_of_mod_ne_zero h2
  · rw [if_neg h1, if_neg (by omega)]
theorem over_deadline {ts : List T3} (h : ts.all tv = true) {x : Nat} (hx : 1 ≤ x) (h3 : x < dem ts x) (hk : ∀ t, 1 ≤ t → t < x → dem ts t ≤ t) : ∃ t ∈ ts, dln t ≤ x ∧ (x - dln t) % per t = 0 := by
  apply Classical.byContradiction
  intro hn
  have he : dem ts x = dem ts (x - 1) := by
    have hall : ∀ t ∈ ts, dem1 t x = dem1 t (x - 1) := by
      intro t ht
      rw [List.all_eq_true] at h
      exact dem1_step (h t ht) hx fun hc => hn ⟨t, ht, hc⟩
    exact Nat.le_antisymm (dem_le_of ts dem1 dem1 x (x - 1) fun t ht => Nat.le_of_eq (hall t ht)) (dem_le_of ts dem1 dem1 (x - 1) x fun t ht => Nat.le_of_eq (hall t ht).symm)
  by_cases h1 : x = 1
  · subst h1
    have := dem_zero ts h
    simp only [Nat.sub_self] at he
    omega
  · have := hk (x - 1) (by omega) (by omega)
    omega

/-! ### Monotone -/
theorem edf_wo {ts : List T3} (h : edf ts = true) {i : Nat} (hi : i < ts.length) : edf (wo ts i) = true := by
  obtain ⟨hs, hk⟩ := edf_iff.1 h
  refine edf_iff.2 ⟨sv_wo hs i, fun t a b => ?_⟩
  have hH := hyp_bd ts (all_of_sv hs)
  have h1 : hyp (wo ts i) ≤ hyp ts := Nat.le_of_dvd hH.1 hyp_wo'
  have h2 := hk t a (by omega)
  have e := congrArg (fun l => dem l t) (split_at hi)
  simp only [dem_append] at e
  simp only [wo, dem_append]
  omega
/-- A set with the task at index i replaced. -/
def upd (ts : List T3) (i : Nat) (t : T3) : List T3 := ts.take i ++ [t] ++ ts.drop (i + 1)
theorem dem_upd {ts : List T3} {i : Nat} (hi : i < ts.length) {t : T3} {x : Nat} (h : dem1 t x ≤ dem1 ts[i] x) : dem (upd ts i t) x ≤ dem ts x := by
  have e := congrArg (fun l => dem l x) (split_at hi)
  simp only [dem_append] at e
  simp only [upd, dem_append]
  have e1 : ∀ t : T3, dem [t] x = dem1 t x := fun t => by simp [dem]
  rw [e1] at e ⊢
  omega
theorem hyp_append (as bs : List T3) : hyp (as ++ bs) = Nat.lcm (hyp as) (hyp bs) := by
  induction bs using snoc_ind with
  | h0 => simp [hyp, Nat.lcm]
  | h1 l a ih => rw [← List.append_assoc, hyp_snoc, ih, hyp_snoc, Nat.lcm_assoc]
theorem hyp_upd {ts : List T3} {i : Nat} (hi : i < ts.length) {t : T3} (h : per t = per ts[i]) : hyp (upd ts i t) = hyp ts := by
  have e := congrArg hyp (split_at hi)
  rw [hyp_append _ _, hyp_append _ _] at e
  rw [upd, hyp_append _ _, hyp_append _ _, e]
  have e1 : ∀ t : T3, hyp [t] = Nat.lcm 1 (per t) := fun t => by simp [hyp]
  rw [e1, e1, h]
theorem sv_upd {ts : List T3} {i : Nat} (h : svB ts = true) (hi : i < ts.length) {t : T3} (ht : tv t = true) : svB (upd ts i t) = true := by
  simp only [svB, Bool.and_eq_true, List.all_eq_true, decide_eq_true_eq] at h ⊢
  refine ⟨fun s hs => ?_, ?_⟩
  · simp only [upd, List.mem_append, List.mem_singleton] at hs
    rcases hs with (hs | rfl) | hs
    · exact h.1 s (List.mem_of_mem_take hs)
    · exact ht
    · exact h.1 s (List.mem_of_mem_drop hs)
  · simp only [upd, List.length_append, List.length_take, List.length_drop, List.length_singleton]
    omega
theorem edf_upd {ts : List T3} (h : edf ts = true) {i : Nat} (hi : i < ts.length) {t : T3} (ht : tv t = true) (hp : per t = per ts[i]) (hd : ∀ x, dem1 t x ≤ dem1 ts[i] x) : edf (upd ts i t) = true := by
  obtain ⟨hs, hk⟩ := edf_iff.1 h
  refine edf_iff.2 ⟨sv_upd hs hi ht, fun x a b => ?_⟩
  rw [hyp_upd hi hp] at b
  have := dem_upd hi (hd x)
  have := hk x a b
  omega
theorem dem1_cost {t s : T3} (h1 : per t = per s) (h2 : dln t = dln s) (h3 : cst t ≤ cst s) (x : Nat) : dem1 t x ≤ dem1 s x := by
  unfold dem1
  rw [h1, h2]
  split
  · exact Nat.mul_le_mul_left _ h3
  · exact Nat.le_refl _
theorem dem1_late {t s : T3} (h1 : per t = per s) (h2 : dln s ≤ dln t) (h3 : cst t = cst s) (x : Nat) : dem1 t x ≤ dem1 s x := by
  unfold dem1
  rw [h1, h3]
  by_cases h : dln t ≤ x
  · rw [if_pos h, if_pos (by omega)]
    exact Nat.mul_le_mul_right _ (Nat.add_le_add_right (Nat.div_le_div_right (by omega)) 1)
  · rw [if_neg h]
    exact Nat.zero_le _

/-! ### Implicit deadlines -/
def lat (t : T3) : T3 := (t.1, t.2.2, t.2.2)
theorem lat_tv {t : T3} (h : tv t = true) : tv (lat t) = true ∧ per (lat t) = per t ∧ cst (lat t) = cst t ∧ dln (lat t) = per t := by
  obtain ⟨c, d, p⟩ := t
  have h' := (tvB_iff c d p).1 h
  exact ⟨(tvB_iff c p p).2 (by omega), rfl, rfl, rfl⟩
theorem dem1_lat {t : T3} (h : tv t = true) (x : Nat) : dem1 (lat t) x = x / per t * cst t := by
  obtain ⟨_, h1, h2, h3⟩ := lat_tv h
  have hb := tv_bd h
  have hp : 0 < per t := by omega
  unfold dem1
  rw [h1, h2, h3]
  by_cases hx : per t ≤ x
  · rw [if_pos hx]
    congr 1
    obtain ⟨r, rfl⟩ : ∃ r, x = r + per t := ⟨x - per t, by omega⟩
    rw [Nat.add_sub_cancel, Nat.add_div_right _ hp]
  · rw [if_neg hx, Nat.div_eq_of_lt (by omega), Nat.zero_mul]
theorem hyp_map_lat (ts : List T3) : hyp (ts.map lat) = hyp ts := by
  induction ts using snoc_ind with
  | h0 => rfl
  | h1 l a ih => rw [List.map_append, List.map_cons, List.map_nil, hyp_snoc, hyp_snoc, ih]; rfl
theorem sv_map_lat {ts : List T3} (h : svB ts = true) : svB (ts.map lat) = true := by
  simp only [svB, Bool.and_eq_true, List.all_eq_true, decide_eq_true_eq] at h ⊢
  refine ⟨fun t ht => ?_, by rw [List.length_map]; exact h.2⟩
  obtain ⟨s, hs, rfl⟩ := List.mem_map.1 ht
  exact (lat_tv (h.1 s hs)).1
theorem dem_lat_le {ts : List T3} (h : ts.all tv = true) {H : Nat} (hd : ∀ t ∈ ts, per t ∣ H) (x : Nat) : dem (ts.map lat) x * H ≤ x * wrk H ts := by
  induction ts using snoc_ind with
  | h0 => simp [dem, wrk]
  | h1 l a ih =>
    rw [List.all_append, Bool.and_eq_true] at h
    have h1 := ih h.1 fun t ht => hd t (List.mem_append_left _ ht)
    have ha : tv a = true := by simpa using h.2
    have h2 : dem1 (lat a) x * H ≤ x * (cst a * (H / per a)) := by
      rw [dem1_lat ha]
      obtain ⟨q, hq⟩ := hd a (by simp)
      have hp : 0 < per a := by have := tv_bd ha; omega
      rw [hq, Nat.mul_div_cancel_left q hp]
      calc x / per a * cst a * (per a * q) = (x / per a * per a) * (cst a * q) := by ac_rfl
        _ ≤ x * (cst a * q) := Nat.mul_le_mul_right _ (Nat.div_mul_le_self x (per a))
    rw [List.map_append, List.map_cons, List.map_nil, dem_snoc, wrk_snoc, Nat.add_mul, Nat.mul_add]
    omega
theorem ut_le_iff {ts : List T3} (h : svB ts = true) : utN ts ≤ utD ts ↔ wrk (hyp ts) ts ≤ hyp ts := by
  have hH := hyp_bd ts (all_of_sv h)
  obtain ⟨_, d1, f1⟩ := frac_ut h hH.1
  constructor
  · intro hle
    have : utD ts * wrk (hyp ts) ts ≤ utD ts * hyp ts := by rw [← f1]; exact Nat.mul_le_mul_right _ hle
    exact Nat.le_of_mul_le_mul_left this d1
  · intro hle
    have : utN ts * hyp ts ≤ utD ts * hyp ts := by rw [f1]; exact Nat.mul_le_mul_left _ hle
    exact Nat.le_of_mul_le_mul_right this hH.1
theorem edf_ut {ts : List T3} (h : edf ts = true) : utN ts ≤ utD ts := by
  obtain ⟨hs, hk⟩ := edf_iff.1 h
  have hH := hyp_bd ts (all_of_sv hs)
  rw [ut_le_iff hs, ← dem_hyper (all_of_sv hs) (fun t ht => per_dvd_hyp ht) hH.1]
  exact hk _ hH.1 (Nat.le_refl _)
theorem wrk_map_lat (H : Nat) (ts : List T3) : wrk H (ts.map lat) = wrk H ts := by
  induction ts using snoc_ind with
  | h0 => rfl
  | h1 l a ih => rw [List.map_append, List.map_cons, List.map_nil, wrk_snoc, wrk_snoc, ih]; rfl
theorem edf_lat {ts : List T3} (h : svB ts = true) : edf (ts.map lat) = decide (utN ts ≤ utD ts) := by
  have hH := hyp_bd ts (all_of_sv h)
  rw [Bool.eq_iff_iff, decide_eq_true_eq, ut_le_iff h]
  constructor
  · intro he
    obtain ⟨hs, hk⟩ := edf_iff.1 he
    have h1 := hk (hyp ts) hH.1 (by rw [hyp_map_lat]; exact Nat.le_refl _)
    have h2 := dem_hyper (ts := ts.map lat) (H := hyp ts) (all_of_sv hs) (fun t ht => by rw [← hyp_map_lat]; exact per_dvd_hyp ht) hH.1
    rw [h2, wrk_map_lat] at h1
    exact h1
  · intro hle
    refine edf_iff.2 ⟨sv_map_lat h, fun x _ _ => ?_⟩
    have h1 := dem_lat_le (all_of_sv h) (H := hyp ts) (fun t ht => per_dvd_hyp ht) x
    have h2 : x * wrk (hyp ts) ts ≤ x * hyp ts := Nat.mul_le_mul_left _ hle
    exact Nat.le_of_mul_le_mul_right (Nat.le_trans h1 h2) hH.1
theorem div_add_le (a b p : Nat) : a / p + b / p ≤ (a + b) / p := by
  rcases Nat.eq_zero_or_pos p with e | e
  · subst e; simp
  · rw [Nat.le_div_iff_mul_le e, Nat.add_mul]
    exact Nat.add_le_add (Nat.div_mul_le_self a p) (Nat.div_mul_le_self b p)
theorem dem_lat_add {ts : List T3} (h : ts.all tv = true) (a b : Nat) : dem (ts.map lat) a + dem (ts.map lat) b ≤ dem (ts.map lat) (a + b) := by
  induction ts using snoc_ind with
  | h0 => simp [dem]
  | h1 l t ih =>
    rw [List.all_append, Bool.and_eq_true] at h
    have h1 := ih h.1
    have ht : tv t = true := by simpa using h.2
    have h2 : dem1 (lat t) a + dem1 (lat t) b ≤ dem1 (lat t) (a + b) := by
      rw [dem1_lat ht, dem1_lat ht, dem1_lat ht, ← Nat.add_mul]
      exact Nat.mul_le_mul_right _ (div_add_le a b (per t))
    rw [List.map_append, List.map_cons, List.map_nil, dem_snoc, dem_snoc, dem_snoc]
    omega

/-! ### The busy period -/
def wk1 (t : T3) (x : Nat) : Nat := (x + per t - 1) / per t * cst t
def wk (ts : List T3) (x : Nat) : Nat := ts.foldl (fun s t => s + wk1 t x) 0
theorem wk_snoc (ts : List T3) (t : T3) (x : Nat) : wk (ts ++ [t]) x = wk ts x + wk1 t x := by simp [wk]
theorem wk_mono (ts : List T3) {x y : Nat} (h : x ≤ y) : wk ts x ≤ wk ts y := dem_le_of ts wk1 wk1 x y fun t _ => by
  unfold wk1
  exact Nat.mul_le_mul_right _ (Nat.div_le_div_right (by omega))
theorem wk1_hyper {t : T3} {H : Nat} (h : tv t = true) (hd : per t ∣ H) : wk1 t H = cst t * (H / per t) := by
  have hb := tv_bd h
  obtain ⟨q, rfl⟩ := hd
  have hp : 0 < per t := by omega
  unfold wk1
  have e : per t * q + per t - 1 = (per t - 1) + per t * q := by omega
  rw [e, Nat.add_mul_div_left _ _ hp, Nat.div_eq_of_lt (by omega), Nat.zero_add, Nat.mul_div_cancel_left q hp, Nat.mul_comm]
theorem wk_hyper {ts : List T3} {H : Nat} (h : ts.all tv = true) (hd : ∀ t ∈ ts, per t ∣ H) : wk ts H = wrk H ts := by
  induction ts using snoc_ind with
  | h0 => rfl
  | h1 l a ih =>
    rw [List.all_append, Bool.and_eq_true] at h
    rw [wk_snoc, wrk_snoc, ih h.1 fun t ht => hd t (List.mem_append_left _ ht), wk1_hyper (by simpa using h.2) (hd a (by simp))]
theorem wk1_pos {t : T3} (h : tv t = true) {x : Nat} (hx : 1 ≤ x) : 1 ≤ wk1 t x := by
  have hb := tv_bd h
  unfold wk1
  have : 1 ≤ (x + per t - 1) / per t := Nat.div_pos (by omega) (by omega)
  exact Nat.mul_pos this hb.1
theorem wk_pos {ts : List T3} (h : ts.all tv = true) (hne : ts ≠ []) {x : Nat} (hx : 1 ≤ x) : 1 ≤ wk ts x := by
  match ts, hne with
  | t :: r, _ =>
    have h1 : wk (t :: r) x = wk1 t x + wk r x := by
      have : ∀ (r : List T3) (a : Nat), r.foldl (fun s t => s + wk1 t x) a = a + r.foldl (fun s t => s + wk1 t x) 0 := by
        intro r
        induction r with
        | nil => intro a; simp
        | cons b r ih => intro a; simp only [List.foldl_cons]; rw [ih (a + wk1 b x), ih (0 + wk1 b x)]; omega
      simp only [wk, List.foldl_cons]
      rw [this]
      omega
    have h2 : tv t = true := by
      rw [List.all_eq_true] at h
      exact h t (by simp)
    have := wk1_pos h2 hx
    omega
/-- The invariant of the iteration. -/
def Bz (ts : List T3) (w : Nat) : Prop := 1 ≤ w ∧ ∀ m, 1 ≤ m → m < w → m < wk ts m
theorem Bz.start {ts : List T3} (h : ts.all tv = true) (hne : ts ≠ []) : Bz ts (wk ts 1) :=
  ⟨wk_pos h hne (Nat.le_refl _), fun _ h1 h2 => Nat.lt_of_lt_of_le h2 (wk_mono ts h1)⟩
theorem Bz.ge {ts : List T3} (h : ts.all tv = true) (hne : ts ≠ []) {w : Nat} (hb : Bz ts w) : w ≤ wk ts w := by
  by_cases h1 : w = 1
  · subst h1; exact wk_pos h hne (Nat.le_refl _)
  · have h2 := hb.2 (w - 1) (by have := hb.1; omega) (by have := hb.1; omega)
    have h3 := wk_mono ts (show w - 1 ≤ w by omega)
    omega
theorem Bz.step {ts : List T3} (h : ts.all tv = true) (hne : ts ≠ []) {w : Nat} (hb : Bz ts w) : Bz ts (wk ts w) := by
  refine ⟨Nat.le_trans hb.1 (hb.ge h hne), fun m h1 h2 => ?_⟩
  by_cases hm : m < w
  · exact hb.2 m h1 hm
  · exact Nat.lt_of_lt_of_le h2 (wk_mono ts (by omega))
theorem Bz.le {ts : List T3} {H w : Nat} (hb : Bz ts w) (hH : 1 ≤ H) (hw : wk ts H ≤ H) : w ≤ H := by
  apply Classical.byContradiction
  intro hc
  have := hb.2 H hH (by omega)
  omega
theorem Bz.unique {ts : List T3} {v w : Nat} (hv : Bz ts v) (hw : Bz ts w) (ev : wk ts v = v) (ew : wk ts w = w) : v = w := by
  rcases Nat.lt_trichotomy v w with h | h | h
  · have := hw.2 v hv.1 h; omega
  · exact h
  · have := hv.2 w hw.1 h; omega
/-- The busy period is enough: what is demanded later is the work of the busy period and what is demanded in the rest. -/
theorem dem1_split {t : T3} (h : tv t = true) (w x : Nat) : dem1 t (w + x) ≤ wk1 t w + dem1 t x := by
  have hb := tv_bd h
  have hp : 0 < per t := by omega
  unfold wk1 dem1
  have hk := Nat.div_add_mod (w + per t - 1) (per t)
  have hkl := Nat.mod_lt (w + per t - 1) hp
  generalize (w + per t - 1) / per t = k at *
  have hwk : w ≤ per t * k := by omega
  by_cases h1 : dln t ≤ x
  · rw [if_pos (by omega), if_pos h1, ← Nat.add_mul]
    refine Nat.mul_le_mul_right _ ?_
    have : (w + x - dln t) / per t ≤ k + (x - dln t) / per t := by
      have e : (x - dln t) + per t * k = per t * k + (x - dln t) := Nat.add_comm _ _
      rw [Nat.add_comm k, ← Nat.add_mul_div_left _ _ hp]
      exact Nat.div_le_div_right (by omega)
    omega
  · rw [if_neg h1, Nat.add_zero]
    split
    · refine Nat.mul_le_mul_right _ ?_
      have : (w + x - dln t) / per t < k := by
        rw [Nat.div_lt_iff_lt_mul hp, Nat.mul_comm]
        omega
      omega
    · exact Nat.zero_le _
theorem dem_split {ts : List T3} (h : ts.all tv = true) (w x : Nat) : dem ts (w + x) ≤ wk ts w + dem ts x := by
  induction ts using snoc_ind with
  | h0 => simp [dem, wk]
  | h1 l a ih =>
    rw [List.all_append, Bool.and_eq_true] at h
    have h1 := ih h.1
    have h2 := dem1_split (t := a) (by simpa using h.2) w x
    rw [dem_snoc, dem_snoc, wk_snoc]
    omega
theorem busy_enough {ts : List T3} (h : svB ts = true) {w : Nat} (hb : Bz ts w) (ew : wk ts w = w) : fo ts ≤ w := by
  rcases fo_cases h with ⟨e, _⟩ | ⟨x, e, h1, h2, h3, h4⟩
  · omega
  · rw [e]
    apply Classical.byContradiction
    intro hc
    have hlt : w < x := by omega
    have hs := dem_split (all_of_sv h) w (x - w)
    rw [ew] at hs
    have e2 : w + (x - w) = x := by omega
    rw [e2] at hs
    have := h4 (x - w) (by omega) (by have := hb.1; omega)
    omega
end Go.Proofs.Ytocppoobcanhiaa
