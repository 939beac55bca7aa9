/- Plain arithmetic and list theory of chapters 1 to 4, without any program: task sets, demand, the simulation by static keys, legal patterns, earliest deadline first is safe (1) and optimal (3), an overload makes every order late (2), response times (4, 5), orders (6, 7, 54, 55), the binary heap by key. No condition beyond those that each theorem names. -/

namespace Go.Proofs.YtdgihkmiolnglaaGreatDoor

/-- The document's condition on a task, as a Bool. -/
def tvB (c d p : Int) : Bool := decide (1 ≤ c ∧ c ≤ 8 ∧ c ≤ d ∧ d ≤ p ∧ p ≤ 12)
def tv (t : Int × Int × Int) : Bool := tvB t.1 t.2.1 t.2.2
/-- The document's condition on a task set. -/
def svB (ts : List (Int × Int × Int)) : Bool := ts.all tv && decide (ts.length ≤ 5)
theorem tvB_iff (c d p : Int) : tvB c d p = true ↔ (1 ≤ c ∧ c ≤ 8 ∧ c ≤ d ∧ d ≤ p ∧ p ≤ 12) := by simp [tvB]

def per (t : Int × Int × Int) : Nat := t.2.2.toNat
def cst (t : Int × Int × Int) : Nat := t.1.toNat
/-- The least common multiple of the periods. -/
def hyp (ts : List (Int × Int × Int)) : Nat := ts.foldl (fun h t => Nat.lcm h (per t)) 1
/-- What Hyperperiod returns. -/
def hyB (ts : List (Int × Int × Int)) : Nat := if svB ts = true then hyp ts else 0

theorem hyp_nil : hyp [] = 1 := rfl
theorem hyp_snoc (ts : List (Int × Int × Int)) (t : Int × Int × Int) : hyp (ts ++ [t]) = Nat.lcm (hyp ts) (per t) := by simp [hyp]
theorem per_dvd {t : Int × Int × Int} (h : tv t = true) : per t ∣ 27720 ∧ 1 ≤ per t ∧ per t ≤ 12 ∧ ((per t : Nat) : Int) = t.2.2 := by
  obtain ⟨c, d, p⟩ := t
  have h' := (tvB_iff c d p).1 h
  simp only [per]
  obtain ⟨n, rfl⟩ : ∃ n : Nat, p = n := ⟨p.toNat, by omega⟩
  have h1 : 1 ≤ n := by omega
  have h2 : n ≤ 12 := by omega
  refine ⟨?_, by simpa using h1, by simpa using h2, by simp⟩
  simp only [Int.toNat_natCast]
  have : n = 1 ∨ n = 2 ∨ n = 3 ∨ n = 4 ∨ n = 5 ∨ n = 6 ∨ n = 7 ∨ n = 8 ∨ n = 9 ∨ n = 10 ∨ n = 11 ∨ n = 12 := by omega
  rcases this with rfl | rfl | rfl | rfl | rfl | rfl | rfl | rfl | rfl | rfl | rfl | rfl <;> decide
theorem cst_le {t : Int × Int × Int} (h : tv t = true) : 1 ≤ cst t ∧ cst t ≤ per t ∧ ((cst t : Nat) : Int) = t.1 := by
  obtain ⟨c, d, p⟩ := t
  have h' := (tvB_iff c d p).1 h
  simp only [cst, per]
  omega

theorem snoc_ind {α : Type} {P : List α → Prop} (h0 : P []) (h1 : ∀ l a, P l → P (l ++ [a])) (l : List α) : P l := by
  have : ∀ l : List α, P l.reverse := by
    intro l
    induction l with
    | nil => exact h0
    | cons a l ih => rw [List.reverse_cons]; exact h1 _ _ ih
  have h := this l.reverse
  rwa [List.reverse_reverse] at h

theorem hyp_dvd (ts : List (Int × Int × Int)) (h : ts.all tv = true) : hyp ts ∣ 27720 := by
  induction ts using snoc_ind with
  | h0 => exact ⟨27720, rfl⟩
  | h1 l a ih =>
    rw [List.all_append, Bool.and_eq_true] at h
    rw [hyp_snoc]
    exact Nat.lcm_dvd (ih h.1) (per_dvd (by simpa using h.2)).1
theorem hyp_bd (ts : List (Int × Int × Int)) (h : ts.all tv = true) : 1 ≤ hyp ts ∧ hyp ts ≤ 27720 := by
  have hd := hyp_dvd ts h
  exact ⟨Nat.pos_of_dvd_of_pos hd (by decide), Nat.le_of_dvd (by decide) hd⟩
/-- The program's step. -/
theorem lcm_step (h p : Nat) : h / Nat.gcd h p * p = Nat.lcm h p := by
  rw [Nat.lcm, Nat.div_mul_right_comm (Nat.gcd_dvd_left h p)]

/-- A task set without the task at index i. -/
def wo (ts : List (Int × Int × Int)) (i : Nat) : List (Int × Int × Int) := ts.take i ++ ts.drop (i + 1)
theorem wo_length {ts : List (Int × Int × Int)} {i : Nat} (h : i < ts.length) : (wo ts i).length + 1 = ts.length := by
  rw [wo, List.length_append, List.length_take, List.length_drop]
  omega
theorem wo_mem {ts : List (Int × Int × Int)} {i : Nat} {t : Int × Int × Int} (h : t ∈ wo ts i) : t ∈ ts := by
  rcases List.mem_append.1 h with h | h
  · exact List.mem_of_mem_take h
  · exact List.mem_of_mem_drop h
theorem sv_wo {ts : List (Int × Int × Int)} (h : svB ts = true) (i : Nat) : svB (wo ts i) = true := by
  simp only [svB, Bool.and_eq_true, List.all_eq_true, decide_eq_true_eq] at h ⊢
  refine ⟨fun t ht => h.1 t (wo_mem ht), ?_⟩
  have := h.2
  rw [wo, List.length_append, List.length_take, List.length_drop]
  omega

/-! ### Fractions -/
def rn (x y : Nat) : Nat := x / Nat.gcd x y
def rd (x y : Nat) : Nat := y / Nat.gcd x y
theorem rn_rd (x y : Nat) (hy : 1 ≤ y) : Nat.gcd (rn x y) (rd x y) = 1 ∧ 1 ≤ rd x y ∧ rn x y * y = x * rd x y ∧ rn x y ≤ x ∧ rd x y ≤ y := by
  have hg : 0 < Nat.gcd x y := Nat.gcd_pos_of_pos_right x hy
  refine ⟨?_, ?_, ?_, Nat.div_le_self _ _, Nat.div_le_self _ _⟩
  · simp only [rn, rd]
    rw [Nat.gcd_div (Nat.gcd_dvd_left x y) (Nat.gcd_dvd_right x y), Nat.div_self hg]
  · exact Nat.div_pos (Nat.le_of_dvd hy (Nat.gcd_dvd_right x y)) hg
  · simp only [rn, rd]
    obtain ⟨a, ha⟩ := Nat.gcd_dvd_left x y
    obtain ⟨b, hb⟩ := Nat.gcd_dvd_right x y
    have e1 : x / Nat.gcd x y = a := Nat.div_eq_of_eq_mul_right hg ha
    have e2 : y / Nat.gcd x y = b := Nat.div_eq_of_eq_mul_right hg hb
    rw [e1, e2]
    calc a * y = a * (Nat.gcd x y * b) := by rw [← hb]
      _ = (Nat.gcd x y * a) * b := by rw [← Nat.mul_assoc, Nat.mul_comm a]
      _ = x * b := by rw [← ha]

/-- The work of one hyperperiod H. -/
def wrk (H : Nat) (ts : List (Int × Int × Int)) : Nat := ts.foldl (fun s t => s + cst t * (H / per t)) 0
theorem wrk_snoc (H : Nat) (ts : List (Int × Int × Int)) (t : Int × Int × Int) : wrk H (ts ++ [t]) = wrk H ts + cst t * (H / per t) := by simp [wrk]
theorem part_le (H c p : Nat) (h : c ≤ p) : c * (H / p) ≤ H :=
  Nat.le_trans (Nat.mul_le_mul_right _ h) (by rw [Nat.mul_comm]; exact Nat.div_mul_le_self H p)
theorem wrk_le (H : Nat) (ts : List (Int × Int × Int)) (h : ts.all tv = true) : wrk H ts ≤ ts.length * H := by
  induction ts using snoc_ind with
  | h0 => simp [wrk]
  | h1 l a ih =>
    rw [List.all_append, Bool.and_eq_true] at h
    have h1 := part_le H _ _ (cst_le (t := a) (by simpa using h.2)).2.1
    have h2 := ih h.1
    rw [wrk_snoc, List.length_append, List.length_singleton, Nat.add_mul, Nat.one_mul]
    omega
theorem per_dvd_hyp {ts : List (Int × Int × Int)} {t : Int × Int × Int} (h : t ∈ ts) : per t ∣ hyp ts := by
  induction ts using snoc_ind with
  | h0 => simp at h
  | h1 l a ih =>
    rw [hyp_snoc]
    rcases List.mem_append.1 h with h | h
    · exact Nat.dvd_trans (ih h) (Nat.dvd_lcm_left _ _)
    · rw [List.mem_singleton] at h
      rw [h]
      exact Nat.dvd_lcm_right _ _

/-- N/D is, in lowest terms, S/H. -/
def Frac (N D S H : Nat) : Prop := Nat.gcd N D = 1 ∧ 1 ≤ D ∧ N * H = D * S
theorem Frac.start (H : Nat) : Frac 0 1 0 H := ⟨rfl, Nat.le_refl _, by simp⟩
theorem Frac.dvd {N D S H : Nat} (h : Frac N D S H) : D ∣ H := by
  obtain ⟨h1, _, h3⟩ := h
  have hc : Nat.Coprime D N := by rw [Nat.coprime_iff_gcd_eq_one, Nat.gcd_comm]; exact h1
  exact Nat.Coprime.dvd_of_dvd_mul_left hc ⟨S, h3⟩
theorem Frac.num_le {N D S H k : Nat} (h : Frac N D S H) (hH : 1 ≤ H) (hS : S ≤ k * H) : N ≤ k * D := by
  obtain ⟨_, _, h3⟩ := h
  have : N * H ≤ k * D * H := by
    rw [h3]
    calc D * S ≤ D * (k * H) := Nat.mul_le_mul_left _ hS
      _ = k * D * H := by rw [← Nat.mul_assoc, Nat.mul_comm D k]
  exact Nat.le_of_mul_le_mul_right this hH
theorem Frac.unique {N D S H : Nat} (h : Frac N D S H) (hH : 1 ≤ H) : N = S / Nat.gcd H S ∧ D = H / Nat.gcd H S := by
  have hd := h.dvd
  obtain ⟨h1, h2, h3⟩ := h
  obtain ⟨q, hq⟩ := hd
  have hS : S = N * q := by
    have : D * S = D * (N * q) := by rw [← h3, hq, ← Nat.mul_assoc, ← Nat.mul_assoc, Nat.mul_comm N D]
    exact Nat.eq_of_mul_eq_mul_left h2 this
  have hqp : 0 < q := by
    rcases Nat.eq_zero_or_pos q with e | e
    · rw [e, Nat.mul_zero] at hq; omega
    · exact e
  have hg : Nat.gcd H S = q := by rw [hq, hS, Nat.gcd_mul_right, Nat.gcd_comm, h1, Nat.one_mul]
  rw [hg]
  exact ⟨by rw [hS, Nat.mul_div_cancel _ hqp], by rw [hq, Nat.mul_div_cancel _ hqp]⟩
theorem Frac.step {N D S H c p : Nat} (h : Frac N D S H) (hp : 1 ≤ p) (hd : p ∣ H) :
    Frac (rn (N * rd c p + rn c p * D) (D * rd c p)) (rd (N * rd c p + rn c p * D) (D * rd c p)) (S + c * (H / p)) H := by
  obtain ⟨h1, h2, h3⟩ := h
  obtain ⟨_, e2, e3, _, _⟩ := rn_rd c p hp
  obtain ⟨q, rfl⟩ := hd
  have hq : p * q / p = q := Nat.mul_div_cancel_left q hp
  rw [hq]
  generalize rn c p = n at *
  generalize rd c p = d at *
  have hY : 1 ≤ D * d := Nat.mul_pos h2 e2
  obtain ⟨k1, k2, k3, _, _⟩ := rn_rd (N * d + n * D) (D * d) hY
  refine ⟨k1, k2, ?_⟩
  generalize rn (N * d + n * D) (D * d) = M at *
  generalize rd (N * d + n * D) (D * d) = E at *
  have hX : (N * d + n * D) * (p * q) = (D * d) * (S + c * q) := by
    have a1 : N * d * (p * q) = D * d * S := by
      calc N * d * (p * q) = N * (p * q) * d := by rw [Nat.mul_right_comm]
        _ = D * S * d := by rw [h3]
        _ = D * d * S := by rw [Nat.mul_right_comm]
    have a2 : n * D * (p * q) = D * d * (c * q) := by
      calc n * D * (p * q) = n * p * (D * q) := by ac_rfl
        _ = c * d * (D * q) := by rw [e3]
        _ = D * d * (c * q) := by ac_rfl
    rw [Nat.add_mul, a1, a2, Nat.mul_add]
  have : M * (p * q) * (D * d) = E * (S + c * q) * (D * d) := by
    calc M * (p * q) * (D * d) = M * (D * d) * (p * q) := by rw [Nat.mul_right_comm]
      _ = (N * d + n * D) * E * (p * q) := by rw [k3]
      _ = (N * d + n * D) * (p * q) * E := by rw [Nat.mul_right_comm]
      _ = (D * d) * (S + c * q) * E := by rw [hX]
      _ = E * (S + c * q) * (D * d) := by ac_rfl
  exact Nat.eq_of_mul_eq_mul_right hY this

/-- What Utilization returns. -/
def utN (ts : List (Int × Int × Int)) : Nat := if svB ts = true then wrk (hyp ts) ts / Nat.gcd (hyp ts) (wrk (hyp ts) ts) else 0
def utD (ts : List (Int × Int × Int)) : Nat := if svB ts = true then hyp ts / Nat.gcd (hyp ts) (wrk (hyp ts) ts) else 0
end Go.Proofs.YtdgihkmiolnglaaGreatDoor

namespace Go.Proofs.YtdgihkmiolnglaaGreatDoor

theorem frac_ut {ts : List (Int × Int × Int)} (h : svB ts = true) (hH : 1 ≤ hyp ts) : Frac (utN ts) (utD ts) (wrk (hyp ts) ts) (hyp ts) := by
  have e1 : utN ts = rn (wrk (hyp ts) ts) (hyp ts) := by simp [utN, h, rn, Nat.gcd_comm]
  have e2 : utD ts = rd (wrk (hyp ts) ts) (hyp ts) := by simp [utD, h, rd, Nat.gcd_comm]
  obtain ⟨k1, k2, k3, _, _⟩ := rn_rd (wrk (hyp ts) ts) (hyp ts) hH
  rw [e1, e2]
  exact ⟨k1, k2, by rw [k3, Nat.mul_comm]⟩
theorem coprime_no {N D n : Nat} (h : Nat.gcd N D = 1) (hn : 2 ≤ n) (h1 : N % n = 0) : D % n ≠ 0 := by
  intro h2
  have := Nat.dvd_gcd (Nat.dvd_of_mod_eq_zero h1) (Nat.dvd_of_mod_eq_zero h2)
  rw [h] at this
  have := Nat.le_of_dvd (by decide) this
  omega
theorem wrk_append (H : Nat) (as bs : List (Int × Int × Int)) : wrk H (as ++ bs) = wrk H as + wrk H bs := by
  induction bs using snoc_ind with
  | h0 => simp [wrk]
  | h1 l a ih => rw [← List.append_assoc, wrk_snoc, ih, wrk_snoc]; omega
theorem wrk_one (H : Nat) (t : Int × Int × Int) : wrk H [t] = cst t * (H / per t) := by simp [wrk]
theorem split_at {ts : List (Int × Int × Int)} {i : Nat} (h : i < ts.length) : ts = ts.take i ++ [ts[i]] ++ ts.drop (i + 1) := by
  rw [List.append_assoc, List.singleton_append, ← List.drop_eq_getElem_cons h, List.take_append_drop]
theorem wrk_wo {ts : List (Int × Int × Int)} {i : Nat} (h : i < ts.length) (H : Nat) : wrk H ts = wrk H (wo ts i) + cst ts[i] * (H / per ts[i]) := by
  have e := congrArg (wrk H) (split_at h)
  rw [wrk_append, wrk_append, wrk_one] at e
  rw [e, wo, wrk_append]
  omega
theorem wrk_scale (m G : Nat) (ts : List (Int × Int × Int)) (h : ∀ t ∈ ts, per t ∣ G) : wrk (m * G) ts = m * wrk G ts := by
  induction ts using snoc_ind with
  | h0 => simp [wrk]
  | h1 l a ih =>
    rw [wrk_snoc, wrk_snoc, ih fun t ht => h t (List.mem_append_left _ ht), Nat.mul_div_assoc _ (h a (by simp)), Nat.mul_add]
    congr 1
    ac_rfl
theorem all_of_sv {ts : List (Int × Int × Int)} (h : svB ts = true) : ts.all tv = true := by
  simp only [svB, Bool.and_eq_true] at h
  exact h.1
theorem hyp_wo' {ts : List (Int × Int × Int)} {i : Nat} : hyp (wo ts i) ∣ hyp ts := by
  have : ∀ us : List (Int × Int × Int), (∀ t ∈ us, t ∈ ts) → hyp us ∣ hyp ts := by
    intro us
    induction us using snoc_ind with
    | h0 => intro _; exact ⟨hyp ts, by simp [hyp]⟩
    | h1 l a ih =>
      intro hm
      rw [hyp_snoc]
      exact Nat.lcm_dvd (ih fun t ht => hm t (List.mem_append_left _ ht)) (per_dvd_hyp (hm a (by simp)))
  exact this _ fun t ht => wo_mem ht
/-- A task less: strictly less utilization. -/
theorem ut_less {ts : List (Int × Int × Int)} {i : Nat} (h : svB ts = true) (hi : i < ts.length) : utN (wo ts i) * utD ts < utN ts * utD (wo ts i) := by
  have hw := sv_wo h i
  have hH := hyp_bd ts (all_of_sv h)
  have hG := hyp_bd (wo ts i) (all_of_sv hw)
  obtain ⟨_, d1, f1⟩ := frac_ut h hH.1
  obtain ⟨_, d2, f2⟩ := frac_ut hw hG.1
  obtain ⟨m, hm⟩ := hyp_wo' (ts := ts) (i := i)
  have htv : tv ts[i] = true := by
    have := all_of_sv h
    rw [List.all_eq_true] at this
    exact this _ (List.getElem_mem hi)
  have hpd : per ts[i] ∣ hyp ts := per_dvd_hyp (List.getElem_mem hi)
  have hc := (cst_le htv).1
  have hq : 1 ≤ hyp ts / per ts[i] := Nat.div_pos (Nat.le_of_dvd hH.1 hpd) (per_dvd htv).2.1
  have hS : wrk (hyp ts) (wo ts i) < wrk (hyp ts) ts := by
    rw [wrk_wo hi (hyp ts)]
    have := Nat.mul_pos hc hq
    omega
  have hsc : utN (wo ts i) * hyp ts = utD (wo ts i) * wrk (hyp ts) (wo ts i) := by
    have e : wrk (hyp ts) (wo ts i) = m * wrk (hyp (wo ts i)) (wo ts i) := by
      have e' : hyp ts = m * hyp (wo ts i) := by rw [hm, Nat.mul_comm]
      rw [e']
      exact wrk_scale m _ _ fun t ht => per_dvd_hyp ht
    calc utN (wo ts i) * hyp ts = utN (wo ts i) * hyp (wo ts i) * m := by rw [hm, Nat.mul_assoc]
      _ = utD (wo ts i) * wrk (hyp (wo ts i)) (wo ts i) * m := by rw [f2]
      _ = utD (wo ts i) * wrk (hyp ts) (wo ts i) := by rw [e]; ac_rfl
  refine Nat.lt_of_mul_lt_mul_right (a := hyp ts) ?_
  calc utN (wo ts i) * utD ts * hyp ts = utN (wo ts i) * hyp ts * utD ts := by ac_rfl
    _ = utD (wo ts i) * wrk (hyp ts) (wo ts i) * utD ts := by rw [hsc]
    _ = utD (wo ts i) * utD ts * wrk (hyp ts) (wo ts i) := by ac_rfl
    _ < utD (wo ts i) * utD ts * wrk (hyp ts) ts := Nat.mul_lt_mul_of_pos_left hS (Nat.mul_pos d2 d1)
    _ = utD ts * wrk (hyp ts) ts * utD (wo ts i) := by ac_rfl
    _ = utN ts * hyp ts * utD (wo ts i) := by rw [f1]
    _ = utN ts * utD (wo ts i) * hyp ts := by ac_rfl
theorem ut_bd {ts : List (Int × Int × Int)} (h : svB ts = true) : 1 ≤ utD ts ∧ utD ts ≤ 27720 ∧ utN ts ≤ 138600 := by
  have hH := hyp_bd ts (all_of_sv h)
  have f := frac_ut h hH.1
  have hl : ts.length ≤ 5 := by simp only [svB, Bool.and_eq_true, decide_eq_true_eq] at h; exact h.2
  have hS : wrk (hyp ts) ts ≤ 5 * hyp ts := Nat.le_trans (wrk_le _ _ (all_of_sv h)) (Nat.mul_le_mul_right _ hl)
  have hD : utD ts ≤ 27720 := Nat.le_trans (Nat.le_of_dvd hH.1 f.dvd) hH.2
  have := f.num_le hH.1 hS
  exact ⟨f.2.1, hD, by omega⟩
end Go.Proofs.YtdgihkmiolnglaaGreatDoor

namespace Go.Proofs.YtdgihkmiolnglaaGreatDoor

abbrev T3 := Int × Int × Int
def dln (t : T3) : Nat := t.2.1.toNat
/-- The demand bound of one task. -/
def dem1 (t : T3) (x : Nat) : Nat := if dln t ≤ x then ((x - dln t) / per t + 1) * cst t else 0
/-- The demand bound. -/
def dem (ts : List T3) (x : Nat) : Nat := ts.foldl (fun s t => s + dem1 t x) 0
theorem dem_snoc (ts : List T3) (t : T3) (x : Nat) : dem (ts ++ [t]) x = dem ts x + dem1 t x := by simp [dem]
theorem dem_nil (x : Nat) : dem [] x = 0 := rfl
theorem dem_append (as bs : List T3) (x : Nat) : dem (as ++ bs) x = dem as x + dem bs x := by
  induction bs using snoc_ind with
  | h0 => simp [dem]
  | h1 l a ih => rw [← List.append_assoc, dem_snoc, ih, dem_snoc]; omega
theorem tv_bd {t : T3} (h : tv t = true) : 1 ≤ cst t ∧ cst t ≤ dln t ∧ dln t ≤ per t ∧ per t ≤ 12 ∧ cst t ≤ 8 ∧ ((cst t : Nat) : Int) = t.1 ∧ ((dln t : Nat) : Int) = t.2.1 ∧ ((per t : Nat) : Int) = t.2.2 := by
  obtain ⟨c, d, p⟩ := t
  have h' := (tvB_iff c d p).1 h
  simp only [cst, per, dln]
  omega
theorem dem1_mono (t : T3) {x y : Nat} (h : x ≤ y) : dem1 t x ≤ dem1 t y := by
  unfold dem1
  by_cases h1 : dln t ≤ x
  · rw [if_pos h1, if_pos (by omega)]
    exact Nat.mul_le_mul_right _ (Nat.add_le_add_right (Nat.div_le_div_right (by omega)) 1)
  · rw [if_neg h1]
    exact Nat.zero_le _
theorem dem_le_of (ts : List T3) (f g : T3 → Nat → Nat) (x y : Nat) (h : ∀ t ∈ ts, f t x ≤ g t y) : ts.foldl (fun s t => s + f t x) 0 ≤ ts.foldl (fun s t => s + g t y) 0 := by
  induction ts using snoc_ind with
  | h0 => simp
  | h1 l a ih =>
    simp only [List.foldl_append, List.foldl_cons, List.foldl_nil]
    have h1 := ih fun t ht => h t (List.mem_append_left _ ht)
    have h2 := h a (by simp)
    omega
theorem dem_mono (ts : List T3) {x y : Nat} (h : x ≤ y) : dem ts x ≤ dem ts y := dem_le_of ts dem1 dem1 x y fun t _ => dem1_mono t h
theorem dem1_zero {t : T3} (h : tv t = true) : dem1 t 0 = 0 := by
  have := tv_bd h
  unfold dem1
  rw [if_neg (by omega)]
theorem dem_zero (ts : List T3) (h : ts.all tv = true) : dem ts 0 = 0 := by
  induction ts using snoc_ind with
  | h0 => rfl
  | h1 l a ih =>
    rw [List.all_append, Bool.and_eq_true] at h
    rw [dem_snoc, ih h.1, dem1_zero (by simpa using h.2)]
/-- A bound for the program's integers. -/
theorem dem1_le {t : T3} (h : tv t = true) (x : Nat) : dem1 t x ≤ 8 * (x + 1) := by
  have := tv_bd h
  unfold dem1
  split
  · have h1 : (x - dln t) / per t ≤ x := Nat.le_trans (Nat.div_le_self _ _) (by omega)
    have h2 : ((x - dln t) / per t + 1) * cst t ≤ (x + 1) * 8 := Nat.mul_le_mul (by omega) (by omega)
    omega
  · omega
theorem dem_le (ts : List T3) (h : ts.all tv = true) (x : Nat) : dem ts x ≤ ts.length * (8 * (x + 1)) := by
  induction ts using snoc_ind with
  | h0 => simp [dem]
  | h1 l a ih =>
    rw [List.all_append, Bool.and_eq_true] at h
    have h1 := ih h.1
    have h2 := dem1_le (t := a) (by simpa using h.2) x
    rw [dem_snoc, List.length_append, List.length_singleton, Nat.add_mul, Nat.one_mul]
    omega
theorem dem1_hyper {t : T3} {H : Nat} (h : tv t = true) (hd : per t ∣ H) (hH : 1 ≤ H) : dem1 t H = cst t * (H / per t) := by
  have hb := tv_bd h
  obtain ⟨q, rfl⟩ := hd
  have hp : 0 < per t := by omega
  have hq : 1 ≤ q := by
    rcases Nat.eq_zero_or_pos q with e | e
    · subst e; omega
    · exact e
  have hle : per t ≤ per t * q := Nat.le_mul_of_pos_right _ hq
  unfold dem1
  rw [if_pos (by omega), Nat.mul_div_cancel_left q hp, Nat.mul_comm]
  congr 1
  have e : (per t * q - dln t) / per t = q - 1 := by
    obtain ⟨r, rfl⟩ : ∃ r, q = r + 1 := ⟨q - 1, by omega⟩
    have e1 : per t * (r + 1) - dln t = (per t - dln t) + per t * r := by rw [Nat.mul_add, Nat.mul_one]; omega
    rw [e1, Nat.add_mul_div_left _ _ hp, Nat.div_eq_of_lt (by omega)]
    omega
  omega
/-- At the hyperperiod the demand is the work of one hyperperiod. -/
theorem dem_hyper {ts : List T3} {H : Nat} (h : ts.all tv = true) (hd : ∀ t ∈ ts, per t ∣ H) (hH : 1 ≤ H) : dem ts H = wrk H ts := by
  induction ts using snoc_ind with
  | h0 => rfl
  | h1 l a ih =>
    rw [List.all_append, Bool.and_eq_true] at h
    rw [dem_snoc, wrk_snoc, ih h.1 fun t ht => hd t (List.mem_append_left _ ht), dem1_hyper (by simpa using h.2) (hd a (by simp)) hH]

/-! ### The first overload -/
def fo (ts : List T3) : Int := if svB ts = true then (match (List.range (hyp ts)).find? (fun t => decide (t + 1 < dem ts (t + 1))) with | some t => (t : Int) + 1 | none => -1) else -1
theorem fo_no {ts : List T3} (h : svB ts = false) : fo ts = -1 := by simp [fo, h]
theorem fo_none {ts : List T3} (h : svB ts = true) (hk : ∀ t, 1 ≤ t → t ≤ hyp ts → dem ts t ≤ t) : fo ts = -1 := by
  have : (List.range (hyp ts)).find? (fun t => decide (t + 1 < dem ts (t + 1))) = none := by
    rw [List.find?_eq_none]
    intro t ht
    have := hk (t + 1) (by omega) (by have := List.mem_range.1 ht; omega)
    simp
    omega
  simp [fo, h, this]
theorem fo_some {ts : List T3} {x : Nat} (h : svB ts = true) (h1 : 1 ≤ x) (h2 : x ≤ hyp ts) (h3 : x < dem ts x) (hk : ∀ t, 1 ≤ t → t < x → dem ts t ≤ t) : fo ts = x := by
  have : (List.range (hyp ts)).find? (fun t => decide (t + 1 < dem ts (t + 1))) = some (x - 1) := by
    rw [List.find?_range_eq_some]
    refine ⟨?_, List.mem_range.2 (by omega), ?_⟩
    · have e : x - 1 + 1 = x := by omega
      rw [e]
      simpa using h3
    · intro j hj
      have := hk (j + 1) (by omega) (by omega)
      simp
      omega
  simp only [fo, h, this, if_true]
  omega
theorem fo_cases {ts : List T3} (h : svB ts = true) : (fo ts = -1 ∧ ∀ t, 1 ≤ t → t ≤ hyp ts → dem ts t ≤ t) ∨ ∃ x : Nat, fo ts = x ∧ 1 ≤ x ∧ x ≤ hyp ts ∧ x < dem ts x ∧ ∀ t, 1 ≤ t → t < x → dem ts t ≤ t := by
  by_cases hk : ∀ t, 1 ≤ t → t ≤ hyp ts → dem ts t ≤ t
  · exact .inl ⟨fo_none h hk, hk⟩
  · right
    have hex : ∃ t, 1 ≤ t ∧ t ≤ hyp ts ∧ t < dem ts t := by
      apply Classical.byContradiction
      intro hn
      apply hk
      intro t a b
      apply Classical.byContradiction
      intro c
      exact hn ⟨t, a, b, by omega⟩
    have hmin : ∀ n, (∃ t, t ≤ n ∧ 1 ≤ t ∧ t ≤ hyp ts ∧ t < dem ts t) → ∃ x, 1 ≤ x ∧ x ≤ hyp ts ∧ x < dem ts x ∧ ∀ t, 1 ≤ t → t < x → dem ts t ≤ t := by
      intro n
      induction n with
      | zero => rintro ⟨t, a, b, _⟩; omega
      | succ n ih =>
        rintro ⟨t, a, b, c, d⟩
        by_cases hlow : ∃ s, s ≤ n ∧ 1 ≤ s ∧ s ≤ hyp ts ∧ s < dem ts s
        · exact ih hlow
        · refine ⟨t, b, c, d, fun s s1 s2 => ?_⟩
          apply Classical.byContradiction
          intro hc
          exact hlow ⟨s, by omega, s1, by omega, by omega⟩
    obtain ⟨t, a, b, c⟩ := hex
    obtain ⟨x, x1, x2, x3, x4⟩ := hmin t ⟨t, Nat.le_refl _, a, b, c⟩
    exact ⟨x, fo_some h x1 x2 x3 x4, x1, x2, x3, x4⟩
def edf (ts : List T3) : Bool := svB ts && decide (fo ts = -1)
theorem edf_iff {ts : List T3} : edf ts = true ↔ svB ts = true ∧ ∀ t, 1 ≤ t → t ≤ hyp ts → dem ts t ≤ t := by
  simp only [edf, Bool.and_eq_true, decide_eq_true_eq]
  constructor
  · rintro ⟨h, hf⟩
    rcases fo_cases h with ⟨_, hk⟩ | ⟨x, hx, h1, _⟩
    · exact ⟨h, hk⟩
    · omega
  · rintro ⟨h, hk⟩
    exact ⟨h, fo_none h hk⟩
/-- An overload ends at a deadline. -/
theorem dem1_step {t : T3} (h : tv t = true) {x : Nat} (hx : 1 ≤ x) (hn : ¬ (dln t ≤ x ∧ (x - dln t) % per t = 0)) : dem1 t x = dem1 t (x - 1) := by
  have hb := tv_bd h
  have hp : 0 < per t := by omega
  unfold dem1
  by_cases h1 : dln t ≤ x
  · have h2 : ¬ (x - dln t) % per t = 0 := fun e => hn ⟨h1, e⟩
    have h3 : dln t ≤ x - 1 := by
      apply Classical.byContradiction
      intro hc
      have : x - dln t = 0 := by omega
      rw [this] at h2
      simp at h2
    rw [if_pos h1, if_pos h3]
    congr 2
    have e : x - dln t = (x - 1 - dln t) + 1 := by omega
    rw [e]
    rw [e] at h2
    exact Nat.succ_div_of_mod_ne_zero h2
  · rw [if_neg h1, if_neg (by omega)]
theorem over_deadline {ts : List T3} (h : ts.all tv = true) {x : Nat} (hx : 1 ≤ x) (h3 : x < dem ts x) (hk : ∀ t, 1 ≤ t → t < x → dem ts t ≤ t) : ∃ t ∈ ts, dln t ≤ x ∧ (x - dln t) % per t = 0 := by
  apply Classical.byContradiction
  intro hn
  have he : dem ts x = dem ts (x - 1) := by
    have hall : ∀ t ∈ ts, dem1 t x = dem1 t (x - 1) := by
      intro t ht
      rw [List.all_eq_true] at h
      exact dem1_step (h t ht) hx fun hc => hn ⟨t, ht, hc⟩
    exact Nat.le_antisymm (dem_le_of ts dem1 dem1 x (x - 1) fun t ht => Nat.le_of_eq (hall t ht)) (dem_le_of ts dem1 dem1 (x - 1) x fun t ht => Nat.le_of_eq (hall t ht).symm)
  by_cases h1 : x = 1
  · subst h1
    have := dem_zero ts h
    simp only [Nat.sub_self] at he
    omega
  · have := hk (x - 1) (by omega) (by omega)
    omega

/-! ### Monotone -/
theorem edf_wo {ts : List T3} (h : edf ts = true) {i : Nat} (hi : i < ts.length) : edf (wo ts i) = true := by
  obtain ⟨hs, hk⟩ := edf_iff.1 h
  refine edf_iff.2 ⟨sv_wo hs i, fun t a b => ?_⟩
  have hH := hyp_bd ts (all_of_sv hs)
  have h1 : hyp (wo ts i) ≤ hyp ts := Nat.le_of_dvd hH.1 hyp_wo'
  have h2 := hk t a (by omega)
  have e := congrArg (fun l => dem l t) (split_at hi)
  simp only [dem_append] at e
  simp only [wo, dem_append]
  omega
/-- A set with the task at index i replaced. -/
def upd (ts : List T3) (i : Nat) (t : T3) : List T3 := ts.take i ++ [t] ++ ts.drop (i + 1)
theorem dem_upd {ts : List T3} {i : Nat} (hi : i < ts.length) {t : T3} {x : Nat} (h : dem1 t x ≤ dem1 ts[i] x) : dem (upd ts i t) x ≤ dem ts x := by
  have e := congrArg (fun l => dem l x) (split_at hi)
  simp only [dem_append] at e
  simp only [upd, dem_append]
  have e1 : ∀ t : T3, dem [t] x = dem1 t x := fun t => by simp [dem]
  rw [e1] at e ⊢
  omega
theorem hyp_append (as bs : List T3) : hyp (as ++ bs) = Nat.lcm (hyp as) (hyp bs) := by
  induction bs using snoc_ind with
  | h0 => simp [hyp, Nat.lcm]
  | h1 l a ih => rw [← List.append_assoc, hyp_snoc, ih, hyp_snoc, Nat.lcm_assoc]
theorem hyp_upd {ts : List T3} {i : Nat} (hi : i < ts.length) {t : T3} (h : per t = per ts[i]) : hyp (upd ts i t) = hyp ts := by
  have e := congrArg hyp (split_at hi)
  rw [hyp_append _ _, hyp_append _ _] at e
  rw [upd, hyp_append _ _, hyp_append _ _, e]
  have e1 : ∀ t : T3, hyp [t] = Nat.lcm 1 (per t) := fun t => by simp [hyp]
  rw [e1, e1, h]
theorem sv_upd {ts : List T3} {i : Nat} (h : svB ts = true) (hi : i < ts.length) {t : T3} (ht : tv t = true) : svB (upd ts i t) = true := by
  simp only [svB, Bool.and_eq_true, List.all_eq_true, decide_eq_true_eq] at h ⊢
  refine ⟨fun s hs => ?_, ?_⟩
  · simp only [upd, List.mem_append, List.mem_singleton] at hs
    rcases hs with (hs | rfl) | hs
    · exact h.1 s (List.mem_of_mem_take hs)
    · exact ht
    · exact h.1 s (List.mem_of_mem_drop hs)
  · simp only [upd, List.length_append, List.length_take, List.length_drop, List.length_singleton]
    omega
theorem edf_upd {ts : List T3} (h : edf ts = true) {i : Nat} (hi : i < ts.length) {t : T3} (ht : tv t = true) (hp : per t = per ts[i]) (hd : ∀ x, dem1 t x ≤ dem1 ts[i] x) : edf (upd ts i t) = true := by
  obtain ⟨hs, hk⟩ := edf_iff.1 h
  refine edf_iff.2 ⟨sv_upd hs hi ht, fun x a b => ?_⟩
  rw [hyp_upd hi hp] at b
  have := dem_upd hi (hd x)
  have := hk x a b
  omega
theorem dem1_cost {t s : T3} (h1 : per t = per s) (h2 : dln t = dln s) (h3 : cst t ≤ cst s) (x : Nat) : dem1 t x ≤ dem1 s x := by
  unfold dem1
  rw [h1, h2]
  split
  · exact Nat.mul_le_mul_left _ h3
  · exact Nat.le_refl _
theorem dem1_late {t s : T3} (h1 : per t = per s) (h2 : dln s ≤ dln t) (h3 : cst t = cst s) (x : Nat) : dem1 t x ≤ dem1 s x := by
  unfold dem1
  rw [h1, h3]
  by_cases h : dln t ≤ x
  · rw [if_pos h, if_pos (by omega)]
    exact Nat.mul_le_mul_right _ (Nat.add_le_add_right (Nat.div_le_div_right (by omega)) 1)
  · rw [if_neg h]
    exact Nat.zero_le _

/-! ### Implicit deadlines -/
def lat (t : T3) : T3 := (t.1, t.2.2, t.2.2)
theorem lat_tv {t : T3} (h : tv t = true) : tv (lat t) = true ∧ per (lat t) = per t ∧ cst (lat t) = cst t ∧ dln (lat t) = per t := by
  obtain ⟨c, d, p⟩ := t
  have h' := (tvB_iff c d p).1 h
  exact ⟨(tvB_iff c p p).2 (by omega), rfl, rfl, rfl⟩
theorem dem1_lat {t : T3} (h : tv t = true) (x : Nat) : dem1 (lat t) x = x / per t * cst t := by
  obtain ⟨_, h1, h2, h3⟩ := lat_tv h
  have hb := tv_bd h
  have hp : 0 < per t := by omega
  unfold dem1
  rw [h1, h2, h3]
  by_cases hx : per t ≤ x
  · rw [if_pos hx]
    congr 1
    obtain ⟨r, rfl⟩ : ∃ r, x = r + per t := ⟨x - per t, by omega⟩
    rw [Nat.add_sub_cancel, Nat.add_div_right _ hp]
  · rw [if_neg hx, Nat.div_eq_of_lt (by omega), Nat.zero_mul]
theorem hyp_map_lat (ts : List T3) : hyp (ts.map lat) = hyp ts := by
  induction ts using snoc_ind with
  | h0 => rfl
  | h1 l a ih => rw [List.map_append, List.map_cons, List.map_nil, hyp_snoc, hyp_snoc, ih]; rfl
theorem sv_map_lat {ts : List T3} (h : svB ts = true) : svB (ts.map lat) = true := by
  simp only [svB, Bool.and_eq_true, List.all_eq_true, decide_eq_true_eq] at h ⊢
  refine ⟨fun t ht => ?_, by rw [List.length_map]; exact h.2⟩
  obtain ⟨s, hs, rfl⟩ := List.mem_map.1 ht
  exact (lat_tv (h.1 s hs)).1
theorem dem_lat_le {ts : List T3} (h : ts.all tv = true) {H : Nat} (hd : ∀ t ∈ ts, per t ∣ H) (x : Nat) : dem (ts.map lat) x * H ≤ x * wrk H ts := by
  induction ts using snoc_ind with
  | h0 => simp [dem, wrk]
  | h1 l a ih =>
    rw [List.all_append, Bool.and_eq_true] at h
    have h1 := ih h.1 fun t ht => hd t (List.mem_append_left _ ht)
    have ha : tv a = true := by simpa using h.2
    have h2 : dem1 (lat a) x * H ≤ x * (cst a * (H / per a)) := by
      rw [dem1_lat ha]
      obtain ⟨q, hq⟩ := hd a (by simp)
      have hp : 0 < per a := by have := tv_bd ha; omega
      rw [hq, Nat.mul_div_cancel_left q hp]
      calc x / per a * cst a * (per a * q) = (x / per a * per a) * (cst a * q) := by ac_rfl
        _ ≤ x * (cst a * q) := Nat.mul_le_mul_right _ (Nat.div_mul_le_self x (per a))
    rw [List.map_append, List.map_cons, List.map_nil, dem_snoc, wrk_snoc, Nat.add_mul, Nat.mul_add]
    omega
theorem ut_le_iff {ts : List T3} (h : svB ts = true) : utN ts ≤ utD ts ↔ wrk (hyp ts) ts ≤ hyp ts := by
  have hH := hyp_bd ts (all_of_sv h)
  obtain ⟨_, d1, f1⟩ := frac_ut h hH.1
  constructor
  · intro hle
    have : utD ts * wrk (hyp ts) ts ≤ utD ts * hyp ts := by rw [← f1]; exact Nat.mul_le_mul_right _ hle
    exact Nat.le_of_mul_le_mul_left this d1
  · intro hle
    have : utN ts * hyp ts ≤ utD ts * hyp ts := by rw [f1]; exact Nat.mul_le_mul_left _ hle
    exact Nat.le_of_mul_le_mul_right this hH.1
theorem edf_ut {ts : List T3} (h : edf ts = true) : utN ts ≤ utD ts := by
  obtain ⟨hs, hk⟩ := edf_iff.1 h
  have hH := hyp_bd ts (all_of_sv hs)
  rw [ut_le_iff hs, ← dem_hyper (all_of_sv hs) (fun t ht => per_dvd_hyp ht) hH.1]
  exact hk _ hH.1 (Nat.le_refl _)
theorem wrk_map_lat (H : Nat) (ts : List T3) : wrk H (ts.map lat) = wrk H ts := by
  induction ts using snoc_ind with
  | h0 => rfl
  | h1 l a ih => rw [List.map_append, List.map_cons, List.map_nil, wrk_snoc, wrk_snoc, ih]; rfl
theorem edf_lat {ts : List T3} (h : svB ts = true) : edf (ts.map lat) = decide (utN ts ≤ utD ts) := by
  have hH := hyp_bd ts (all_of_sv h)
  rw [Bool.eq_iff_iff, decide_eq_true_eq, ut_le_iff h]
  constructor
  · intro he
    obtain ⟨hs, hk⟩ := edf_iff.1 he
    have h1 := hk (hyp ts) hH.1 (by rw [hyp_map_lat]; exact Nat.le_refl _)
    have h2 := dem_hyper (ts := ts.map lat) (H := hyp ts) (all_of_sv hs) (fun t ht => by rw [← hyp_map_lat]; exact per_dvd_hyp ht) hH.1
    rw [h2, wrk_map_lat] at h1
    exact h1
  · intro hle
    refine edf_iff.2 ⟨sv_map_lat h, fun x _ _ => ?_⟩
    have h1 := dem_lat_le (all_of_sv h) (H := hyp ts) (fun t ht => per_dvd_hyp ht) x
    have h2 : x * wrk (hyp ts) ts ≤ x * hyp ts := Nat.mul_le_mul_left _ hle
    exact Nat.le_of_mul_le_mul_right (Nat.le_trans h1 h2) hH.1
theorem div_add_le (a b p : Nat) : a / p + b / p ≤ (a + b) / p := by
  rcases Nat.eq_zero_or_pos p with e | e
  · subst e; simp
  · rw [Nat.le_div_iff_mul_le e, Nat.add_mul]
    exact Nat.add_le_add (Nat.div_mul_le_self a p) (Nat.div_mul_le_self b p)
theorem dem_lat_add {ts : List T3} (h : ts.all tv = true) (a b : Nat) : dem (ts.map lat) a + dem (ts.map lat) b ≤ dem (ts.map lat) (a + b) := by
  induction ts using snoc_ind with
  | h0 => simp [dem]
  | h1 l t ih =>
    rw [List.all_append, Bool.and_eq_true] at h
    have h1 := ih h.1
    have ht : tv t = true := by simpa using h.2
    have h2 : dem1 (lat t) a + dem1 (lat t) b ≤ dem1 (lat t) (a + b) := by
      rw [dem1_lat ht, dem1_lat ht, dem1_lat ht, ← Nat.add_mul]
      exact Nat.mul_le_mul_right _ (div_add_le a b (per t))
    rw [List.map_append, List.map_cons, List.map_nil, dem_snoc, dem_snoc, dem_snoc]
    omega

/-! ### The busy period -/
def wk1 (t : T3) (x : Nat) : Nat := (x + per t - 1) / per t * cst t
def wk (ts : List T3) (x : Nat) : Nat := ts.foldl (fun s t => s + wk1 t x) 0
theorem wk_snoc (ts : List T3) (t : T3) (x : Nat) : wk (ts ++ [t]) x = wk ts x + wk1 t x := by simp [wk]
theorem wk_mono (ts : List T3) {x y : Nat} (h : x ≤ y) : wk ts x ≤ wk ts y := dem_le_of ts wk1 wk1 x y fun t _ => by
  unfold wk1
  exact Nat.mul_le_mul_right _ (Nat.div_le_div_right (by omega))
theorem wk1_hyper {t : T3} {H : Nat} (h : tv t = true) (hd : per t ∣ H) : wk1 t H = cst t * (H / per t) := by
  have hb := tv_bd h
  obtain ⟨q, rfl⟩ := hd
  have hp : 0 < per t := by omega
  unfold wk1
  have e : per t * q + per t - 1 = (per t - 1) + per t * q := by omega
  rw [e, Nat.add_mul_div_left _ _ hp, Nat.div_eq_of_lt (by omega), Nat.zero_add, Nat.mul_div_cancel_left q hp, Nat.mul_comm]
theorem wk_hyper {ts : List T3} {H : Nat} (h : ts.all tv = true) (hd : ∀ t ∈ ts, per t ∣ H) : wk ts H = wrk H ts := by
  induction ts using snoc_ind with
  | h0 => rfl
  | h1 l a ih =>
    rw [List.all_append, Bool.and_eq_true] at h
    rw [wk_snoc, wrk_snoc, ih h.1 fun t ht => hd t (List.mem_append_left _ ht), wk1_hyper (by simpa using h.2) (hd a (by simp))]
theorem wk1_pos {t : T3} (h : tv t = true) {x : Nat} (hx : 1 ≤ x) : 1 ≤ wk1 t x := by
  have hb := tv_bd h
  unfold wk1
  have : 1 ≤ (x + per t - 1) / per t := Nat.div_pos (by omega) (by omega)
  exact Nat.mul_pos this hb.1
theorem wk_pos {ts : List T3} (h : ts.all tv = true) (hne : ts ≠ []) {x : Nat} (hx : 1 ≤ x) : 1 ≤ wk ts x := by
  match ts, hne with
  | t :: r, _ =>
    have h1 : wk (t :: r) x = wk1 t x + wk r x := by
      have : ∀ (r : List T3) (a : Nat), r.foldl (fun s t => s + wk1 t x) a = a + r.foldl (fun s t => s + wk1 t x) 0 := by
        intro r
        induction r with
        | nil => intro a; simp
        | cons b r ih => intro a; simp only [List.foldl_cons]; rw [ih (a + wk1 b x), ih (0 + wk1 b x)]; omega
      simp only [wk, List.foldl_cons]
      rw [this]
      omega
    have h2 : tv t = true := by
      rw [List.all_eq_true] at h
      exact h t (by simp)
    have := wk1_pos h2 hx
    omega
/-- The invariant of the iteration. -/
def Bz (ts : List T3) (w : Nat) : Prop := 1 ≤ w ∧ ∀ m, 1 ≤ m → m < w → m < wk ts m
theorem Bz.start {ts : List T3} (h : ts.all tv = true) (hne : ts ≠ []) : Bz ts (wk ts 1) :=
  ⟨wk_pos h hne (Nat.le_refl _), fun _ h1 h2 => Nat.lt_of_lt_of_le h2 (wk_mono ts h1)⟩
theorem Bz.ge {ts : List T3} (h : ts.all tv = true) (hne : ts ≠ []) {w : Nat} (hb : Bz ts w) : w ≤ wk ts w := by
  by_cases h1 : w = 1
  · subst h1; exact wk_pos h hne (Nat.le_refl _)
  · have h2 := hb.2 (w - 1) (by have := hb.1; omega) (by have := hb.1; omega)
    have h3 := wk_mono ts (show w - 1 ≤ w by omega)
    omega
theorem Bz.step {ts : List T3} (h : ts.all tv = true) (hne : ts ≠ []) {w : Nat} (hb : Bz ts w) : Bz ts (wk ts w) := by
  refine ⟨Nat.le_trans hb.1 (hb.ge h hne), fun m h1 h2 => ?_⟩
  by_cases hm : m < w
  · exact hb.2 m h1 hm
  · exact Nat.lt_of_lt_of_le h2 (wk_mono ts (by omega))
theorem Bz.le {ts : List T3} {H w : Nat} (hb : Bz ts w) (hH : 1 ≤ H) (hw : wk ts H ≤ H) : w ≤ H := by
  apply Classical.byContradiction
  intro hc
  have := hb.2 H hH (by omega)
  omega
theorem Bz.unique {ts : List T3} {v w : Nat} (hv : Bz ts v) (hw : Bz ts w) (ev : wk ts v = v) (ew : wk ts w = w) : v = w := by
  rcases Nat.lt_trichotomy v w with h | h | h
  · have := hw.2 v hv.1 h; omega
  · exact h
  · have := hv.2 w hw.1 h; omega
/-- The busy period is enough: what is demanded later is the work of the busy period and what is demanded in the rest. -/
theorem dem1_split {t : T3} (h : tv t = true) (w x : Nat) : dem1 t (w + x) ≤ wk1 t w + dem1 t x := by
  have hb := tv_bd h
  have hp : 0 < per t := by omega
  unfold wk1 dem1
  have hk := Nat.div_add_mod (w + per t - 1) (per t)
  have hkl := Nat.mod_lt (w + per t - 1) hp
  generalize (w + per t - 1) / per t = k at *
  have hwk : w ≤ per t * k := by omega
  by_cases h1 : dln t ≤ x
  · rw [if_pos (by omega), if_pos h1, ← Nat.add_mul]
    refine Nat.mul_le_mul_right _ ?_
    have : (w + x - dln t) / per t ≤ k + (x - dln t) / per t := by
      have e : (x - dln t) + per t * k = per t * k + (x - dln t) := Nat.add_comm _ _
      rw [Nat.add_comm k, ← Nat.add_mul_div_left _ _ hp]
      exact Nat.div_le_div_right (by omega)
    omega
  · rw [if_neg h1, Nat.add_zero]
    split
    · refine Nat.mul_le_mul_right _ ?_
      have : (w + x - dln t) / per t < k := by
        rw [Nat.div_lt_iff_lt_mul hp, Nat.mul_comm]
        omega
      omega
    · exact Nat.zero_le _
theorem dem_split {ts : List T3} (h : ts.all tv = true) (w x : Nat) : dem ts (w + x) ≤ wk ts w + dem ts x := by
  induction ts using snoc_ind with
  | h0 => simp [dem, wk]
  | h1 l a ih =>
    rw [List.all_append, Bool.and_eq_true] at h
    have h1 := ih h.1
    have h2 := dem1_split (t := a) (by simpa using h.2) w x
    rw [dem_snoc, dem_snoc, wk_snoc]
    omega
theorem busy_enough {ts : List T3} (h : svB ts = true) {w : Nat} (hb : Bz ts w) (ew : wk ts w = w) : fo ts ≤ w := by
  rcases fo_cases h with ⟨e, _⟩ | ⟨x, e, h1, h2, h3, h4⟩
  · omega
  · rw [e]
    apply Classical.byContradiction
    intro hc
    have hlt : w < x := by omega
    have hs := dem_split (all_of_sv h) w (x - w)
    rw [ew] at hs
    have e2 : w + (x - w) = x := by omega
    rw [e2] at hs
    have := h4 (x - w) (by omega) (by have := hb.1; omega)
    omega
end Go.Proofs.YtdgihkmiolnglaaGreatDoor

namespace Go.Proofs.YtdgihkmiolnglaaGreatDoor

/-! ### Sums over 0..n-1 -/
def sumN (f : Nat → Nat) : Nat → Nat
  | 0 => 0
  | n + 1 => sumN f n + f n
theorem sumN_le {f g : Nat → Nat} : ∀ {n : Nat}, (∀ i, i < n → f i ≤ g i) → sumN f n ≤ sumN g n
  | 0, _ => Nat.le_refl _
  | n + 1, h => Nat.add_le_add (sumN_le fun i hi => h i (by omega)) (h n (by omega))
theorem sumN_eq {f g : Nat → Nat} {n : Nat} (h : ∀ i, i < n → f i = g i) : sumN f n = sumN g n :=
  Nat.le_antisymm (sumN_le fun i hi => Nat.le_of_eq (h i hi)) (sumN_le fun i hi => Nat.le_of_eq (h i hi).symm)
theorem sumN_one {f g : Nat → Nat} {b x : Nat} : ∀ {n : Nat}, b < n → (∀ i, i < n → i ≠ b → g i = f i) → g b = f b + x → sumN g n = sumN f n + x
  | 0, hb, _, _ => absurd hb (Nat.not_lt_zero _)
  | n + 1, hb, h, hx => by
    simp only [sumN]
    by_cases e : b = n
    · subst e
      rw [hx, sumN_eq (f := g) (g := f) fun i hi => h i (by omega) (by omega)]
      omega
    · rw [sumN_one (n := n) (by omega) (fun i hi hne => h i (by omega) hne) hx, h n (by omega) (by omega)]
      omega
theorem sumN_mem {f : Nat → Nat} {m : Nat} : ∀ {n : Nat}, m < n → f m ≤ sumN f n
  | 0, h => absurd h (Nat.not_lt_zero _)
  | n + 1, h => by
    simp only [sumN]
    by_cases e : m = n
    · subst e
      omega
    · have := sumN_mem (f := f) (n := n) (by omega : m < n)
      omega
theorem sumN_zero {f : Nat → Nat} {n : Nat} (h : ∀ i, i < n → f i = 0) : sumN f n = 0 := by
  rw [sumN_eq (g := fun _ => 0) h]
  induction n with
  | zero => rfl
  | succ n ih => simp only [sumN]; rw [ih fun i hi => h i (by omega)]

/-! ### The best job -/
def best (rel left key : Nat → Nat) (now : Nat) : Nat → Option Nat
  | 0 => none
  | k + 1 => match best rel left key now k with
    | none => if rel k ≤ now ∧ 0 < left k then some k else none
    | some b => if rel k ≤ now ∧ 0 < left k ∧ key k < key b then some k else some b
theorem best_none {rel left key : Nat → Nat} {now : Nat} : ∀ {n : Nat}, best rel left key now n = none → ∀ i, i < n → ¬ (rel i ≤ now ∧ 0 < left i)
  | 0, _, i, hi => absurd hi (Nat.not_lt_zero _)
  | n + 1, h, i, hi => by
    simp only [best] at h
    cases hb : best rel left key now n with
    | none =>
      rw [hb] at h
      simp only at h
      split at h
      · simp at h
      · by_cases e : i = n
        · subst e; assumption
        · exact best_none hb i (by omega)
    | some b =>
      rw [hb] at h
      simp only at h
      split at h <;> simp at h
theorem best_some {rel left key : Nat → Nat} {now b : Nat} : ∀ {n : Nat}, best rel left key now n = some b →
    b < n ∧ rel b ≤ now ∧ 0 < left b ∧ ∀ i, i < n → rel i ≤ now → 0 < left i → key b < key i ∨ (key b = key i ∧ b ≤ i)
  | 0, h => by simp [best] at h
  | n + 1, h => by
    simp only [best] at h
    cases hb : best rel left key now n with
    | none =>
      rw [hb] at h
      simp only at h
      split at h
      · rename_i hr
        obtain rfl : n = b := by simpa using h
        refine ⟨by omega, hr.1, hr.2, fun i hi h1 h2 => ?_⟩
        by_cases e : i = n
        · subst e; exact .inr ⟨rfl, Nat.le_refl _⟩
        · exact absurd ⟨h1, h2⟩ (best_none hb i (by omega))
      · simp at h
    | some c =>
      rw [hb] at h
      simp only at h
      obtain ⟨c1, c2, c3, c4⟩ := best_some hb
      split at h
      · rename_i hr
        obtain rfl : n = b := by simpa using h
        refine ⟨by omega, hr.1, hr.2.1, fun i hi h1 h2 => ?_⟩
        by_cases e : i = n
        · subst e; exact .inr ⟨rfl, Nat.le_refl _⟩
        · rcases c4 i (by omega) h1 h2 with h | ⟨h, _⟩ <;> exact .inl (by omega)
      · rename_i hr
        obtain rfl : c = b := by simpa using h
        refine ⟨by omega, c2, c3, fun i hi h1 h2 => ?_⟩
        by_cases e : i = n
        · subst e
          have : ¬ key i < key c := fun hk => hr ⟨h1, h2, hk⟩
          by_cases e2 : key c = key i
          · exact .inr ⟨e2, by omega⟩
          · exact .inl (by omega)
        · exact c4 i (by omega) h1 h2

/-! ### The simulation -/
structure Pat where
  n : Nat
  rel : Nat → Nat
  ex : Nat → Nat
  key : Nat → Nat
/-- The work left of each job at a time. -/
def Pat.left (P : Pat) : Nat → Nat → Nat
  | 0 => P.ex
  | t + 1 => fun i => if best P.rel (P.left t) P.key t P.n = some i then P.left t i - 1 else P.left t i
def Pat.run (P : Pat) (t : Nat) : Option Nat := best P.rel (P.left t) P.key t P.n
/-- The finish times as far as they are known at a time. -/
def Pat.fin (P : Pat) : Nat → Nat → Int
  | 0 => fun _ => -1
  | t + 1 => fun i => if P.run t = some i ∧ P.left (t + 1) i = 0 then (t : Int) + 1 else P.fin t i
theorem Pat.left_succ (P : Pat) (t i : Nat) : P.left (t + 1) i = if P.run t = some i then P.left t i - 1 else P.left t i := rfl
theorem Pat.fin_succ (P : Pat) (t i : Nat) : P.fin (t + 1) i = if P.run t = some i ∧ P.left (t + 1) i = 0 then (t : Int) + 1 else P.fin t i := rfl
theorem Pat.left_le (P : Pat) (t i : Nat) : P.left (t + 1) i ≤ P.left t i := by
  rw [P.left_succ]
  split <;> omega
theorem Pat.left_mono (P : Pat) (i : Nat) {s t : Nat} (h : s ≤ t) : P.left t i ≤ P.left s i := by
  induction t with
  | zero => obtain rfl : s = 0 := by omega
            exact Nat.le_refl _
  | succ t ih =>
    by_cases e : s = t + 1
    · subst e; exact Nat.le_refl _
    · exact Nat.le_trans (P.left_le t i) (ih (by omega))
theorem Pat.left_ex (P : Pat) (t i : Nat) : P.left t i ≤ P.ex i := P.left_mono i (Nat.zero_le t)
theorem Pat.run_pos {P : Pat} {t i : Nat} (h : P.run t = some i) : i < P.n ∧ P.rel i ≤ t ∧ 0 < P.left t i := by
  obtain ⟨h1, h2, h3, _⟩ := best_some h
  exact ⟨h1, h2, h3⟩
/-- Unfinished jobs have no finish time; a finished one has the time at which its last tick ended. -/
theorem Pat.fin_open (P : Pat) {t i : Nat} (h : 0 < P.left t i) : P.fin t i = -1 := by
  induction t with
  | zero => rfl
  | succ t ih =>
    rw [P.fin_succ, if_neg (by rintro ⟨_, h0⟩; omega)]
    exact ih (Nat.lt_of_lt_of_le h (P.left_le t i))
theorem Pat.fin_done (P : Pat) {t i : Nat} (hx : 0 < P.ex i) (h : P.left t i = 0) : ∃ f : Nat, P.fin t i = (f : Int) + 1 ∧ f < t ∧ P.run f = some i ∧ P.left (f + 1) i = 0 ∧ P.left f i = 1 := by
  induction t with
  | zero => exact absurd h (by simp only [Pat.left]; omega)
  | succ t ih =>
    by_cases h0 : P.left t i = 0
    · obtain ⟨f, h1, h2, h3⟩ := ih h0
      refine ⟨f, ?_, by omega, h3⟩
      rw [P.fin_succ, if_neg]
      · exact h1
      · rintro ⟨hr, _⟩
        have := (P.run_pos hr).2.2
        omega
    · have hr : P.run t = some i := by
        rw [P.left_succ] at h
        split at h
        · assumption
        · exact absurd h h0
      refine ⟨t, ?_, by omega, hr, h, ?_⟩
      · rw [P.fin_succ, if_pos ⟨hr, h⟩]
      · rw [P.left_succ, if_pos hr] at h
        omega
/-- Finished by D: nothing is left at D. -/
theorem Pat.fin_by (P : Pat) {T D i : Nat} (hx : 0 < P.ex i) (hD : D ≤ T) : (0 ≤ P.fin T i ∧ P.fin T i ≤ D) ↔ P.left D i = 0 := by
  constructor
  · rintro ⟨h0, h1⟩
    by_cases h : P.left T i = 0
    · obtain ⟨f, e, _, _, hl, _⟩ := P.fin_done hx h
      have := P.left_mono i (show f + 1 ≤ D by omega)
      omega
    · rw [P.fin_open (by omega)] at h0
      omega
  · intro h
    have hT : P.left T i = 0 := by have := P.left_mono i hD; omega
    obtain ⟨f, e, _, _, _, hl⟩ := P.fin_done hx hT
    have : f < D := by
      by_cases hf : D ≤ f
      · have := P.left_mono i hf
        omega
      · omega
    rw [e]
    omega

/-! ### The window in which too much is asked -/
/-- What is left of the jobs with a key of at most D. -/
def Pat.due (P : Pat) (D t : Nat) : Nat := sumN (fun i => if P.key i ≤ D then P.left t i else 0) P.n
theorem Pat.due_run {P : Pat} {D t b : Nat} (h : P.run t = some b) (hb : P.key b ≤ D) : P.due D t = P.due D (t + 1) + 1 := by
  obtain ⟨h1, _, h3⟩ := P.run_pos h
  refine sumN_one (b := b) h1 (fun i hi hne => ?_) ?_
  · have e : P.left (t + 1) i = P.left t i := by rw [P.left_succ, if_neg (by rw [h]; simpa using fun e => hne e.symm)]
    show (if P.key i ≤ D then P.left t i else 0) = if P.key i ≤ D then P.left (t + 1) i else 0
    rw [e]
  · rw [if_pos hb, if_pos hb, P.left_succ, if_pos h]
    omega
theorem Pat.window (P : Pat) (D t : Nat) : ∃ s, s ≤ t ∧ (∀ i, i < P.n → P.key i ≤ D → P.rel i < s → P.left s i = 0) ∧ P.due D s = P.due D t + (t - s) := by
  induction t with
  | zero => exact ⟨0, Nat.le_refl _, fun i _ _ h => absurd h (Nat.not_lt_zero _), by omega⟩
  | succ t ih =>
    by_cases hc : ∃ b, P.run t = some b ∧ P.key b ≤ D
    · obtain ⟨b, h1, h2⟩ := hc
      obtain ⟨s, hs, h3, h4⟩ := ih
      have := P.due_run h1 h2
      exact ⟨s, by omega, h3, by omega⟩
    · refine ⟨t + 1, Nat.le_refl _, fun i hi hk hr => ?_, by omega⟩
      have hz : P.left t i = 0 := by
        by_cases h0 : P.left t i = 0
        · exact h0
        · cases hb : P.run t with
          | none => exact absurd ⟨by omega, by omega⟩ (best_none hb i hi)
          | some b =>
            obtain ⟨_, _, _, h4⟩ := best_some hb
            refine absurd ⟨b, hb, ?_⟩ hc
            rcases h4 i hi (by omega) (by omega) with h | ⟨h, _⟩ <;> omega
      have := P.left_le t i
      omega
/-- A job with a key of at most D that is unfinished at D: more is asked within some window [s, D) than fits. -/
theorem Pat.late (P : Pat) {D m : Nat} (hm : m < P.n) (hk : P.key m ≤ D) (hl : 0 < P.left D m) :
    ∃ s, s ≤ D ∧ D - s < sumN (fun i => if s ≤ P.rel i ∧ P.key i ≤ D then P.ex i else 0) P.n := by
  obtain ⟨s, hs, h1, h2⟩ := P.window D D
  refine ⟨s, hs, ?_⟩
  have h3 : 1 ≤ P.due D D := Nat.le_trans (by rw [if_pos hk]; omega) (sumN_mem (f := fun i => if P.key i ≤ D then P.left D i else 0) hm)
  have h4 : P.due D s ≤ sumN (fun i => if s ≤ P.rel i ∧ P.key i ≤ D then P.ex i else 0) P.n := sumN_le fun i hi => by
    by_cases hk : P.key i ≤ D
    · by_cases hr : s ≤ P.rel i
      · rw [if_pos hk, if_pos ⟨hr, hk⟩]
        exact P.left_ex s i
      · rw [if_pos hk, h1 i hi hk (by omega)]
        exact Nat.zero_le _
    · rw [if_neg hk]
      exact Nat.zero_le _
  omega

/-! ### The ticks of a job; the past -/
/-- How often job i ran before T. -/
def Pat.ran (P : Pat) (i : Nat) (T : Nat) : Nat := sumN (fun t => if P.run t = some i then 1 else 0) T
theorem Pat.ran_left (P : Pat) (i T : Nat) : P.ran i T + P.left T i = P.ex i := by
  induction T with
  | zero => simp [Pat.ran, sumN, Pat.left]
  | succ T ih =>
    have e : P.ran i (T + 1) = P.ran i T + if P.run T = some i then 1 else 0 := rfl
    rw [e, P.left_succ]
    by_cases h : P.run T = some i
    · have := (P.run_pos h).2.2
      rw [if_pos h, if_pos h]
      omega
    · rw [if_neg h, if_neg h]
      omega
theorem best_more {rel left key rel' left' key' : Nat → Nat} {now m : Nat} (h : ∀ i, i < m → rel i = rel' i ∧ left i = left' i ∧ key i = key' i) : best rel left key now m = best rel' left' key' now m := by
  induction m with
  | zero => rfl
  | succ m ih =>
    have e := ih fun i hi => h i (by omega)
    obtain ⟨h1, h2, h3⟩ := h m (by omega)
    simp only [best]
    rw [e]
    cases hb : best rel' left' key' now m with
    | none => simp only; rw [h1, h2]
    | some b =>
      simp only
      obtain ⟨_, _, hk⟩ := h b (by have := (best_some hb).1; omega)
      rw [h1, h2, h3, hk]
theorem best_late {rel left key : Nat → Nat} {now m : Nat} : ∀ {n : Nat}, m ≤ n → (∀ i, m ≤ i → i < n → now < rel i) → best rel left key now n = best rel left key now m
  | 0, h, _ => by obtain rfl : m = 0 := by omega
                  rfl
  | n + 1, h, hr => by
    by_cases e : m = n + 1
    · subst e; rfl
    · have ih := best_late (rel := rel) (left := left) (key := key) (now := now) (m := m) (n := n) (by omega) fun i h1 h2 => hr i h1 (by omega)
      have hn := hr n (by omega) (by omega)
      rw [← ih]
      simp only [best]
      cases best rel left key now n with
      | none => simp only; rw [if_neg (by rintro ⟨h, _⟩; omega)]
      | some b => simp only; rw [if_neg (by rintro ⟨h, _⟩; omega)]
/-- Jobs that are released at T or later leave what runs before T as it is. -/
theorem Pat.past {P Q : Pat} {T : Nat} (hn : Q.n ≤ P.n) (h : ∀ i, i < Q.n → P.rel i = Q.rel i ∧ P.ex i = Q.ex i ∧ P.key i = Q.key i) (hr : ∀ i, Q.n ≤ i → i < P.n → T ≤ P.rel i) :
    ∀ t, t ≤ T → (∀ i, i < Q.n → P.left t i = Q.left t i) ∧ ∀ s, s < t → P.run s = Q.run s := by
  intro t
  induction t with
  | zero => exact fun _ => ⟨fun i hi => (h i hi).2.1, fun s hs => absurd hs (Nat.not_lt_zero _)⟩
  | succ t ih =>
    intro ht
    obtain ⟨i1, i2⟩ := ih (by omega)
    have e : P.run t = Q.run t := by
      show best P.rel (P.left t) P.key t P.n = best Q.rel (Q.left t) Q.key t Q.n
      rw [best_late hn fun i h1 h2 => by have := hr i h1 h2; omega]
      exact best_more fun i hi => ⟨(h i hi).1, i1 i hi, (h i hi).2.2⟩
    refine ⟨fun i hi => ?_, fun s hs => ?_⟩
    · rw [P.left_succ, Q.left_succ, e, i1 i hi]
    · by_cases hst : s = t
      · subst hst; exact e
      · exact i2 s (by omega)

end Go.Proofs.YtdgihkmiolnglaaGreatDoor

namespace Go.Proofs.YtdgihkmiolnglaaGreatDoor

/-- A job: task, release, deadline, execution time. -/
abbrev J4 := Int × Int × Int × Int
def jb (js : List J4) (k : Nat) : J4 := js.getD k (0, 0, 0, 0)
def jid (js : List J4) (k : Nat) : Nat := (jb js k).1.toNat
def jrel (js : List J4) (k : Nat) : Nat := (jb js k).2.1.toNat
def jdl (js : List J4) (k : Nat) : Nat := (jb js k).2.2.1.toNat
def jex (js : List J4) (k : Nat) : Nat := (jb js k).2.2.2.toNat
def tk (ts : List T3) (i : Nat) : T3 := ts.getD i (0, 0, 0)
/-- Behind the first k jobs: from when on a task may release again. -/
def nx (ts : List T3) (js : List J4) : Nat → Nat → Nat
  | 0 => fun _ => 0
  | k + 1 => fun i => if jid js k = i then jrel js k + per (tk ts i) else nx ts js k i
/-- Job k is fine behind the jobs before it. -/
def Leg1 (ts : List T3) (js : List J4) (k : Nat) : Prop :=
  (0 ≤ (jb js k).1 ∧ (jb js k).1 < ts.length) ∧ (0 ≤ (jb js k).2.1 ∧ (jb js k).2.1 ≤ 119) ∧ (nx ts js k (jid js k) : Int) ≤ (jb js k).2.1 ∧
  (jb js k).2.2.1 = (jb js k).2.1 + (tk ts (jid js k)).2.1 ∧ (1 ≤ (jb js k).2.2.2 ∧ (jb js k).2.2.2 ≤ (tk ts (jid js k)).1) ∧
  (k = 0 ∨ (jb js (k - 1)).2.1 < (jb js k).2.1 ∨ ((jb js (k - 1)).2.1 = (jb js k).2.1 ∧ (jb js (k - 1)).1 < (jb js k).1))
instance (ts : List T3) (js : List J4) (k : Nat) : Decidable (Leg1 ts js k) := by unfold Leg1; infer_instance
/-- A legal release pattern. -/
def legB (ts : List T3) (js : List J4) : Bool := svB ts && decide (js.length ≤ 60) && (List.range js.length).all fun k => decide (Leg1 ts js k)
theorem legB_iff {ts : List T3} {js : List J4} : legB ts js = true ↔ svB ts = true ∧ js.length ≤ 60 ∧ ∀ k, k < js.length → Leg1 ts js k := by
  simp only [legB, Bool.and_eq_true, decide_eq_true_eq, List.all_eq_true, List.mem_range, and_assoc]

theorem tk_tv {ts : List T3} (h : ts.all tv = true) {i : Nat} (hi : i < ts.length) : tv (tk ts i) = true := by
  rw [List.all_eq_true] at h
  have e : tk ts i = ts[i] := by simp [tk, hi]
  rw [e]
  exact h _ (List.getElem_mem hi)
/-- A legal job in natural numbers. -/
theorem Leg1.nat {ts : List T3} {js : List J4} {k : Nat} (h : Leg1 ts js k) (hv : ts.all tv = true) :
    jid js k < ts.length ∧ tv (tk ts (jid js k)) = true ∧ nx ts js k (jid js k) ≤ jrel js k ∧ jrel js k ≤ 119 ∧ jdl js k = jrel js k + dln (tk ts (jid js k)) ∧ 1 ≤ jex js k ∧ jex js k ≤ cst (tk ts (jid js k)) := by
  obtain ⟨⟨a1, a2⟩, ⟨b1, b2⟩, c, d, ⟨e1, e2⟩, _⟩ := h
  have hi : jid js k < ts.length := by simp only [jid]; omega
  have ht := tk_tv hv hi
  have hb := tv_bd ht
  refine ⟨hi, ht, ?_⟩
  simp only [jrel, jdl, jex]
  omega

/-! ### How much a legal pattern asks within a window -/
theorem sum_dem (ts : List T3) (x : Nat) : dem ts x = sumN (fun i => dem1 (tk ts i) x) ts.length := by
  induction ts using snoc_ind with
  | h0 => rfl
  | h1 l a ih =>
    rw [dem_snoc, ih, List.length_append, List.length_singleton]
    simp only [sumN]
    congr 1
    · refine sumN_eq fun i hi => ?_
      have : tk (l ++ [a]) i = tk l i := by
        simp only [tk, List.getD_eq_getElem?_getD]
        rw [List.getElem?_append_left hi]
      rw [this]
    · have : tk (l ++ [a]) l.length = a := by simp [tk]
      rw [this]
/-- Of the first k jobs, those of task i within [s, D]. -/
def cn (js : List J4) (s D : Nat) : Nat → Nat → Nat
  | 0 => fun _ => 0
  | k + 1 => fun i => if jid js k = i ∧ s ≤ jrel js k ∧ jdl js k ≤ D then cn js s D k i + 1 else cn js s D k i
theorem cn_bd {ts : List T3} {js : List J4} (hv : ts.all tv = true) {s D : Nat} : ∀ {k : Nat}, (∀ j, j < k → Leg1 ts js j) → ∀ i,
    cn js s D k i = 0 ∨ (1 ≤ cn js s D k i ∧ s + cn js s D k i * per (tk ts i) ≤ nx ts js k i ∧ s + (cn js s D k i - 1) * per (tk ts i) + dln (tk ts i) ≤ D)
  | 0, _, _ => .inl rfl
  | k + 1, h, i => by
    have ih := cn_bd hv (s := s) (D := D) (k := k) (fun j hj => h j (by omega)) i
    have hl := (h k (by omega)).nat hv
    obtain ⟨h1, h2, h3, h4, h5, h6⟩ := hl
    by_cases hi : jid js k = i
    · subst hi
      have hn : nx ts js (k + 1) (jid js k) = jrel js k + per (tk ts (jid js k)) := by simp only [nx, if_true]
      rw [hn]
      by_cases hc : s ≤ jrel js k ∧ jdl js k ≤ D
      · have hc' : cn js s D (k + 1) (jid js k) = cn js s D k (jid js k) + 1 := by simp only [cn]; rw [if_pos ⟨trivial, hc⟩]
        rw [hc']
        refine .inr ⟨by omega, ?_, ?_⟩
        · rw [Nat.succ_mul]
          rcases ih with e | ⟨_, e, _⟩
          · rw [e]; omega
          · omega
        · rw [Nat.add_sub_cancel]
          rcases ih with e | ⟨_, e, _⟩
          · rw [e]; omega
          · omega
      · have hc' : cn js s D (k + 1) (jid js k) = cn js s D k (jid js k) := by simp only [cn]; rw [if_neg (by rintro ⟨_, h⟩; exact hc h)]
        rw [hc']
        rcases ih with e | ⟨e0, e1, e2⟩
        · exact .inl e
        · exact .inr ⟨e0, by omega, e2⟩
    · have hn : nx ts js (k + 1) i = nx ts js k i := by simp only [nx]; rw [if_neg hi]
      have hc' : cn js s D (k + 1) i = cn js s D k i := by simp only [cn]; rw [if_neg (by rintro ⟨h, _⟩; exact hi h)]
      rw [hn, hc']
      exact ih
theorem cn_dem {ts : List T3} {js : List J4} (hv : ts.all tv = true) {s D k : Nat} (h : ∀ j, j < k → Leg1 ts js j) {i : Nat} (hi : i < ts.length) : cn js s D k i * cst (tk ts i) ≤ dem1 (tk ts i) (D - s) := by
  have hb := tv_bd (tk_tv hv hi)
  rcases cn_bd hv (s := s) (D := D) h i with e | ⟨e0, _, e2⟩
  · rw [e]
    simp
  · unfold dem1
    rw [if_pos (by omega)]
    refine Nat.mul_le_mul_right _ ?_
    have : cn js s D k i - 1 ≤ (D - s - dln (tk ts i)) / per (tk ts i) := by
      rw [Nat.le_div_iff_mul_le (by omega)]
      omega
    omega
theorem asked {ts : List T3} {js : List J4} (hv : ts.all tv = true) {s D : Nat} : ∀ {k : Nat}, (∀ j, j < k → Leg1 ts js j) →
    sumN (fun i => if s ≤ jrel js i ∧ jdl js i ≤ D then jex js i else 0) k ≤ sumN (fun i => cn js s D k i * cst (tk ts i)) ts.length
  | 0, _ => by simp [sumN]
  | k + 1, h => by
    have ih := asked hv (s := s) (D := D) (k := k) (fun j hj => h j (by omega))
    obtain ⟨h1, h2, h3, h4, h5, h6, h7⟩ := (h k (by omega)).nat hv
    simp only [sumN]
    by_cases hc : s ≤ jrel js k ∧ jdl js k ≤ D
    · rw [if_pos hc]
      have := sumN_one (f := fun i => cn js s D k i * cst (tk ts i)) (g := fun i => cn js s D (k + 1) i * cst (tk ts i)) (x := cst (tk ts (jid js k))) h1
        (fun i _ hne => by
          have : cn js s D (k + 1) i = cn js s D k i := by simp only [cn]; rw [if_neg (by rintro ⟨h, _⟩; exact hne h.symm)]
          show cn js s D (k + 1) i * _ = cn js s D k i * _
          rw [this])
        (by
          have : cn js s D (k + 1) (jid js k) = cn js s D k (jid js k) + 1 := by simp only [cn]; rw [if_pos ⟨trivial, hc⟩]
          show cn js s D (k + 1) (jid js k) * _ = cn js s D k (jid js k) * _ + _
          rw [this, Nat.succ_mul])
      rw [this]
      omega
    · rw [if_neg hc]
      have : sumN (fun i => cn js s D (k + 1) i * cst (tk ts i)) ts.length = sumN (fun i => cn js s D k i * cst (tk ts i)) ts.length := sumN_eq fun i _ => by
        have : cn js s D (k + 1) i = cn js s D k i := by simp only [cn]; rw [if_neg (by rintro ⟨_, h⟩; exact hc h)]
        rw [this]
      rw [this]
      omega
theorem asked_dem {ts : List T3} {js : List J4} (h : legB ts js = true) (s D : Nat) :
    sumN (fun i => if s ≤ jrel js i ∧ jdl js i ≤ D then jex js i else 0) js.length ≤ dem ts (D - s) := by
  obtain ⟨hv, _, hl⟩ := legB_iff.1 h
  rw [sum_dem]
  exact Nat.le_trans (asked (all_of_sv hv) hl) (sumN_le fun i hi => cn_dem (all_of_sv hv) hl hi)

/-! ### An accepted task set -/
theorem edf_any {ts : List T3} (h : edf ts = true) (x : Nat) : dem ts x ≤ x := by
  obtain ⟨hv, hk⟩ := edf_iff.1 h
  have hall := all_of_sv hv
  have hb := hyp_bd ts hall
  have hH : wk ts (hyp ts) ≤ hyp ts := by
    rw [wk_hyper hall fun t ht => per_dvd_hyp ht, ← dem_hyper hall (fun t ht => per_dvd_hyp ht) hb.1]
    exact hk _ hb.1 (Nat.le_refl _)
  induction x using Nat.strongRecOn with
  | ind x ih =>
    by_cases h0 : x = 0
    · subst h0
      rw [dem_zero ts hall]
      exact Nat.le_refl _
    · by_cases h1 : x ≤ hyp ts
      · exact hk x (by omega) h1
      · have h2 := dem_split hall (hyp ts) (x - hyp ts)
        have h3 := ih (x - hyp ts) (by omega)
        rw [show hyp ts + (x - hyp ts) = x by omega] at h2
        omega
/-- The simulation by earliest deadlines. -/
def edfP (js : List J4) : Pat := ⟨js.length, jrel js, jex js, jdl js⟩
/-- Promise 1: nothing is left of a job at its deadline. -/
theorem edf_safe {ts : List T3} {js : List J4} (h : edf ts = true) (hl : legB ts js = true) {m : Nat} (hm : m < js.length) : (edfP js).left (jdl js m) m = 0 := by
  apply Classical.byContradiction
  intro hne
  obtain ⟨s, hs, h1⟩ := (edfP js).late (D := jdl js m) (m := m) hm (Nat.le_refl _) (by omega)
  have h2 := asked_dem hl s (jdl js m)
  have h3 := edf_any h (jdl js m - s)
  have h4 : sumN (fun i => if s ≤ (edfP js).rel i ∧ (edfP js).key i ≤ jdl js m then (edfP js).ex i else 0) (edfP js).n = sumN (fun i => if s ≤ jrel js i ∧ jdl js i ≤ jdl js m then jex js i else 0) js.length := rfl
  omega

end Go.Proofs.YtdgihkmiolnglaaGreatDoor

namespace Go.Proofs.YtdgihkmiolnglaaGreatDoor

theorem jb_app {o : List J4} {x : J4} {k : Nat} (h : k < o.length) : jb (o ++ [x]) k = jb o k := by
  simp only [jb, List.getD_eq_getElem?_getD]
  rw [List.getElem?_append_left h]
theorem jb_last (o : List J4) (x : J4) : jb (o ++ [x]) o.length = x := by simp [jb]
theorem nx_app {ts : List T3} {o : List J4} {x : J4} : ∀ {k : Nat}, k ≤ o.length → nx ts (o ++ [x]) k = nx ts o k
  | 0, _ => rfl
  | k + 1, h => by
    funext i
    have e1 : jid (o ++ [x]) k = jid o k := by simp only [jid]; rw [jb_app (by omega)]
    have e2 : jrel (o ++ [x]) k = jrel o k := by simp only [jrel]; rw [jb_app (by omega)]
    simp only [nx]
    rw [nx_app (by omega), e1, e2]
theorem leg_app {ts : List T3} {o : List J4} {x : J4} {k : Nat} (hk : k < o.length) (h : Leg1 ts o k) : Leg1 ts (o ++ [x]) k := by
  unfold Leg1 at h ⊢
  simp only [jid] at h ⊢
  rw [jb_app hk, nx_app (by omega), jb_app (by omega : k - 1 < o.length)]
  exact h

/-- The job that a task releases at t. -/
def syJ (ts : List T3) (t i : Nat) : J4 := ((i : Int), (t : Int), (t : Int) + (tk ts i).2.1, (tk ts i).1)
/-- Whether it is in the pattern, apart from its length. -/
def syC (ts : List T3) (L t i : Nat) : Bool := decide (t % per (tk ts i) = 0) && decide (t + dln (tk ts i) ≤ L)
def syI (ts : List T3) (L t : Nat) (acc : List J4) : Nat → List J4
  | 0 => acc
  | i + 1 => if syC ts L t i = true ∧ (syI ts L t acc i).length < 60 then syI ts L t acc i ++ [syJ ts t i] else syI ts L t acc i
def sy (ts : List T3) (L : Nat) : Nat → List J4
  | 0 => []
  | t + 1 => syI ts L t (sy ts L t) ts.length

structure Sy (ts : List T3) (L t i : Nat) (o : List J4) : Prop where
  len : o.length ≤ 60
  leg : ∀ k, k < o.length → Leg1 ts o k
  dl : ∀ k, k < o.length → (jb o k).2.2.1 ≤ L ∧ (jb o k).2.2.2 = (tk ts (jid o k)).1
  last : ∀ k, k < o.length → (jb o k).2.1 < t ∨ ((jb o k).2.1 = t ∧ (jb o k).1 < i)
  nxm : ∀ m, m < ts.length → nx ts o o.length m % per (tk ts m) = 0 ∧ nx ts o o.length m ≤ t + per (tk ts m) ∧ (i ≤ m → nx ts o o.length m < t + per (tk ts m))
theorem Sy.next {ts : List T3} {L t i : Nat} {o : List J4} (h : Sy ts L t i o) : Sy ts L (t + 1) 0 o :=
  ⟨h.len, h.leg, h.dl, fun k hk => by
    rcases h.last k hk with e | ⟨e, _⟩
    · exact .inl (by omega)
    · exact .inl (by omega), fun m hm => by
    obtain ⟨h1, h2, _⟩ := h.nxm m hm
    exact ⟨h1, by omega, fun _ => by omega⟩⟩
theorem Sy.skip {ts : List T3} {L t i : Nat} {o : List J4} (h : Sy ts L t i o) : Sy ts L t (i + 1) o :=
  ⟨h.len, h.leg, h.dl, fun k hk => by
    rcases h.last k hk with e | ⟨e, e2⟩
    · exact .inl e
    · exact .inr ⟨e, by omega⟩, fun m hm => by
    obtain ⟨h1, h2, h3⟩ := h.nxm m hm
    exact ⟨h1, h2, fun hm => h3 (by omega)⟩⟩
theorem Sy.add {ts : List T3} {L t i : Nat} {o : List J4} (h : Sy ts L t i o) (hv : ts.all tv = true) (hi : i < ts.length) (ht : t < L) (hL : L ≤ 120) (hc : syC ts L t i = true) (hl : o.length < 60) : Sy ts L t (i + 1) (o ++ [syJ ts t i]) := by
  simp only [syC, Bool.and_eq_true, decide_eq_true_eq] at hc
  have hb := tv_bd (tk_tv hv hi)
  have hid : jid (o ++ [syJ ts t i]) o.length = i := by simp [jid, jb_last, syJ]
  have hrel : jrel (o ++ [syJ ts t i]) o.length = t := by simp [jrel, jb_last, syJ]
  obtain ⟨n1, n2, n3⟩ := h.nxm i hi
  have n4 : nx ts o o.length i ≤ t := by
    have n3 := n3 (Nat.le_refl _)
    obtain ⟨a, ha⟩ := Nat.dvd_of_mod_eq_zero n1
    obtain ⟨b, hb2⟩ := Nat.dvd_of_mod_eq_zero hc.1
    rw [ha] at n3 ⊢
    rw [hb2] at n3 ⊢
    refine Nat.mul_le_mul_left _ ?_
    rw [← Nat.mul_succ] at n3
    have := Nat.lt_of_mul_lt_mul_left n3
    omega
  have hnx : ∀ m, nx ts (o ++ [syJ ts t i]) (o ++ [syJ ts t i]).length m = if i = m then t + per (tk ts m) else nx ts o o.length m := by
    intro m
    rw [List.length_append, List.length_singleton]
    simp only [nx]
    rw [hid, hrel, nx_app (Nat.le_refl _)]
  refine ⟨by simp; omega, fun k hk => ?_, fun k hk => ?_, fun k hk => ?_, fun m hm => ?_⟩
  · by_cases e : k < o.length
    · exact leg_app e (h.leg k e)
    · obtain rfl : k = o.length := by simp at hk; omega
      unfold Leg1
      rw [hid, nx_app (Nat.le_refl _), jb_last]
      refine ⟨⟨by simp [syJ], by simp [syJ]; omega⟩, ⟨by simp [syJ], by simp [syJ]; omega⟩, by simp [syJ]; omega, rfl, ⟨by simp [syJ]; omega, Int.le_refl _⟩, ?_⟩
      by_cases e0 : o.length = 0
      · exact .inl e0
      · rw [jb_app (by omega : o.length - 1 < o.length)]
        rcases h.last (o.length - 1) (by omega) with e | ⟨e, e2⟩
        · exact .inr (.inl e)
        · exact .inr (.inr ⟨e, e2⟩)
  · by_cases e : k < o.length
    · have := h.dl k e
      simp only [jid] at this ⊢
      rw [jb_app e]
      exact this
    · obtain rfl : k = o.length := by simp at hk; omega
      rw [hid, jb_last]
      exact ⟨by simp only [syJ]; omega, rfl⟩
  · by_cases e : k < o.length
    · rw [jb_app e]
      rcases h.last k e with e | ⟨e, e2⟩
      · exact .inl e
      · exact .inr ⟨e, by omega⟩
    · obtain rfl : k = o.length := by simp at hk; omega
      rw [jb_last]
      exact .inr ⟨rfl, by simp only [syJ]; omega⟩
  · rw [hnx m]
    by_cases e : i = m
    · subst e
      rw [if_pos rfl]
      exact ⟨by rw [Nat.add_mod_right]; exact hc.1, Nat.le_refl _, fun h => by omega⟩
    · rw [if_neg e]
      obtain ⟨h1, h2, h3⟩ := h.nxm m hm
      exact ⟨h1, h2, fun h => h3 (by omega)⟩
theorem Sy.start {ts : List T3} {L : Nat} (hv : ts.all tv = true) : Sy ts L 0 0 [] :=
  ⟨by simp, fun k hk => by simp at hk, fun k hk => by simp at hk, fun k hk => by simp at hk, fun m hm => by
    have := tv_bd (tk_tv hv hm)
    exact ⟨by simp [nx], by simp [nx], fun _ => by simp [nx]; omega⟩⟩
theorem syI_sy {ts : List T3} {L t : Nat} {o : List J4} (h : Sy ts L t 0 o) (hv : ts.all tv = true) (ht : t < L) (hL : L ≤ 120) : ∀ {i : Nat}, i ≤ ts.length → Sy ts L t i (syI ts L t o i)
  | 0, _ => h
  | i + 1, hi => by
    have ih := syI_sy h hv ht hL (i := i) (by omega)
    simp only [syI]
    split
    · rename_i hc
      exact ih.add hv (by omega) ht hL hc.1 hc.2
    · exact ih.skip
theorem sy_sy {ts : List T3} {L : Nat} (hv : ts.all tv = true) (hL : L ≤ 120) : ∀ {t : Nat}, t ≤ L → Sy ts L t 0 (sy ts L t)
  | 0, _ => Sy.start hv
  | t + 1, ht => (syI_sy (sy_sy hv hL (t := t) (by omega)) hv (by omega) hL (Nat.le_refl _)).next
theorem sy_legal {ts : List T3} {L : Nat} (h : svB ts = true) (hL : L ≤ 120) : legB ts (sy ts L L) = true :=
  have hs := sy_sy (all_of_sv h) hL (Nat.le_refl L)
  legB_iff.2 ⟨h, hs.len, hs.leg⟩

/-! ### Its work -/
def exs (o : List J4) : Nat := sumN (jex o) o.length
theorem exs_app (o : List J4) (x : J4) : exs (o ++ [x]) = exs o + x.2.2.2.toNat := by
  unfold exs
  rw [List.length_append, List.length_singleton]
  simp only [sumN]
  congr 1
  · exact sumN_eq fun i hi => by simp only [jex]; rw [jb_app hi]
  · simp only [jex]; rw [jb_last]
theorem sumN_add (f g : Nat → Nat) : ∀ n, sumN (fun i => f i + g i) n = sumN f n + sumN g n
  | 0 => rfl
  | n + 1 => by simp only [sumN]; rw [sumN_add f g n]; omega
theorem syI_len (ts : List T3) (L t : Nat) (o : List J4) : ∀ {i j : Nat}, i ≤ j → (syI ts L t o i).length ≤ (syI ts L t o j).length
  | i, 0, h => by obtain rfl : i = 0 := by omega
                  exact Nat.le_refl _
  | i, j + 1, h => by
    by_cases e : i = j + 1
    · subst e; exact Nat.le_refl _
    · refine Nat.le_trans (syI_len ts L t o (i := i) (j := j) (by omega)) ?_
      simp only [syI]
      split
      · simp
      · exact Nat.le_refl _
theorem syI_exs (ts : List T3) (L t : Nat) (o : List J4) : ∀ {i : Nat}, (syI ts L t o i).length < 60 → exs (syI ts L t o i) = exs o + sumN (fun m => if syC ts L t m = true then cst (tk ts m) else 0) i
  | 0, _ => by simp [syI, sumN]
  | i + 1, h => by
    have ih := syI_exs ts L t o (i := i) (Nat.lt_of_le_of_lt (syI_len ts L t o (Nat.le_succ i)) h)
    have hl : (syI ts L t o i).length < 60 := Nat.lt_of_le_of_lt (syI_len ts L t o (Nat.le_succ i)) h
    simp only [syI, sumN]
    by_cases hc : syC ts L t i = true
    · rw [if_pos ⟨hc, hl⟩, if_pos hc, exs_app, ih]
      simp only [syJ, cst]
      omega
    · rw [if_neg (by rintro ⟨h, _⟩; exact hc h), if_neg hc, ih]
      omega
/-- How many releases of task i before t are in the pattern. -/
def syN (ts : List T3) (L i : Nat) (t : Nat) : Nat := sumN (fun s => if syC ts L s i = true then 1 else 0) t
theorem sy_len (ts : List T3) (L t : Nat) : (sy ts L t).length ≤ (sy ts L (t + 1)).length := syI_len ts L t (sy ts L t) (Nat.zero_le _)
theorem sy_exs (ts : List T3) (L : Nat) : ∀ {t : Nat}, (sy ts L t).length < 60 → exs (sy ts L t) = sumN (fun i => syN ts L i t * cst (tk ts i)) ts.length
  | 0, _ => by
    rw [sumN_zero fun i _ => by simp [syN, sumN]]
    rfl
  | t + 1, h => by
    have ih := sy_exs ts L (t := t) (Nat.lt_of_le_of_lt (sy_len ts L t) h)
    have e := syI_exs ts L t (sy ts L t) (i := ts.length) h
    show exs (syI ts L t (sy ts L t) ts.length) = _
    rw [e, ih, ← sumN_add]
    refine sumN_eq fun i _ => ?_
    have : syN ts L i (t + 1) = syN ts L i t + if syC ts L t i = true then 1 else 0 := rfl
    rw [this, Nat.add_mul]
    split <;> simp
theorem mult_step {p t : Nat} (hp : 1 ≤ p) : (t + 1 + p - 1) / p = (t + p - 1) / p + if t % p = 0 then 1 else 0 := by
  have h1 := Nat.div_add_mod t p
  have h2 := Nat.mod_lt t (by omega : 0 < p)
  have e : ∀ r, r < p → (p * (t / p) + r) / p = t / p := fun r hr => by
    rw [Nat.mul_add_div (by omega), Nat.div_eq_of_lt hr]; omega
  have e2 : ∀ r, r < p → (p * (t / p) + (p + r)) / p = t / p + 1 := fun r hr => by
    rw [Nat.mul_add_div (by omega), Nat.add_div_left _ (by omega), Nat.div_eq_of_lt hr]
  by_cases h0 : t % p = 0
  · rw [if_pos h0]
    have a1 : (t + 1 + p - 1) / p = t / p + 1 := by rw [show t + 1 + p - 1 = p * (t / p) + (p + 0) by omega]; exact e2 0 (by omega)
    have a2 : (t + p - 1) / p = t / p := by rw [show t + p - 1 = p * (t / p) + (p - 1) by omega]; exact e (p - 1) (by omega)
    omega
  · rw [if_neg h0]
    have a1 : (t + 1 + p - 1) / p = t / p + 1 := by rw [show t + 1 + p - 1 = p * (t / p) + (p + t % p) by omega]; exact e2 _ h2
    have a2 : (t + p - 1) / p = t / p + 1 := by rw [show t + p - 1 = p * (t / p) + (p + (t % p - 1)) by omega]; exact e2 _ (by omega)
    omega
theorem syN_eq {ts : List T3} {L i : Nat} (hp : 1 ≤ per (tk ts i)) (hd : dln (tk ts i) ≤ L) : ∀ {t : Nat}, t ≤ L - dln (tk ts i) + 1 → syN ts L i t = (t + per (tk ts i) - 1) / per (tk ts i)
  | 0, _ => by
    rw [show (0 + per (tk ts i) - 1) / per (tk ts i) = 0 from Nat.div_eq_of_lt (by omega)]
    rfl
  | t + 1, h => by
    have ih := syN_eq hp hd (t := t) (by omega)
    have e : syN ts L i (t + 1) = syN ts L i t + if syC ts L t i = true then 1 else 0 := rfl
    rw [e, ih, mult_step hp]
    have : syC ts L t i = decide (t % per (tk ts i) = 0) := by
      simp only [syC]
      rw [show decide (t + dln (tk ts i) ≤ L) = true by simp; omega, Bool.and_true]
    rw [this]
    simp
theorem syN_more {ts : List T3} {L i s : Nat} : ∀ {t : Nat}, s ≤ t → (∀ u, s ≤ u → L < u + dln (tk ts i)) → syN ts L i t = syN ts L i s
  | 0, h, _ => by obtain rfl : s = 0 := by omega
                  rfl
  | t + 1, h, hu => by
    by_cases e : s = t + 1
    · subst e; rfl
    · have ih := syN_more (ts := ts) (L := L) (i := i) (s := s) (t := t) (by omega) hu
      have e2 : syN ts L i (t + 1) = syN ts L i t + if syC ts L t i = true then 1 else 0 := rfl
      have hf : syC ts L t i = false := by
        have := hu t (by omega)
        simp only [syC]
        rw [show decide (t + dln (tk ts i) ≤ L) = false by simp; omega, Bool.and_false]
      rw [e2, ih, hf]
      simp
theorem syN_dem {ts : List T3} {L i : Nat} (h : tv (tk ts i) = true) : syN ts L i L * cst (tk ts i) = dem1 (tk ts i) L := by
  have hb := tv_bd h
  unfold dem1
  by_cases hd : dln (tk ts i) ≤ L
  · rw [if_pos hd, syN_more (s := L - dln (tk ts i) + 1) (by omega) (fun u hu => by omega), syN_eq (by omega) hd (Nat.le_refl _)]
    rw [show L - dln (tk ts i) + 1 + per (tk ts i) - 1 = (L - dln (tk ts i)) + per (tk ts i) by omega, Nat.add_div_right _ (by omega)]
  · rw [if_neg hd, syN_more (s := 0) (Nat.zero_le _) (fun u _ => by omega)]
    simp [syN, sumN]
theorem sy_dem {ts : List T3} {L : Nat} (h : svB ts = true) (hl : (sy ts L L).length < 60) : exs (sy ts L L) = dem ts L := by
  rw [sy_exs ts L hl, sum_dem]
  exact sumN_eq fun i hi => syN_dem (tk_tv (all_of_sv h) hi)

end Go.Proofs.YtdgihkmiolnglaaGreatDoor

namespace Go.Proofs.YtdgihkmiolnglaaGreatDoor

theorem nx_congr {ts : List T3} {js js' : List J4} : ∀ {k : Nat}, (∀ j, j < k → jid js j = jid js' j ∧ jrel js j = jrel js' j) → nx ts js k = nx ts js' k
  | 0, _ => rfl
  | k + 1, h => by
    funext i
    obtain ⟨e1, e2⟩ := h k (by omega)
    simp only [nx]
    rw [nx_congr (k := k) fun j hj => h j (by omega), e1, e2]
theorem jb_take {js : List J4} {n k : Nat} (h : k < n) : jb (js.take n) k = jb js k := by
  simp only [jb, List.getD_eq_getElem?_getD]
  rw [List.getElem?_take_of_lt h]
theorem leg_take {ts : List T3} {js : List J4} (h : legB ts js = true) (n : Nat) : legB ts (js.take n) = true := by
  obtain ⟨hv, hl, hk⟩ := legB_iff.1 h
  refine legB_iff.2 ⟨hv, by rw [List.length_take]; omega, fun k hk' => ?_⟩
  rw [List.length_take] at hk'
  have h1 := hk k (by omega)
  have e0 : jb (js.take n) k = jb js k := jb_take (by omega)
  have e1 : jb (js.take n) (k - 1) = jb js (k - 1) := jb_take (by omega)
  have e2 : nx ts (js.take n) k = nx ts js k := nx_congr fun j hj => by
    simp only [jid, jrel]
    rw [jb_take (by omega)]
    exact ⟨rfl, rfl⟩
  unfold Leg1 at h1 ⊢
  simp only [jid] at h1 ⊢
  rw [e0, e1, e2]
  exact h1
theorem jb_set {js : List J4} {i k : Nat} {x : J4} (hi : i < js.length) : jb (js.set i x) k = if i = k then x else jb js k := by
  simp only [jb, List.getD_eq_getElem?_getD]
  rw [List.getElem?_set]
  by_cases e : i = k
  · subst e
    rw [if_pos rfl, if_pos hi, if_pos rfl]
    rfl
  · rw [if_neg e, if_neg e]
/-- The job with an execution time of 1. -/
def shortJ (j : J4) : J4 := (j.1, j.2.1, j.2.2.1, 1)
theorem leg_short {ts : List T3} {js : List J4} (h : legB ts js = true) {i : Nat} (hi : i < js.length) : legB ts (js.set i (shortJ (jb js i))) = true := by
  obtain ⟨hv, hl, hk⟩ := legB_iff.1 h
  have hj : ∀ k, (jb (js.set i (shortJ (jb js i))) k).1 = (jb js k).1 ∧ (jb (js.set i (shortJ (jb js i))) k).2.1 = (jb js k).2.1 ∧ (jb (js.set i (shortJ (jb js i))) k).2.2.1 = (jb js k).2.2.1 ∧
      ((jb (js.set i (shortJ (jb js i))) k).2.2.2 = (jb js k).2.2.2 ∨ (jb (js.set i (shortJ (jb js i))) k).2.2.2 = 1) := by
    intro k
    rw [jb_set hi]
    split
    · subst_vars
      exact ⟨rfl, rfl, rfl, .inr rfl⟩
    · exact ⟨rfl, rfl, rfl, .inl rfl⟩
  refine legB_iff.2 ⟨hv, by rw [List.length_set]; exact hl, fun k hk' => ?_⟩
  rw [List.length_set] at hk'
  have h1 := hk k hk'
  have e2 : nx ts (js.set i (shortJ (jb js i))) k = nx ts js k := nx_congr fun j _ => by
    simp only [jid, jrel]
    rw [(hj j).1, (hj j).2.1]
    exact ⟨rfl, rfl⟩
  obtain ⟨a1, a2, a3, a4⟩ := hj k
  obtain ⟨b1, b2, _⟩ := hj (k - 1)
  unfold Leg1 at h1 ⊢
  simp only [jid] at h1 ⊢
  rw [a1, a2, a3, b1, b2, e2]
  obtain ⟨c1, c2, c3, c4, ⟨c5, c6⟩, c7⟩ := h1
  refine ⟨c1, c2, c3, c4, ?_, c7⟩
  rcases a4 with e | e
  · rw [e]; exact ⟨c5, c6⟩
  · rw [e]; exact ⟨Int.le_refl _, Int.le_trans c5 c6⟩
theorem nx_ge {ts : List T3} {js : List J4} (hv : ts.all tv = true) {j : Nat} : ∀ {k : Nat}, j < k → (∀ i, i < k → Leg1 ts js i) → jrel js j + per (tk ts (jid js j)) ≤ nx ts js k (jid js j)
  | 0, h, _ => absurd h (Nat.not_lt_zero _)
  | k + 1, h, hl => by
    simp only [nx]
    by_cases e : j = k
    · subst e
      rw [if_pos rfl]
      exact Nat.le_refl _
    · have ih := nx_ge hv (j := j) (k := k) (by omega) fun i hi => hl i (by omega)
      split
      · rename_i hc
        have := ((hl k (by omega)).nat hv).2.2.1
        rw [hc] at this
        omega
      · exact ih
/-- Two jobs of one task are a period apart. -/
theorem leg_apart {ts : List T3} {js : List J4} (h : legB ts js = true) {i j : Nat} (hi : i < js.length) (hj : j < i) (he : jid js j = jid js i) : jrel js j + per (tk ts (jid js i)) ≤ jrel js i := by
  obtain ⟨hv, hl, hk⟩ := legB_iff.1 h
  have h1 := nx_ge (all_of_sv hv) hj fun m hm => hk m (by omega)
  have h2 := ((hk i hi).nat (all_of_sv hv)).2.2.1
  rw [he] at h1
  omega
/-- Releases ascend. -/
theorem leg_rel {ts : List T3} {js : List J4} (h : legB ts js = true) {i : Nat} : ∀ {j : Nat}, i ≤ j → j < js.length → jrel js i ≤ jrel js j
  | 0, hij, _ => by obtain rfl : i = 0 := by omega
                    exact Nat.le_refl _
  | j + 1, hij, hj => by
    by_cases e : i = j + 1
    · subst e; exact Nat.le_refl _
    · have ih := leg_rel h (i := i) (j := j) (by omega) (by omega)
      obtain ⟨_, _, hk⟩ := legB_iff.1 h
      obtain ⟨_, _, _, _, _, c⟩ := hk (j + 1) hj
      have : (jb js j).2.1 ≤ (jb js (j + 1)).2.1 := by
        rcases c with c | c | ⟨c, _⟩
        · omega
        · exact Int.le_of_lt c
        · exact Int.le_of_eq c
      simp only [jrel] at ih ⊢
      omega
/-- Promise 115: the first n jobs run before the release of job n as all of them do. -/
theorem edf_past {ts : List T3} {js : List J4} (h : legB ts js = true) {n t : Nat} (hn : n < js.length) (ht : t < jrel js n) : (edfP js).run t = (edfP (js.take n)).run t := by
  have hl : (js.take n).length = n := by rw [List.length_take]; omega
  refine (Pat.past (P := edfP js) (Q := edfP (js.take n)) (T := jrel js n) ?_ (fun i hi => ?_) (fun i h1 h2 => ?_) (jrel js n) (Nat.le_refl _)).2 t ht
  · show (js.take n).length ≤ js.length
    omega
  · have hi' : i < n := by
      have : i < (js.take n).length := hi
      omega
    show jrel js i = jrel (js.take n) i ∧ jex js i = jex (js.take n) i ∧ jdl js i = jdl (js.take n) i
    simp only [jrel, jex, jdl]
    rw [jb_take hi']
    exact ⟨rfl, rfl, rfl⟩
  · have h1' : (js.take n).length ≤ i := h1
    exact leg_rel h (by omega) h2

end Go.Proofs.YtdgihkmiolnglaaGreatDoor

namespace Go.Proofs.YtdgihkmiolnglaaGreatDoor

/-- The parent of a place. -/
def par (c : Nat) : Nat := (c - 1) / 2
/-- Two places exchanged. -/
def swp (f : Nat → Nat) (i j : Nat) : Nat → Nat := fun k => if k = j then f i else if k = i then f j else f k
theorem swp_left (f : Nat → Nat) (i j : Nat) : swp f i j i = f j := by
  unfold swp
  by_cases h : i = j
  · subst h; simp
  · rw [if_neg h, if_pos rfl]
theorem swp_right (f : Nat → Nat) (i j : Nat) : swp f i j j = f i := by simp [swp]
theorem swp_other (f : Nat → Nat) {i j k : Nat} (h1 : k ≠ i) (h2 : k ≠ j) : swp f i j k = f k := by simp [swp, h1, h2]
theorem swp_swp (f : Nat → Nat) (i j k : Nat) : swp f i j (if k = j then i else if k = i then j else k) = f k := by
  unfold swp
  by_cases h1 : k = j <;> by_cases h2 : k = i <;> by_cases h3 : i = j <;> simp_all
/-- The first n elements are the same ones, in another order. -/
structure Mixed (n : Nat) (f f' : Nat → Nat) : Prop where
  inj : (∀ a b, a < n → b < n → f a = f b → a = b) → ∀ a b, a < n → b < n → f' a = f' b → a = b
  to : ∀ k, k < n → ∃ m, m < n ∧ f' m = f k
  fro : ∀ k, k < n → ∃ m, m < n ∧ f m = f' k
theorem Mixed.refl (n : Nat) (f : Nat → Nat) : Mixed n f f := ⟨fun h => h, fun k hk => ⟨k, hk, rfl⟩, fun k hk => ⟨k, hk, rfl⟩⟩
theorem Mixed.trans {n : Nat} {f g h : Nat → Nat} (a : Mixed n f g) (b : Mixed n g h) : Mixed n f h :=
  ⟨fun i => b.inj (a.inj i), fun k hk => by obtain ⟨m, h1, h2⟩ := a.to k hk; obtain ⟨m', h3, h4⟩ := b.to m h1; exact ⟨m', h3, h4.trans h2⟩,
   fun k hk => by obtain ⟨m, h1, h2⟩ := b.fro k hk; obtain ⟨m', h3, h4⟩ := a.fro m h1; exact ⟨m', h3, h4.trans h2⟩⟩
theorem pick_lt {n i j k : Nat} (hi : i < n) (hj : j < n) (hk : k < n) : (if k = j then i else if k = i then j else k) < n := by
  split
  · exact hi
  · split
    · exact hj
    · exact hk
theorem Mixed.ofSwp {n i j : Nat} (f : Nat → Nat) (hi : i < n) (hj : j < n) : Mixed n f (swp f i j) := by
  have back : ∀ k, k < n → ∃ m, m < n ∧ f m = swp f i j k := by
    intro k hk
    by_cases h2 : k = j
    · subst h2; exact ⟨i, hi, (swp_right f i k).symm⟩
    · by_cases h1 : k = i
      · subst h1; exact ⟨j, hj, (swp_left f k j).symm⟩
      · exact ⟨k, hk, (swp_other f h1 h2).symm⟩
  refine ⟨fun inj a b ha hb e => ?_, fun k hk => ⟨if k = j then i else if k = i then j else k, pick_lt hi hj hk, swp_swp f i j k⟩, back⟩
  have v : ∀ k, k < n → swp f i j k = f (if k = j then i else if k = i then j else k) := fun k _ => by
    unfold swp
    by_cases h1 : k = j
    · simp [h1]
    · rw [if_neg h1, if_neg h1]
      split <;> rfl
  rw [v a ha, v b hb] at e
  have := inj _ _ (pick_lt hi hj ha) (pick_lt hi hj hb) e
  by_cases a1 : a = j <;> by_cases a2 : a = i <;> by_cases b1 : b = j <;> by_cases b2 : b = i <;> simp_all
variable {K f : Nat → Nat} {n i j : Nat}
/-- Heap order among the first n. -/
def HeapOk (K f : Nat → Nat) (n : Nat) : Prop := ∀ c, 0 < c → c < n → K (f (par c)) ≤ K (f c)
/-- Heap order but for place j, which may be too small for its parent. -/
structure UpOk (K f : Nat → Nat) (n j : Nat) : Prop where
  le : ∀ c, 0 < c → c < n → c ≠ j → K (f (par c)) ≤ K (f c)
  up : 0 < j → ∀ c, 0 < c → c < n → par c = j → K (f (par j)) ≤ K (f c)
/-- Heap order but for place i, which may be too large for its children. -/
structure DownOk (K f : Nat → Nat) (n i : Nat) : Prop where
  le : ∀ c, 0 < c → c < n → par c ≠ i → K (f (par c)) ≤ K (f c)
  up : 0 < i → ∀ c, 0 < c → c < n → par c = i → K (f (par i)) ≤ K (f c)
theorem HeapOk.top (h : HeapOk K f n) : ∀ k, k < n → K (f 0) ≤ K (f k) := by
  intro k
  induction k using Nat.strongRecOn with
  | ind k ih =>
    intro hk
    by_cases h0 : k = 0
    · subst h0; exact Nat.le_refl _
    · have hp : par k < k := by unfold par; omega
      exact Nat.le_trans (ih (par k) hp (by omega)) (h k (by omega) hk)
theorem upOk_push (h : HeapOk K f n) : UpOk K f (n + 1) n :=
  ⟨fun c h0 hc hne => h c h0 (by omega), fun h0 c hc0 hc hp => by unfold par at hp; omega⟩
theorem UpOk.done0 (h : UpOk K f n 0) : HeapOk K f n := fun c h0 hc => h.le c h0 hc (by omega)
theorem UpOk.done (h : UpOk K f n j) (hle : K (f (par j)) ≤ K (f j)) : HeapOk K f n := fun c h0 hc => by
  by_cases e : c = j
  · subst e; exact hle
  · exact h.le c h0 hc e
theorem UpOk.step (h : UpOk K f n j) (h0 : 0 < j) (hj : j < n) (hlt : K (f j) < K (f (par j))) : UpOk K (swp f (par j) j) n (par j) := by
  have hpj : par j < j := by unfold par; omega
  refine ⟨fun c c0 hc hne => ?_, fun p0 c c0 hc hp => ?_⟩
  · by_cases e : c = j
    · subst e
      rw [swp_left, swp_right]
      omega
    · rw [swp_other f hne e]
      by_cases e2 : par c = j
      · rw [e2, swp_right]
        exact h.up h0 c c0 hc e2
      · by_cases e3 : par c = par j
        · rw [e3, swp_left]
          have := h.le c c0 hc e
          rw [e3] at this
          omega
        · rw [swp_other f e3 e2]
          exact h.le c c0 hc e
  · have hpp : par (par j) < par j := by unfold par at p0 ⊢; omega
    rw [swp_other f (by omega) (by omega)]
    have g1 := h.le (par j) p0 (by omega) (by omega)
    by_cases e : c = j
    · subst e
      rw [swp_right]
      exact g1
    · have hcp : c ≠ par j := by intro e2; rw [e2] at hp; omega
      rw [swp_other f hcp e]
      have := h.le c c0 hc e
      rw [hp] at this
      omega
theorem downOk_start (h : HeapOk K f (n + 1)) : DownOk K (swp f 0 n) n 0 :=
  ⟨fun c c0 hc hne => by
    have e1 : par c ≠ n := by unfold par; omega
    rw [swp_other f hne e1, swp_other f (by omega) (by omega)]
    exact h c c0 (by omega), fun h0 => absurd h0 (by omega)⟩
theorem par_left (i : Nat) : par (2 * i + 1) = i := by unfold par; omega
theorem par_right (i : Nat) : par (2 * i + 2) = i := by unfold par; omega
theorem par_two {c i : Nat} (h : par c = i) (h0 : 0 < c) : c = 2 * i + 1 ∨ c = 2 * i + 2 := by unfold par at h; omega
theorem DownOk.done (h : DownOk K f n i) (hc : ∀ c, 0 < c → c < n → par c = i → K (f i) ≤ K (f c)) : HeapOk K f n := fun c h0 hcn => by
  by_cases e : par c = i
  · rw [e]; exact hc c h0 hcn e
  · exact h.le c h0 hcn e
theorem DownOk.leaf (h : DownOk K f n i) (hn : n ≤ 2 * i + 1) : HeapOk K f n := h.done fun c h0 hc hp => by rcases par_two hp h0 with e | e <;> omega
/-- Place i is exchanged with its smaller child j. -/
theorem DownOk.step (h : DownOk K f n i) (hj : j < n) (hp : par j = i) (h0 : 0 < j) (hlt : K (f j) < K (f i)) (hs : ∀ c, 0 < c → c < n → par c = i → K (f j) ≤ K (f c)) : DownOk K (swp f i j) n j := by
  have hij : i < j := by unfold par at hp; omega
  refine ⟨fun c c0 hc hne => ?_, fun _ c c0 hc hpc => ?_⟩
  · by_cases e : par c = i
    · rw [e, swp_left]
      by_cases e2 : c = j
      · subst e2; rw [swp_right]; omega
      · have hci : c ≠ i := by intro e3; unfold par at e; omega
        rw [swp_other f hci e2]
        exact hs c c0 hc e
    · rw [swp_other f e hne]
      have hcj : c ≠ j := by intro e3; subst e3; exact e hp
      by_cases e4 : c = i
      · subst e4
        rw [swp_left]
        exact h.up c0 j h0 hj hp
      · rw [swp_other f e4 hcj]
        exact h.le c c0 hc e
  · rw [hp, swp_left]
    have hci : c ≠ i := by intro e; unfold par at hpc; omega
    have hcj : c ≠ j := by intro e; unfold par at hpc; omega
    rw [swp_other f hci hcj]
    have := h.le c c0 hc (by omega)
    rwa [hpc] at this
/-- What the n + 1 elements are once the top one has been taken out: the others. -/
theorem Mixed.popped {f' : Nat → Nat} (inj : ∀ a b, a < n + 1 → b < n + 1 → f a = f b → a = b) (h : Mixed n (swp f 0 n) f') :
    (∀ a b, a < n → b < n → f' a = f' b → a = b) ∧ ∀ x, (∃ k, k < n ∧ f' k = x) ↔ (∃ k, k < n + 1 ∧ f k = x) ∧ x ≠ f 0 := by
  have v : ∀ k, k < n → ∃ m, 0 < m ∧ m < n + 1 ∧ swp f 0 n k = f m := fun k hk => by
    by_cases e : k = 0
    · subst e; exact ⟨n, hk, by omega, swp_left f 0 n⟩
    · exact ⟨k, by omega, by omega, swp_other f e (by omega)⟩
  have m1 := Mixed.ofSwp f (show 0 < n + 1 by omega) (show n < n + 1 by omega)
  have inj1 := m1.inj inj
  refine ⟨h.inj fun a b ha hb e => inj1 a b (by omega) (by omega) e, fun x => ⟨?_, ?_⟩⟩
  · rintro ⟨k, hk, rfl⟩
    obtain ⟨m, hm, e⟩ := h.fro k hk
    obtain ⟨m', h0, hm', e'⟩ := v m hm
    rw [← e, e']
    exact ⟨⟨m', hm', rfl⟩, fun e2 => by have := inj m' 0 hm' (by omega) e2; omega⟩
  · rintro ⟨⟨k, hk, rfl⟩, hne⟩
    have h0 : 0 < k := by
      rcases Nat.eq_zero_or_pos k with e | e
      · subst e; exact absurd rfl hne
      · exact e
    obtain ⟨m, hm, e⟩ : ∃ m, m < n ∧ swp f 0 n m = f k := by
      by_cases e : k = n
      · subst e; exact ⟨0, h0, swp_left f 0 k⟩
      · exact ⟨k, by omega, swp_other f (by omega) e⟩
    obtain ⟨m', hm', e'⟩ := h.to m hm
    exact ⟨m', hm', e'.trans e⟩

end Go.Proofs.YtdgihkmiolnglaaGreatDoor

namespace Go.Proofs.YtdgihkmiolnglaaGreatDoor

/-- What is left of the jobs that A names. -/
def Pat.sumA (P : Pat) (A : Nat → Bool) (t : Nat) : Nat := sumN (fun i => if A i = true then P.left t i else 0) P.n
theorem Pat.work_step (P : Pat) (A : Nat → Bool) (t : Nat) : P.sumA A t ≤ P.sumA A (t + 1) + 1 := by
  cases hb : P.run t with
  | none =>
    have : P.sumA A t = P.sumA A (t + 1) := sumN_eq fun i _ => by
      have e : P.left (t + 1) i = P.left t i := by rw [P.left_succ, if_neg (by rw [hb]; simp)]
      show (if A i = true then P.left t i else 0) = if A i = true then P.left (t + 1) i else 0
      rw [e]
    omega
  | some b =>
    obtain ⟨h1, _, h3⟩ := P.run_pos hb
    have : P.sumA A t = P.sumA A (t + 1) + if A b = true then 1 else 0 := sumN_one (b := b) h1 (fun i _ hne => by
        have e : P.left (t + 1) i = P.left t i := by rw [P.left_succ, if_neg (by rw [hb]; simpa using fun e => hne e.symm)]
        show (if A i = true then P.left t i else 0) = if A i = true then P.left (t + 1) i else 0
        rw [e]) (by
        have e : P.left (t + 1) b = P.left t b - 1 := by rw [P.left_succ, if_pos hb]
        show (if A b = true then P.left t b else 0) = (if A b = true then P.left (t + 1) b else 0) + _
        rw [e]
        split <;> omega)
    rw [this]
    split <;> omega
theorem Pat.work_le (P : Pat) (A : Nat → Bool) {s : Nat} : ∀ {t : Nat}, s ≤ t → P.sumA A s ≤ P.sumA A t + (t - s)
  | 0, h => by obtain rfl : s = 0 := by omega
               omega
  | t + 1, h => by
    by_cases e : s = t + 1
    · subst e; omega
    · have h1 := P.work_le A (s := s) (t := t) (by omega)
      have h2 := P.work_step A t
      omega
/-- A job has its whole work left at its release. -/
theorem Pat.left_rel (P : Pat) {i : Nat} : ∀ {t : Nat}, t ≤ P.rel i → P.left t i = P.ex i
  | 0, _ => rfl
  | t + 1, h => by
    rw [P.left_succ, if_neg]
    · exact P.left_rel (by omega)
    · intro hr
      have := (P.run_pos hr).2.1
      omega
/-- Promise 3: if some keys leave nothing at the deadlines, earliest deadline first does not either. -/
theorem Pat.optimal {P Q : Pat} {T : Nat} (hn : P.n = Q.n) (hr : ∀ i, i < P.n → P.rel i = Q.rel i) (hx : ∀ i, i < P.n → P.ex i = Q.ex i)
    (h : ∀ i, i < P.n → P.key i ≤ T → Q.left (P.key i) i = 0) {m : Nat} (hm : m < P.n) (hk : P.key m ≤ T) : P.left (P.key m) m = 0 := by
  apply Classical.byContradiction
  intro hne
  obtain ⟨s, hs, h1⟩ := P.late hm (Nat.le_refl _) (Nat.pos_of_ne_zero hne)
  have h2 := Q.work_le (fun i => decide (s ≤ P.rel i ∧ P.key i ≤ P.key m)) hs
  have h3 : Q.sumA (fun i => decide (s ≤ P.rel i ∧ P.key i ≤ P.key m)) (P.key m) = 0 := sumN_zero fun i hi => by
    simp only [decide_eq_true_eq]
    split
    · rename_i hc
      have := Q.left_mono i hc.2
      have := h i (by omega) (by omega)
      omega
    · rfl
  have h4 : Q.sumA (fun i => decide (s ≤ P.rel i ∧ P.key i ≤ P.key m)) s = sumN (fun i => if s ≤ P.rel i ∧ P.key i ≤ P.key m then P.ex i else 0) P.n := by
    rw [Pat.sumA, ← hn]
    refine sumN_eq fun i hi => ?_
    simp only [decide_eq_true_eq]
    split
    · rename_i hc
      rw [Q.left_rel (by rw [← hr i hi]; exact hc.1), hx i hi]
    · rfl
  omega
/-- Promise 2: more work than D with deadlines up to D: under every order some job is late. -/
theorem Pat.over (Q : Pat) {D : Nat} {dl : Nat → Nat} (h : D < sumN (fun i => if dl i ≤ D then Q.ex i else 0) Q.n) : ∃ i, i < Q.n ∧ dl i ≤ D ∧ 0 < Q.left (dl i) i := by
  apply Classical.byContradiction
  intro hc
  have h2 := Q.work_le (fun i => decide (dl i ≤ D)) (Nat.zero_le D)
  have h3 : Q.sumA (fun i => decide (dl i ≤ D)) D = 0 := sumN_zero fun i hi => by
    simp only [decide_eq_true_eq]
    split
    · rename_i hd
      have := Q.left_mono i hd
      have : Q.left (dl i) i = 0 := by
        apply Classical.byContradiction
        intro hne
        exact hc ⟨i, hi, hd, Nat.pos_of_ne_zero hne⟩
      omega
    · rfl
  have h4 : Q.sumA (fun i => decide (dl i ≤ D)) 0 = sumN (fun i => if dl i ≤ D then Q.ex i else 0) Q.n := sumN_eq fun i _ => by
    simp only [decide_eq_true_eq]
    rfl
  omega
/-- The synchronous pattern up to a first overload, unless it is cut off, is late under every order. -/
theorem sy_late {ts : List T3} {D : Nat} (hv : svB ts = true) (hD : D ≤ 120) (hl : (sy ts D D).length < 60) (ho : D < dem ts D) (key : Nat → Nat) :
    ∃ i, i < (sy ts D D).length ∧ jdl (sy ts D D) i ≤ D ∧ 0 < (Pat.mk (sy ts D D).length (jrel (sy ts D D)) (jex (sy ts D D)) key).left (jdl (sy ts D D) i) i := by
  refine Pat.over (Pat.mk (sy ts D D).length (jrel (sy ts D D)) (jex (sy ts D D)) key) ?_
  rw [← sy_dem hv hl] at ho
  refine Nat.lt_of_lt_of_le ho (Nat.le_of_eq (sumN_eq fun i hi => ?_))
  have := ((sy_sy (all_of_sv hv) hD (Nat.le_refl D)).dl i hi).1
  rw [if_pos (by simp only [jdl]; omega)]

end Go.Proofs.YtdgihkmiolnglaaGreatDoor

namespace Go.Proofs.YtdgihkmiolnglaaGreatDoor

/-- A window for jobs that are not disturbed by others. -/
theorem Pat.windowA (P : Pat) (A : Nat → Bool) (hA : ∀ i b, A i = true → P.key b ≤ P.key i → A b = true) (t : Nat) :
    ∃ s, s ≤ t ∧ (∀ i, i < P.n → A i = true → P.rel i < s → P.left s i = 0) ∧ ∀ u, s ≤ u → u < t → ∃ b, P.run u = some b ∧ A b = true := by
  induction t with
  | zero => exact ⟨0, Nat.le_refl _, fun i _ _ h => absurd h (Nat.not_lt_zero _), fun u _ h => absurd h (Nat.not_lt_zero _)⟩
  | succ t ih =>
    by_cases hc : ∃ b, P.run t = some b ∧ A b = true
    · obtain ⟨s, hs, h3, h4⟩ := ih
      refine ⟨s, by omega, h3, fun u h1 h2 => ?_⟩
      by_cases e : u = t
      · subst e; exact hc
      · exact h4 u h1 (by omega)
    · refine ⟨t + 1, Nat.le_refl _, fun i hi hk hr => ?_, fun u h1 h2 => by omega⟩
      have hz : P.left t i = 0 := by
        by_cases h0 : P.left t i = 0
        · exact h0
        · cases hb : P.run t with
          | none => exact absurd ⟨by omega, by omega⟩ (best_none hb i hi)
          | some b =>
            obtain ⟨_, _, _, h4⟩ := best_some hb
            refine absurd ⟨b, hb, hA i b hk ?_⟩ hc
            rcases h4 i hi (by omega) (by omega) with h | ⟨h, _⟩ <;> omega
      have := P.left_le t i
      omega
theorem Pat.sumA_run {P : Pat} {B : Nat → Bool} {s : Nat} : ∀ {y : Nat}, s ≤ y → (∀ u, s ≤ u → u < y → ∃ b, P.run u = some b ∧ B b = true) → P.sumA B s = P.sumA B y + (y - s)
  | 0, h, _ => by obtain rfl : s = 0 := by omega
                  omega
  | y + 1, h, hu => by
    by_cases e : s = y + 1
    · subst e; omega
    · have ih := P.sumA_run (B := B) (s := s) (y := y) (by omega) fun u h1 h2 => hu u h1 (by omega)
      obtain ⟨b, hb, hB⟩ := hu y (by omega) (by omega)
      obtain ⟨h1, _, h3⟩ := P.run_pos hb
      have : P.sumA B y = P.sumA B (y + 1) + 1 := sumN_one (b := b) h1 (fun i _ hne => by
          have e : P.left (y + 1) i = P.left y i := by rw [P.left_succ, if_neg (by rw [hb]; simpa using fun e => hne e.symm)]
          show (if B i = true then P.left y i else 0) = if B i = true then P.left (y + 1) i else 0
          rw [e]) (by
          have e : P.left (y + 1) b = P.left y b - 1 := by rw [P.left_succ, if_pos hb]
          show (if B b = true then P.left y b else 0) = (if B b = true then P.left (y + 1) b else 0) + 1
          rw [e, if_pos hB, if_pos hB]
          omega)
      omega

/-! ### How much higher tasks ask within a window -/
def cw (js : List J4) (s y : Nat) : Nat → Nat → Nat
  | 0 => fun _ => 0
  | k + 1 => fun i => if jid js k = i ∧ s ≤ jrel js k ∧ jrel js k < y then cw js s y k i + 1 else cw js s y k i
theorem cw_bd {ts : List T3} {js : List J4} (hv : ts.all tv = true) {s y : Nat} : ∀ {k : Nat}, (∀ j, j < k → Leg1 ts js j) → ∀ i,
    cw js s y k i = 0 ∨ (1 ≤ cw js s y k i ∧ s + cw js s y k i * per (tk ts i) ≤ nx ts js k i ∧ s + (cw js s y k i - 1) * per (tk ts i) < y)
  | 0, _, _ => .inl rfl
  | k + 1, h, i => by
    have ih := cw_bd hv (s := s) (y := y) (k := k) (fun j hj => h j (by omega)) i
    obtain ⟨h1, h2, h3, h4, h5, h6⟩ := (h k (by omega)).nat hv
    by_cases hi : jid js k = i
    · subst hi
      have hn : nx ts js (k + 1) (jid js k) = jrel js k + per (tk ts (jid js k)) := by simp only [nx, if_true]
      rw [hn]
      by_cases hc : s ≤ jrel js k ∧ jrel js k < y
      · have hc' : cw js s y (k + 1) (jid js k) = cw js s y k (jid js k) + 1 := by simp only [cw]; rw [if_pos ⟨trivial, hc⟩]
        rw [hc']
        refine .inr ⟨by omega, ?_, ?_⟩
        · rw [Nat.succ_mul]
          rcases ih with e | ⟨_, e, _⟩
          · rw [e]; omega
          · omega
        · rw [Nat.add_sub_cancel]
          rcases ih with e | ⟨_, e, _⟩
          · rw [e]; omega
          · omega
      · have hc' : cw js s y (k + 1) (jid js k) = cw js s y k (jid js k) := by simp only [cw]; rw [if_neg (by rintro ⟨_, h⟩; exact hc h)]
        rw [hc']
        rcases ih with e | ⟨e0, e1, e2⟩
        · exact .inl e
        · exact .inr ⟨e0, by omega, e2⟩
    · have hn : nx ts js (k + 1) i = nx ts js k i := by simp only [nx]; rw [if_neg hi]
      have hc' : cw js s y (k + 1) i = cw js s y k i := by simp only [cw]; rw [if_neg (by rintro ⟨h, _⟩; exact hi h)]
      rw [hn, hc']
      exact ih
theorem cw_le {ts : List T3} {js : List J4} (hv : ts.all tv = true) {s R k : Nat} (h : ∀ j, j < k → Leg1 ts js j) {i : Nat} (hi : i < ts.length) : cw js s (s + R) k i ≤ (R + per (tk ts i) - 1) / per (tk ts i) := by
  have hb := tv_bd (tk_tv hv hi)
  rcases cw_bd hv (s := s) (y := s + R) h i with e | ⟨e0, _, e2⟩
  · rw [e]
    exact Nat.zero_le _
  · rw [Nat.le_div_iff_mul_le (by omega)]
    have : cw js s (s + R) k i * per (tk ts i) = (cw js s (s + R) k i - 1) * per (tk ts i) + per (tk ts i) := by
      rw [← Nat.succ_mul]
      congr 1
      omega
    omega
/-- The simulation by priorities. -/
def fixP (js : List J4) (rank : Nat → Nat) : Pat := ⟨js.length, jrel js, jex js, fun k => rank (jid js k)⟩
theorem asked_fix {ts : List T3} {js : List J4} {rank : Nat → Nat} {p : Nat} (hv : ts.all tv = true) {s y : Nat} : ∀ {k : Nat}, (∀ j, j < k → Leg1 ts js j) →
    sumN (fun i => if rank (jid js i) < p ∧ s ≤ jrel js i ∧ jrel js i < y then jex js i else 0) k ≤ sumN (fun i => if rank i < p then cw js s y k i * cst (tk ts i) else 0) ts.length
  | 0, _ => by simp [sumN]
  | k + 1, h => by
    have ih := asked_fix hv (rank := rank) (p := p) (s := s) (y := y) (k := k) (fun j hj => h j (by omega))
    obtain ⟨h1, h2, h3, h4, h5, h6, h7⟩ := (h k (by omega)).nat hv
    simp only [sumN]
    by_cases hc : rank (jid js k) < p ∧ s ≤ jrel js k ∧ jrel js k < y
    · rw [if_pos hc]
      have := sumN_one (f := fun i => if rank i < p then cw js s y k i * cst (tk ts i) else 0) (g := fun i => if rank i < p then cw js s y (k + 1) i * cst (tk ts i) else 0) (x := cst (tk ts (jid js k))) h1
        (fun i _ hne => by
          have : cw js s y (k + 1) i = cw js s y k i := by simp only [cw]; rw [if_neg (by rintro ⟨h, _⟩; exact hne h.symm)]
          show (if rank i < p then cw js s y (k + 1) i * _ else 0) = if rank i < p then cw js s y k i * _ else 0
          rw [this])
        (by
          have : cw js s y (k + 1) (jid js k) = cw js s y k (jid js k) + 1 := by simp only [cw]; rw [if_pos ⟨trivial, hc.2⟩]
          show (if rank (jid js k) < p then cw js s y (k + 1) (jid js k) * _ else 0) = (if rank (jid js k) < p then cw js s y k (jid js k) * _ else 0) + _
          rw [this, if_pos hc.1, if_pos hc.1, Nat.succ_mul])
      rw [this]
      omega
    · rw [if_neg hc]
      have : sumN (fun i => if rank i < p then cw js s y (k + 1) i * cst (tk ts i) else 0) ts.length = sumN (fun i => if rank i < p then cw js s y k i * cst (tk ts i) else 0) ts.length := sumN_eq fun i _ => by
        by_cases hr : rank i < p
        · have : cw js s y (k + 1) i = cw js s y k i := by
            simp only [cw]
            rw [if_neg]
            rintro ⟨e, h2⟩
            exact hc ⟨by rw [e]; exact hr, h2⟩
          rw [this]
        · rw [if_neg hr, if_neg hr]
      rw [this]
      omega
/-- The cost of a task and of all higher ones in an interval of length x. -/
def interf (ts : List T3) (rank : Nat → Nat) (i x : Nat) : Nat := cst (tk ts i) + sumN (fun j => if rank j < rank i then (x + per (tk ts j) - 1) / per (tk ts j) * cst (tk ts j) else 0) ts.length

/-- Promise 5: nothing is left of a job at its release plus the response time of its task. -/
theorem fix_safe {ts : List T3} {js : List J4} {rank : Nat → Nat} (hl : legB ts js = true) (hinj : ∀ i j, i < ts.length → j < ts.length → rank i = rank j → i = j) {m : Nat} (hm : m < js.length) {R : Nat}
    (hR : interf ts rank (jid js m) R = R) (hd : R ≤ dln (tk ts (jid js m))) : (fixP js rank).left (jrel js m + R) m = 0 := by
  obtain ⟨hv, _, hk⟩ := legB_iff.1 hl
  have hall := all_of_sv hv
  induction m using Nat.strongRecOn with
  | ind m ih =>
    have hm1 := (hk m hm).nat hall
    have hb := tv_bd hm1.2.1
    -- earlier jobs of the task are finished
    have hold : ∀ j, j < m → jid js j = jid js m → ∀ u, jrel js m ≤ u → (fixP js rank).left u j = 0 := by
      intro j hj he u hu
      have h1 := ih j hj (by omega) (by rw [he]; exact hR) (by rw [he]; exact hd)
      have h2 := leg_apart hl hm hj he
      have h3 := (fixP js rank).left_mono j (show jrel js j + R ≤ u by omega)
      omega
    apply Classical.byContradiction
    intro hne
    obtain ⟨s, hs, h1, h2⟩ := (fixP js rank).windowA (fun k => decide (rank (jid js k) < rank (jid js m))) (fun i b hi hb => by
      simp only [decide_eq_true_eq] at hi ⊢
      exact Nat.lt_of_le_of_lt hb hi) (jrel js m)
    have hpos : 0 < (fixP js rank).left (s + R) m := by
      have := (fixP js rank).left_mono m (show s + R ≤ jrel js m + R by omega)
      omega
    have h3 := Pat.sumA_run (P := fixP js rank) (B := fun k => decide (k = m) || (decide (rank (jid js k) < rank (jid js m)) && decide (jrel js k < s + R))) (s := s) (y := s + R) (by omega) (fun u hu1 hu2 => by
      by_cases hu : u < jrel js m
      · obtain ⟨b, hb1, hb2⟩ := h2 u hu1 hu
        refine ⟨b, hb1, ?_⟩
        have := (Pat.run_pos hb1).2.1
        have hr : jrel js b ≤ u := this
        simp only [decide_eq_true_eq] at hb2
        simp only [Bool.or_eq_true, Bool.and_eq_true, decide_eq_true_eq]
        exact .inr ⟨hb2, by omega⟩
      · have hlm : 0 < (fixP js rank).left u m := by
          have := (fixP js rank).left_mono m (show u ≤ s + R by omega)
          omega
        cases hb1 : (fixP js rank).run u with
        | none => exact absurd ⟨show jrel js m ≤ u by omega, hlm⟩ (best_none hb1 m hm)
        | some b =>
          refine ⟨b, rfl, ?_⟩
          obtain ⟨g1, g2, g3, g4⟩ := best_some hb1
          have hr : jrel js b ≤ u := g2
          have hbn : b < js.length := g1
          simp only [Bool.or_eq_true, Bool.and_eq_true, decide_eq_true_eq]
          rcases g4 m hm (show jrel js m ≤ u by omega) hlm with h | ⟨h, hbm⟩
          · exact .inr ⟨h, by omega⟩
          · left
            have he : jid js b = jid js m := hinj _ _ ((hk b hbn).nat hall).1 hm1.1 h
            apply Classical.byContradiction
            intro hne2
            have := hold b (by omega) he u (by omega)
            omega)
    have h4 : 1 ≤ (fixP js rank).sumA (fun k => decide (k = m) || (decide (rank (jid js k) < rank (jid js m)) && decide (jrel js k < s + R))) (s + R) := by
      refine Nat.le_trans ?_ (sumN_mem (f := fun k => if (decide (k = m) || (decide (rank (jid js k) < rank (jid js m)) && decide (jrel js k < s + R))) = true then (fixP js rank).left (s + R) k else 0) hm)
      show 1 ≤ if _ then _ else _
      rw [if_pos (by simp)]
      omega
    have h5 : (fixP js rank).sumA (fun k => decide (k = m) || (decide (rank (jid js k) < rank (jid js m)) && decide (jrel js k < s + R))) s ≤
        sumN (fun k => if rank (jid js k) < rank (jid js m) ∧ s ≤ jrel js k ∧ jrel js k < s + R then jex js k else 0) js.length + jex js m := by
      have e := sumN_one (f := fun k => if rank (jid js k) < rank (jid js m) ∧ s ≤ jrel js k ∧ jrel js k < s + R then jex js k else 0) (g := fun k => if k = m then jex js m else if rank (jid js k) < rank (jid js m) ∧ s ≤ jrel js k ∧ jrel js k < s + R then jex js k else 0) (b := m) (x := jex js m) hm
        (fun i _ hne => by show (if i = m then _ else _) = _; rw [if_neg hne])
        (by show (if m = m then _ else _) = _; rw [if_pos rfl, if_neg (by rintro ⟨h, _⟩; omega)]; omega)
      rw [← e]
      refine sumN_le fun k hkn => ?_
      by_cases hkm : k = m
      · subst hkm
        rw [if_pos rfl, if_pos (by simp)]
        exact (fixP js rank).left_ex s k
      · rw [if_neg hkm]
        simp only [hkm, decide_false, Bool.false_or, Bool.and_eq_true, decide_eq_true_eq]
        by_cases hc : rank (jid js k) < rank (jid js m) ∧ jrel js k < s + R
        · rw [if_pos hc]
          by_cases hr : s ≤ jrel js k
          · rw [if_pos ⟨hc.1, hr, hc.2⟩]
            exact (fixP js rank).left_ex s k
          · have := h1 k hkn (by simpa using hc.1) (show jrel js k < s by omega)
            rw [this]
            exact Nat.zero_le _
        · rw [if_neg hc]
          exact Nat.zero_le _
    have h6 := asked_fix hall (rank := rank) (p := rank (jid js m)) (s := s) (y := s + R) hk
    have h7 : sumN (fun i => if rank i < rank (jid js m) then cw js s (s + R) js.length i * cst (tk ts i) else 0) ts.length ≤ sumN (fun j => if rank j < rank (jid js m) then (R + per (tk ts j) - 1) / per (tk ts j) * cst (tk ts j) else 0) ts.length := sumN_le fun i hi => by
      by_cases hr : rank i < rank (jid js m)
      · rw [if_pos hr, if_pos hr]
        exact Nat.mul_le_mul_right _ (cw_le hall hk hi)
      · rw [if_neg hr, if_neg hr]
        exact Nat.le_refl _
    unfold interf at hR
    omega

end Go.Proofs.YtdgihkmiolnglaaGreatDoor

namespace Go.Proofs.YtdgihkmiolnglaaGreatDoor

/-! ### Least fixed points -/
/-- The least r in 1..D with F r = r. -/
def lfp (F : Nat → Nat) : Nat → Option Nat
  | 0 => none
  | D + 1 => match lfp F D with
    | some r => some r
    | none => if F (D + 1) = D + 1 then some (D + 1) else none
theorem lfp_some {F : Nat → Nat} {r : Nat} : ∀ {D : Nat}, lfp F D = some r → 1 ≤ r ∧ r ≤ D ∧ F r = r ∧ ∀ x, 1 ≤ x → x < r → F x ≠ x
  | 0, h => by simp [lfp] at h
  | D + 1, h => by
    simp only [lfp] at h
    cases hl : lfp F D with
    | some r' =>
      rw [hl] at h
      obtain rfl : r' = r := by simpa using h
      obtain ⟨h1, h2, h3, h4⟩ := lfp_some hl
      exact ⟨h1, by omega, h3, h4⟩
    | none =>
      rw [hl] at h
      simp only at h
      split at h
      · rename_i hf
        obtain rfl : D + 1 = r := by simpa using h
        refine ⟨by omega, by omega, hf, fun x h1 h2 hx => ?_⟩
        have : ∀ {E : Nat}, lfp F E = none → ∀ x, 1 ≤ x → x ≤ E → F x ≠ x := by
          intro E
          induction E with
          | zero => intro _ x h1 h2; omega
          | succ E ih =>
            intro hE x h1 h2
            simp only [lfp] at hE
            cases hl2 : lfp F E with
            | some r => rw [hl2] at hE; simp at hE
            | none =>
              rw [hl2] at hE
              simp only at hE
              split at hE
              · simp at hE
              · rename_i hne
                by_cases e : x = E + 1
                · subst e; exact hne
                · exact ih hl2 x h1 (by omega)
        exact this hl x h1 (by omega) hx
      · simp at h
theorem lfp_none {F : Nat → Nat} : ∀ {D : Nat}, lfp F D = none → ∀ x, 1 ≤ x → x ≤ D → F x ≠ x
  | 0, _, x, h1, h2 => by omega
  | D + 1, h, x, h1, h2 => by
    simp only [lfp] at h
    cases hl : lfp F D with
    | some r => rw [hl] at h; simp at h
    | none =>
      rw [hl] at h
      simp only at h
      split at h
      · simp at h
      · rename_i hne
        by_cases e : x = D + 1
        · subst e; exact hne
        · exact lfp_none hl x h1 (by omega)
/-- It is what it is: a fixed point within D that no smaller one undercuts. -/
theorem lfp_eq {F : Nat → Nat} {r D : Nat} (h1 : 1 ≤ r) (hD : r ≤ D) (hr : F r = r) (hm : ∀ x, 1 ≤ x → x < r → F x ≠ x) : lfp F D = some r := by
  cases hl : lfp F D with
  | none => exact absurd hr (lfp_none hl r h1 hD)
  | some q =>
    obtain ⟨q1, _, q3, q4⟩ := lfp_some hl
    rcases Nat.lt_trichotomy q r with h | h | h
    · exact absurd q3 (hm q q1 h)
    · rw [h]
    · exact absurd hr (q4 r h1 h)
/-- Where F does not rise above the line at r there is a fixed point at r or before. -/
theorem lfp_pre {F : Nat → Nat} {r D : Nat} (hF : ∀ x y, x ≤ y → F x ≤ F y) (h1 : ∀ x, 1 ≤ F x) (hr1 : 1 ≤ r) (hD : r ≤ D) (hr : F r ≤ r) : ∃ q, lfp F D = some q ∧ q ≤ r := by
  induction r using Nat.strongRecOn with
  | ind r ih =>
    by_cases e : F r = r
    · cases hl : lfp F D with
      | none => exact absurd e (lfp_none hl r hr1 hD)
      | some q =>
        refine ⟨q, rfl, ?_⟩
        obtain ⟨_, _, _, q4⟩ := lfp_some hl
        apply Classical.byContradiction
        intro h
        exact q4 r hr1 (by omega) e
    · obtain ⟨q, h2, h3⟩ := ih (F r) (by omega) (h1 r) (by omega) (hF _ _ hr)
      exact ⟨q, h2, by omega⟩
theorem lfp_mono {F G : Nat → Nat} {r D E : Nat} (hF : ∀ x y, x ≤ y → F x ≤ F y) (h1 : ∀ x, 1 ≤ F x) (hle : ∀ x, F x ≤ G x) (hDE : D ≤ E) (h : lfp G D = some r) : ∃ q, lfp F E = some q ∧ q ≤ r := by
  obtain ⟨r1, r2, r3, _⟩ := lfp_some h
  exact lfp_pre hF h1 r1 (by omega) (by have := hle r; omega)
/-- The iteration from below: it stays below every fixed point. -/
structure Iter (F : Nat → Nat) (r : Nat) : Prop where
  pos : 1 ≤ r
  up : r ≤ F r
  le : ∀ x, 1 ≤ x → F x ≤ x → r ≤ x
theorem Iter.step {F : Nat → Nat} {r : Nat} (h : Iter F r) (hF : ∀ x y, x ≤ y → F x ≤ F y) : Iter F (F r) :=
  ⟨Nat.le_trans h.pos h.up, hF _ _ h.up, fun x h1 hx => Nat.le_trans (hF _ _ (h.le x h1 hx)) hx⟩
theorem Iter.start {F : Nat → Nat} {c : Nat} (hc : 1 ≤ c) (h : ∀ x, c ≤ F x) : Iter F c := ⟨hc, h c, fun x _ hx => Nat.le_trans (h x) hx⟩
theorem Iter.done {F : Nat → Nat} {r D : Nat} (h : Iter F r) (hr : F r = r) (hD : r ≤ D) : lfp F D = some r :=
  lfp_eq h.pos hD hr fun x h1 h2 hx => by have := h.le x h1 (by omega); omega
theorem Iter.over {F : Nat → Nat} {r D : Nat} (h : Iter F r) (hD : D < r) : lfp F D = none := by
  cases hl : lfp F D with
  | none => rfl
  | some q =>
    obtain ⟨q1, q2, q3, _⟩ := lfp_some hl
    have := h.le q q1 (by omega)
    omega

/-! ### Interference -/
def cl (ts : List T3) (j x : Nat) : Nat := (x + per (tk ts j) - 1) / per (tk ts j) * cst (tk ts j)
/-- What the tasks of A ask in an interval of length x. -/
def wkS (ts : List T3) (A : Nat → Bool) (x : Nat) : Nat := sumN (fun j => if A j = true then cl ts j x else 0) ts.length
def rF (ts : List T3) (A : Nat → Bool) (i : Nat) : Nat → Nat := fun x => cst (tk ts i) + wkS ts A x
/-- The response time of task i below the tasks of A, if it is within the deadline. -/
def resp (ts : List T3) (A : Nat → Bool) (i : Nat) : Option Nat := lfp (rF ts A i) (dln (tk ts i))
theorem cl_mono (ts : List T3) (j : Nat) {x y : Nat} (h : x ≤ y) : cl ts j x ≤ cl ts j y := Nat.mul_le_mul_right _ (Nat.div_le_div_right (by omega))
theorem wkS_x (ts : List T3) (A : Nat → Bool) {x y : Nat} (h : x ≤ y) : wkS ts A x ≤ wkS ts A y := sumN_le fun j _ => by
  split
  · exact cl_mono ts j h
  · exact Nat.le_refl _
theorem wkS_A (ts : List T3) {A B : Nat → Bool} (h : ∀ j, j < ts.length → A j = true → B j = true) (x : Nat) : wkS ts A x ≤ wkS ts B x := sumN_le fun j hj => by
  by_cases e : A j = true
  · rw [if_pos e, if_pos (h j hj e)]
    exact Nat.le_refl _
  · rw [if_neg e]
    exact Nat.zero_le _
theorem rF_mono (ts : List T3) (A : Nat → Bool) (i : Nat) : ∀ x y, x ≤ y → rF ts A i x ≤ rF ts A i y := fun _ _ h => Nat.add_le_add_left (wkS_x ts A h) _
theorem rF_pos {ts : List T3} (hv : ts.all tv = true) (A : Nat → Bool) {i : Nat} (hi : i < ts.length) : ∀ x, 1 ≤ rF ts A i x := fun x => by
  have := (tv_bd (tk_tv hv hi)).1
  unfold rF
  omega
/-- Fewer tasks above: no later. -/
theorem resp_mono {ts : List T3} (hv : ts.all tv = true) {A B : Nat → Bool} {i r : Nat} (hi : i < ts.length) (h : ∀ j, j < ts.length → A j = true → B j = true) (hr : resp ts B i = some r) : ∃ q, resp ts A i = some q ∧ q ≤ r :=
  lfp_mono (rF_mono ts A i) (rF_pos hv A hi) (fun x => Nat.add_le_add_left (wkS_A ts h x) _) (Nat.le_refl _) hr
theorem resp_congr {ts : List T3} {A B : Nat → Bool} {i : Nat} (h : ∀ j, j < ts.length → A j = B j) : resp ts A i = resp ts B i := by
  have e : rF ts A i = rF ts B i := by
    funext x
    unfold rF wkS
    rw [sumN_eq fun j hj => by rw [h j hj]]
  unfold resp
  rw [e]
/-- The same as a sum over a list without repetitions. -/
def wkL (ts : List T3) (hs : List Nat) (x : Nat) : Nat := (hs.map fun h => cl ts h x).sum
theorem wkL_eq {ts : List T3} {x : Nat} : ∀ {hs : List Nat}, hs.Nodup → (∀ h ∈ hs, h < ts.length) → wkL ts hs x = wkS ts (fun j => decide (j ∈ hs)) x
  | [], _, _ => by
    simp only [wkL, List.map_nil, List.sum_nil, wkS]
    rw [sumN_zero]
    intro i _
    rw [if_neg (by simp)]
  | h :: hs, hnd, hlt => by
    have ih := wkL_eq (ts := ts) (x := x) (hs := hs) (List.nodup_cons.1 hnd).2 fun k hk => hlt k (List.mem_cons_of_mem _ hk)
    have hnot := (List.nodup_cons.1 hnd).1
    have e := sumN_one (f := fun j => if decide (j ∈ hs) = true then cl ts j x else 0) (g := fun j => if decide (j ∈ h :: hs) = true then cl ts j x else 0) (b := h) (x := cl ts h x) (hlt h (List.mem_cons_self ..))
      (fun i _ hne => by simp only [List.mem_cons, hne, false_or])
      (by simp [hnot])
    simp only [wkL, List.map_cons, List.sum_cons] at ih ⊢
    simp only [wkS] at ih ⊢
    rw [e, ← ih]
    omega

/-! ### Audsley's algorithm -/
/-- The last one by rank among those that U names. -/
theorem last_of {U : Nat → Bool} {rank : Nat → Nat} : ∀ {n : Nat}, (∃ i, i < n ∧ U i = true) → ∃ i, i < n ∧ U i = true ∧ ∀ j, j < n → U j = true → rank j ≤ rank i
  | 0, ⟨i, h, _⟩ => absurd h (Nat.not_lt_zero _)
  | n + 1, ⟨i, hi, hU⟩ => by
    by_cases hc : ∃ i, i < n ∧ U i = true
    · obtain ⟨k, k1, k2, k3⟩ := last_of (rank := rank) hc
      by_cases hn : U n = true ∧ rank k ≤ rank n
      · refine ⟨n, by omega, hn.1, fun j hj hj2 => ?_⟩
        by_cases e : j = n
        · subst e; exact Nat.le_refl _
        · exact Nat.le_trans (k3 j (by omega) hj2) hn.2
      · refine ⟨k, by omega, k2, fun j hj hj2 => ?_⟩
        by_cases e : j = n
        · subst e
          have : ¬ rank k ≤ rank j := fun h => hn ⟨hj2, h⟩
          omega
        · exact k3 j (by omega) hj2
    · have e : i = n := by
        apply Classical.byContradiction
        intro h
        exact hc ⟨i, by omega, hU⟩
      subst e
      refine ⟨i, by omega, hU, fun j hj hj2 => ?_⟩
      have : j = i := by
        apply Classical.byContradiction
        intro h
        exact hc ⟨j, by omega, hj2⟩
      subst this
      exact Nat.le_refl _
/-- Some order is feasible: by rank, every task within its deadline. -/
def FeasR (ts : List T3) (rank : Nat → Nat) : Prop := (∀ i j, i < ts.length → j < ts.length → rank i = rank j → i = j) ∧ ∀ i, i < ts.length → resp ts (fun j => decide (rank j < rank i)) i ≠ none
/-- Where some order is feasible, one of the tasks that are left fits below the others that are left. -/
theorem aud_some {ts : List T3} (hv : ts.all tv = true) {rank : Nat → Nat} (h : FeasR ts rank) {U : Nat → Bool} (hU : ∃ i, i < ts.length ∧ U i = true) : ∃ i, i < ts.length ∧ U i = true ∧ resp ts (fun j => U j && decide (j ≠ i)) i ≠ none := by
  obtain ⟨i, h1, h2, h3⟩ := last_of (rank := rank) hU
  refine ⟨i, h1, h2, ?_⟩
  cases hr : resp ts (fun j => decide (rank j < rank i)) i with
  | none => exact absurd hr (h.2 i h1)
  | some r =>
    obtain ⟨q, hq, _⟩ := resp_mono hv h1 (A := fun j => U j && decide (j ≠ i)) (fun j hj hA => by
      simp only [Bool.and_eq_true, decide_eq_true_eq] at hA ⊢
      have := h3 j hj hA.1
      have : rank j ≠ rank i := fun e => hA.2 (h.1 j i hj h1 e)
      omega) hr
    rw [hq]
    simp

/-! ### Deadline-monotonic priorities -/
theorem sum_without {f : Nat → Nat} {S : Nat → Bool} {m n : Nat} (hm : m < n) (hS : S m = true) : sumN (fun j => if S j = true then f j else 0) n = sumN (fun j => if (S j && decide (j ≠ m)) = true then f j else 0) n + f m :=
  sumN_one (b := m) hm (fun i _ hne => by simp [hne]) (by simp [hS])
theorem cl_one {ts : List T3} {j x : Nat} (h1 : 1 ≤ x) (hx : x ≤ per (tk ts j)) : cl ts j x = cst (tk ts j) := by
  unfold cl
  have : (x + per (tk ts j) - 1) / per (tk ts j) = 1 := by
    rw [Nat.div_eq_iff (by omega)]
    omega
  rw [this, Nat.one_mul]
/-- Job order by deadline, then by index. -/
def dmB (ts : List T3) (j i : Nat) : Bool := decide (dln (tk ts j) < dln (tk ts i) ∨ (dln (tk ts j) = dln (tk ts i) ∧ j < i))
theorem dm_best {ts : List T3} (hv : ts.all tv = true) {rank : Nat → Nat} (h : FeasR ts rank) {i : Nat} (hi : i < ts.length) : resp ts (fun j => dmB ts j i) i ≠ none := by
  obtain ⟨m, m1, m2, m3⟩ := last_of (n := ts.length) (rank := rank) (U := fun j => dmB ts j i || decide (j = i)) ⟨i, hi, by simp⟩
  have hbm := tv_bd (tk_tv hv m1)
  have hbi := tv_bd (tk_tv hv hi)
  have hdm : dln (tk ts m) ≤ dln (tk ts i) := by
    simp only [Bool.or_eq_true, dmB, decide_eq_true_eq] at m2
    rcases m2 with (h | ⟨h, _⟩) | h
    · omega
    · omega
    · rw [h]; exact Nat.le_refl _
  cases hr : resp ts (fun j => decide (rank j < rank m)) m with
  | none => exact absurd hr (h.2 m m1)
  | some r0 =>
    obtain ⟨r, hq, _⟩ := resp_mono hv m1 (A := fun j => (dmB ts j i || decide (j = i)) && decide (j ≠ m)) (fun j hj hA => by
      simp only [Bool.and_eq_true, decide_eq_true_eq] at hA ⊢
      have := m3 j hj hA.1
      have : rank j ≠ rank m := fun e => hA.2 (h.1 j m hj m1 e)
      omega) hr
    obtain ⟨r1, r2, r3, _⟩ := lfp_some hq
    have e1 := sum_without (f := fun j => cl ts j r) (S := fun j => dmB ts j i || decide (j = i)) m1 m2
    have e2 := sum_without (f := fun j => cl ts j r) (S := fun j => dmB ts j i || decide (j = i)) (m := i) hi (by simp)
    have c1 : cl ts m r = cst (tk ts m) := cl_one r1 (by omega)
    have c2 : cl ts i r = cst (tk ts i) := cl_one r1 (by omega)
    have e3 : wkS ts (fun j => dmB ts j i) r = sumN (fun j => if ((dmB ts j i || decide (j = i)) && decide (j ≠ i)) = true then cl ts j r else 0) ts.length := sumN_eq fun j hj => by
      by_cases e : j = i
      · subst e
        have : dmB ts j j = false := by simp [dmB]
        simp [this]
      · simp [e]
    have e4 : rF ts (fun j => (dmB ts j i || decide (j = i)) && decide (j ≠ m)) m r = cst (tk ts m) + sumN (fun j => if ((dmB ts j i || decide (j = i)) && decide (j ≠ m)) = true then cl ts j r else 0) ts.length := rfl
    rw [e4] at r3
    have e5 : rF ts (fun j => dmB ts j i) i r = r := by
      show cst (tk ts i) + wkS ts (fun j => dmB ts j i) r = r
      rw [e3]
      omega
    obtain ⟨q, hq2, _⟩ := lfp_pre (D := dln (tk ts i)) (rF_mono ts (fun j => dmB ts j i) i) (rF_pos hv _ hi) r1 (by omega) (Nat.le_of_eq e5)
    show lfp _ _ ≠ none
    rw [hq2]
    simp

end Go.Proofs.YtdgihkmiolnglaaGreatDoor

namespace Go.Proofs.YtdgihkmiolnglaaGreatDoor

/-- A pattern of jobs of tasks (tid: the task of a job) by priorities. -/
structure TPat (ts : List T3) (rank : Nat → Nat) (P : Pat) (tid : Nat → Nat) : Prop where
  key : ∀ k, P.key k = rank (tid k)
  lt : ∀ k, k < P.n → tid k < ts.length
  ex : ∀ k, k < P.n → P.ex k ≤ cst (tk ts (tid k))
  ap : ∀ j m, j < m → m < P.n → tid j = tid m → P.rel j + per (tk ts (tid m)) ≤ P.rel m
  ask : ∀ s R p, sumN (fun k => if rank (tid k) < p ∧ s ≤ P.rel k ∧ P.rel k < s + R then P.ex k else 0) P.n ≤ sumN (fun j => if rank j < p then cl ts j R else 0) ts.length
/-- Nothing is left of a job at its release plus the response time of its task. -/
theorem fix_gen {ts : List T3} {rank : Nat → Nat} {P : Pat} {tid : Nat → Nat} (hv : ts.all tv = true) (hT : TPat ts rank P tid) (hinj : ∀ i j, i < ts.length → j < ts.length → rank i = rank j → i = j) {m : Nat} (hm : m < P.n) {R : Nat}
    (hR : interf ts rank (tid m) R = R) (hd : R ≤ dln (tk ts (tid m))) : P.left (P.rel m + R) m = 0 := by
  induction m using Nat.strongRecOn with
  | ind m ih =>
    have hb := tv_bd (tk_tv hv (hT.lt m hm))
    have hold : ∀ j, j < m → tid j = tid m → ∀ u, P.rel m ≤ u → P.left u j = 0 := by
      intro j hj he u hu
      have h1 := ih j hj (by omega) (by rw [he]; exact hR) (by rw [he]; exact hd)
      have h2 := hT.ap j m hj hm he
      have h3 := P.left_mono j (show P.rel j + R ≤ u by omega)
      omega
    apply Classical.byContradiction
    intro hne
    obtain ⟨s, hs, h1, h2⟩ := P.windowA (fun k => decide (rank (tid k) < rank (tid m))) (fun i b hi hb => by
      simp only [decide_eq_true_eq] at hi ⊢
      rw [hT.key b, hT.key i] at hb
      exact Nat.lt_of_le_of_lt hb hi) (P.rel m)
    have hpos : 0 < P.left (s + R) m := by
      have := P.left_mono m (show s + R ≤ P.rel m + R by omega)
      omega
    have h3 := Pat.sumA_run (P := P) (B := fun k => decide (k = m) || (decide (rank (tid k) < rank (tid m)) && decide (P.rel k < s + R))) (s := s) (y := s + R) (by omega) (fun u hu1 hu2 => by
      by_cases hu : u < P.rel m
      · obtain ⟨b, hb1, hb2⟩ := h2 u hu1 hu
        refine ⟨b, hb1, ?_⟩
        have := (Pat.run_pos hb1).2.1
        have hr : P.rel b ≤ u := this
        simp only [decide_eq_true_eq] at hb2
        simp only [Bool.or_eq_true, Bool.and_eq_true, decide_eq_true_eq]
        exact .inr ⟨hb2, by omega⟩
      · have hlm : 0 < P.left u m := by
          have := P.left_mono m (show u ≤ s + R by omega)
          omega
        cases hb1 : P.run u with
        | none => exact absurd ⟨show P.rel m ≤ u by omega, hlm⟩ (best_none hb1 m hm)
        | some b =>
          refine ⟨b, rfl, ?_⟩
          obtain ⟨g1, g2, g3, g4⟩ := best_some hb1
          have hr : P.rel b ≤ u := g2
          have hbn : b < P.n := g1
          simp only [Bool.or_eq_true, Bool.and_eq_true, decide_eq_true_eq]
          have g5 := g4 m hm (show P.rel m ≤ u by omega) hlm
          rw [hT.key b, hT.key m] at g5
          rcases g5 with h | ⟨h, hbm⟩
          · exact .inr ⟨h, by omega⟩
          · left
            have he : tid b = tid m := hinj _ _ (hT.lt b hbn) (hT.lt m hm) h
            apply Classical.byContradiction
            intro hne2
            have := hold b (by omega) he u (by omega)
            omega)
    have h4 : 1 ≤ P.sumA (fun k => decide (k = m) || (decide (rank (tid k) < rank (tid m)) && decide (P.rel k < s + R))) (s + R) := by
      refine Nat.le_trans ?_ (sumN_mem (f := fun k => if (decide (k = m) || (decide (rank (tid k) < rank (tid m)) && decide (P.rel k < s + R))) = true then P.left (s + R) k else 0) hm)
      show 1 ≤ if _ then _ else _
      rw [if_pos (by simp)]
      omega
    have h5 : P.sumA (fun k => decide (k = m) || (decide (rank (tid k) < rank (tid m)) && decide (P.rel k < s + R))) s ≤
        sumN (fun k => if rank (tid k) < rank (tid m) ∧ s ≤ P.rel k ∧ P.rel k < s + R then P.ex k else 0) P.n + P.ex m := by
      have e := sumN_one (f := fun k => if rank (tid k) < rank (tid m) ∧ s ≤ P.rel k ∧ P.rel k < s + R then P.ex k else 0) (g := fun k => if k = m then P.ex m else if rank (tid k) < rank (tid m) ∧ s ≤ P.rel k ∧ P.rel k < s + R then P.ex k else 0) (b := m) (x := P.ex m) hm
        (fun i _ hne => by show (if i = m then _ else _) = _; rw [if_neg hne])
        (by show (if m = m then _ else _) = _; rw [if_pos rfl, if_neg (by rintro ⟨h, _⟩; omega)]; omega)
      rw [← e]
      refine sumN_le fun k hkn => ?_
      by_cases hkm : k = m
      · subst hkm
        rw [if_pos rfl, if_pos (by simp)]
        exact P.left_ex s k
      · rw [if_neg hkm]
        simp only [hkm, decide_false, Bool.false_or, Bool.and_eq_true, decide_eq_true_eq]
        by_cases hc : rank (tid k) < rank (tid m) ∧ P.rel k < s + R
        · rw [if_pos hc]
          by_cases hr : s ≤ P.rel k
          · rw [if_pos ⟨hc.1, hr, hc.2⟩]
            exact P.left_ex s k
          · have := h1 k hkn (by simpa using hc.1) (show P.rel k < s by omega)
            rw [this]
            exact Nat.zero_le _
        · rw [if_neg hc]
          exact Nat.zero_le _
    have h6 := hT.ask s R (rank (tid m))
    have h7 := hT.ex m hm
    unfold interf at hR
    simp only [cl] at h6
    omega

/-! ### The periodic pattern: M jobs of every task -/
theorem sumN_prod (f : Nat → Nat) (n : Nat) : ∀ M, sumN f (n * M) = sumN (fun j => sumN (fun q => f (n * q + j)) M) n
  | 0 => by
    rw [Nat.mul_zero]
    exact (sumN_zero (f := fun j => sumN (fun q => f (n * q + j)) 0) fun _ _ => rfl).symm
  | M + 1 => by
    have split : ∀ a b, sumN f (a + b) = sumN f a + sumN (fun j => f (a + j)) b := by
      intro a b
      induction b with
      | zero => simp [sumN]
      | succ b ih => rw [← Nat.add_assoc, sumN, ih, sumN]; omega
    rw [Nat.mul_succ, split, sumN_prod f n M]
    simp only [sumN]
    rw [sumN_add]
def perP (ts : List T3) (rank : Nat → Nat) (M : Nat) : Pat := ⟨ts.length * M, fun k => k / ts.length * per (tk ts (k % ts.length)), fun k => cst (tk ts (k % ts.length)), fun k => rank (k % ts.length)⟩
theorem mod_at {n q j : Nat} (h : j < n) : (n * q + j) % n = j ∧ (n * q + j) / n = q := by
  constructor
  · rw [Nat.mul_add_mod]; exact Nat.mod_eq_of_lt h
  · rw [Nat.mul_add_div (by omega)]
    rw [Nat.div_eq_of_lt h]
    omega
theorem cnt_win (p s y : Nat) : ∀ M, sumN (fun q => if s ≤ q * p ∧ q * p < y then 1 else 0) M = 0 ∨
    (1 ≤ sumN (fun q => if s ≤ q * p ∧ q * p < y then 1 else 0) M ∧ s + sumN (fun q => if s ≤ q * p ∧ q * p < y then 1 else 0) M * p ≤ M * p ∧ s + (sumN (fun q => if s ≤ q * p ∧ q * p < y then 1 else 0) M - 1) * p < y)
  | 0 => .inl rfl
  | M + 1 => by
    have ih := cnt_win p s y M
    have e : sumN (fun q => if s ≤ q * p ∧ q * p < y then 1 else 0) (M + 1) = sumN (fun q => if s ≤ q * p ∧ q * p < y then 1 else 0) M + if s ≤ M * p ∧ M * p < y then 1 else 0 := rfl
    rw [e]
    generalize sumN (fun q => if s ≤ q * p ∧ q * p < y then 1 else 0) M = c at ih ⊢
    have e2 : (M + 1) * p = M * p + p := Nat.succ_mul M p
    by_cases hc : s ≤ M * p ∧ M * p < y
    · rw [if_pos hc]
      refine .inr ⟨by omega, ?_, ?_⟩
      · rw [Nat.succ_mul, e2]
        rcases ih with h | ⟨_, h, _⟩
        · subst h; omega
        · omega
      · rw [Nat.add_sub_cancel]
        rcases ih with h | ⟨_, h, _⟩
        · subst h; omega
        · omega
    · rw [if_neg hc, Nat.add_zero]
      rcases ih with h | ⟨h1, h2, h3⟩
      · exact .inl h
      · exact .inr ⟨h1, by omega, h3⟩
theorem cnt_le {p s R : Nat} (hp : 1 ≤ p) (M : Nat) : sumN (fun q => if s ≤ q * p ∧ q * p < s + R then 1 else 0) M ≤ (R + p - 1) / p := by
  rcases cnt_win p s (s + R) M with h | ⟨h1, _, h3⟩
  · rw [h]
    exact Nat.zero_le _
  · rw [Nat.le_div_iff_mul_le (by omega)]
    generalize sumN (fun q => if s ≤ q * p ∧ q * p < s + R then 1 else 0) M = c at h1 h3 ⊢
    have : c * p = (c - 1) * p + p := by
      rw [← Nat.succ_mul]
      congr 1
      omega
    omega
theorem sumN_mul (f : Nat → Nat) (c : Nat) : ∀ n, sumN (fun i => f i * c) n = sumN f n * c
  | 0 => by simp [sumN]
  | n + 1 => by simp only [sumN]; rw [sumN_mul f c n, Nat.add_mul]
theorem perP_tpat {ts : List T3} (hv : ts.all tv = true) (rank : Nat → Nat) (M : Nat) : TPat ts rank (perP ts rank M) (fun k => k % ts.length) := by
  have hpos : ∀ k, k < ts.length * M → 0 < ts.length := fun k hk => by
    rcases Nat.eq_zero_or_pos ts.length with h | h
    · rw [h, Nat.zero_mul] at hk; omega
    · exact h
  refine ⟨fun _ => rfl, fun k hk => Nat.mod_lt _ (hpos k hk), fun _ _ => Nat.le_refl _, fun j m hj hm he => ?_, fun s R p => ?_⟩
  · show j / ts.length * per (tk ts (j % ts.length)) + per (tk ts (m % ts.length)) ≤ m / ts.length * per (tk ts (m % ts.length))
    have he' : j % ts.length = m % ts.length := he
    rw [he', ← Nat.succ_mul]
    refine Nat.mul_le_mul_right _ ?_
    have h1 := Nat.div_add_mod j ts.length
    have h2 := Nat.div_add_mod m ts.length
    apply Classical.byContradiction
    intro hn
    have h3 : m / ts.length ≤ j / ts.length := by omega
    have := Nat.mul_le_mul_left ts.length h3
    omega
  · show sumN (fun k => if rank (k % ts.length) < p ∧ s ≤ k / ts.length * per (tk ts (k % ts.length)) ∧ k / ts.length * per (tk ts (k % ts.length)) < s + R then cst (tk ts (k % ts.length)) else 0) (ts.length * M) ≤ _
    rw [sumN_prod]
    refine sumN_le fun j hj => ?_
    have hb := tv_bd (tk_tv hv hj)
    have e : sumN (fun q => if rank ((ts.length * q + j) % ts.length) < p ∧ s ≤ (ts.length * q + j) / ts.length * per (tk ts ((ts.length * q + j) % ts.length)) ∧ (ts.length * q + j) / ts.length * per (tk ts ((ts.length * q + j) % ts.length)) < s + R then cst (tk ts ((ts.length * q + j) % ts.length)) else 0) M
        = sumN (fun q => if rank j < p ∧ s ≤ q * per (tk ts j) ∧ q * per (tk ts j) < s + R then cst (tk ts j) else 0) M := sumN_eq fun q _ => by
      obtain ⟨e1, e2⟩ := mod_at (q := q) hj
      rw [e1, e2]
    rw [e]
    by_cases hr : rank j < p
    · rw [if_pos hr]
      have e2 : sumN (fun q => if rank j < p ∧ s ≤ q * per (tk ts j) ∧ q * per (tk ts j) < s + R then cst (tk ts j) else 0) M = sumN (fun q => (if s ≤ q * per (tk ts j) ∧ q * per (tk ts j) < s + R then 1 else 0) * cst (tk ts j)) M := sumN_eq fun q _ => by
        by_cases hc : s ≤ q * per (tk ts j) ∧ q * per (tk ts j) < s + R
        · rw [if_pos ⟨hr, hc⟩, if_pos hc, Nat.one_mul]
        · rw [if_neg (fun h => hc h.2), if_neg hc, Nat.zero_mul]
      rw [e2, sumN_mul]
      exact Nat.mul_le_mul_right _ (cnt_le (by omega) M)
    · rw [if_neg hr, sumN_zero fun q _ => if_neg fun h => hr h.1]
      exact Nat.le_refl _
theorem cnt_due {p d x : Nat} (hp : 1 ≤ p) : ∀ {M : Nat}, sumN (fun q => if q * p + d ≤ x then 1 else 0) M = if d ≤ x then min M ((x - d) / p + 1) else 0
  | 0 => by simp [sumN]
  | M + 1 => by
    have e : sumN (fun q => if q * p + d ≤ x then 1 else 0) (M + 1) = sumN (fun q => if q * p + d ≤ x then 1 else 0) M + if M * p + d ≤ x then 1 else 0 := rfl
    rw [e, cnt_due hp]
    by_cases hd : d ≤ x
    · rw [if_pos hd, if_pos hd]
      have key : M * p + d ≤ x ↔ M ≤ (x - d) / p := by
        rw [Nat.le_div_iff_mul_le (by omega)]
        omega
      by_cases hm : M ≤ (x - d) / p
      · rw [if_pos (key.2 hm)]
        omega
      · rw [if_neg (fun h => hm (key.1 h))]
        omega
    · rw [if_neg hd, if_neg hd, if_neg (by omega)]
/-- A set that is schedulable by priorities asks no more than fits. -/
theorem fix_dem {ts : List T3} (hv : ts.all tv = true) {rank : Nat → Nat} (hinj : ∀ i j, i < ts.length → j < ts.length → rank i = rank j → i = j)
    (hR : ∀ i, i < ts.length → ∃ R, interf ts rank i R = R ∧ R ≤ dln (tk ts i)) (x : Nat) : dem ts x ≤ x := by
  apply Classical.byContradiction
  intro hn
  have ho : x < sumN (fun k => if k / ts.length * per (tk ts (k % ts.length)) + dln (tk ts (k % ts.length)) ≤ x then (perP ts rank (x + 1)).ex k else 0) (perP ts rank (x + 1)).n := by
    have e : sumN (fun k => if k / ts.length * per (tk ts (k % ts.length)) + dln (tk ts (k % ts.length)) ≤ x then (perP ts rank (x + 1)).ex k else 0) (perP ts rank (x + 1)).n = dem ts x := by
      show sumN (fun k => if k / ts.length * per (tk ts (k % ts.length)) + dln (tk ts (k % ts.length)) ≤ x then cst (tk ts (k % ts.length)) else 0) (ts.length * (x + 1)) = _
      rw [sumN_prod, sum_dem]
      refine sumN_eq fun j hj => ?_
      have hb := tv_bd (tk_tv hv hj)
      have e : sumN (fun q => if (ts.length * q + j) / ts.length * per (tk ts ((ts.length * q + j) % ts.length)) + dln (tk ts ((ts.length * q + j) % ts.length)) ≤ x then cst (tk ts ((ts.length * q + j) % ts.length)) else 0) (x + 1)
          = sumN (fun q => (if q * per (tk ts j) + dln (tk ts j) ≤ x then 1 else 0) * cst (tk ts j)) (x + 1) := sumN_eq fun q _ => by
        obtain ⟨e1, e2⟩ := mod_at (q := q) hj
        rw [e1, e2]
        split <;> omega
      rw [e, sumN_mul, cnt_due (by omega)]
      unfold dem1
      by_cases hd : dln (tk ts j) ≤ x
      · rw [if_pos hd, if_pos hd]
        have : (x - dln (tk ts j)) / per (tk ts j) ≤ x - dln (tk ts j) := Nat.div_le_self _ _
        rw [Nat.min_eq_right (by omega)]
      · rw [if_neg hd, if_neg hd, Nat.zero_mul]
    rw [e]
    omega
  obtain ⟨k, h1, _, h3⟩ := Pat.over (perP ts rank (x + 1)) (dl := fun k => k / ts.length * per (tk ts (k % ts.length)) + dln (tk ts (k % ts.length))) ho
  have hT := perP_tpat hv rank (x + 1)
  obtain ⟨R, hr1, hr2⟩ := hR (k % ts.length) (hT.lt k h1)
  have h4 := fix_gen hv hT hinj h1 hr1 hr2
  have h5 := (perP ts rank (x + 1)).left_mono k (show (perP ts rank (x + 1)).rel k + R ≤ k / ts.length * per (tk ts (k % ts.length)) + dln (tk ts (k % ts.length)) from Nat.add_le_add_left hr2 _)
  omega
theorem interf_rF (ts : List T3) (rank : Nat → Nat) (i x : Nat) : interf ts rank i x = rF ts (fun j => decide (rank j < rank i)) i x := by
  unfold interf rF wkS
  congr 1
  exact sumN_eq fun j _ => by simp only [decide_eq_true_eq, cl]
/-- Promise 54. -/
theorem feas_edf {ts : List T3} (hs : svB ts = true) {rank : Nat → Nat} (h : FeasR ts rank) : edf ts = true := by
  refine edf_iff.2 ⟨hs, fun t _ _ => fix_dem (all_of_sv hs) h.1 (fun i hi => ?_) t⟩
  cases hr : resp ts (fun j => decide (rank j < rank i)) i with
  | none => exact absurd hr (h.2 i hi)
  | some r =>
    obtain ⟨_, r2, r3, _⟩ := lfp_some hr
    exact ⟨r, (interf_rF ts rank i r).trans r3, r2⟩

end Go.Proofs.YtdgihkmiolnglaaGreatDoor

namespace Go.Proofs.YtdgihkmiolnglaaGreatDoor

/-- The work of the jobs of the tasks of A. -/
def exA (A : Nat → Bool) (o : List J4) : Nat := sumN (fun k => if A (jid o k) = true then jex o k else 0) o.length
theorem jid_app {o : List J4} {x : J4} {k : Nat} (h : k < o.length) : jid (o ++ [x]) k = jid o k ∧ jex (o ++ [x]) k = jex o k := by simp only [jid, jex, jb_app h, and_self]
theorem jid_last (o : List J4) (x : J4) : jid (o ++ [x]) o.length = x.1.toNat ∧ jex (o ++ [x]) o.length = x.2.2.2.toNat := by simp only [jid, jex, jb_last, and_self]
theorem jid_left {o tl : List J4} {k : Nat} (h : k < o.length) : jid (o ++ tl) k = jid o k ∧ jex (o ++ tl) k = jex o k ∧ jrel (o ++ tl) k = jrel o k := by
  have e : jb (o ++ tl) k = jb o k := by simp [jb, List.getD, List.getElem?_append_left h]
  simp only [jid, jex, jrel, e, and_self]
theorem syJ_at (ts : List T3) (t i : Nat) : (syJ ts t i).1.toNat = i ∧ (syJ ts t i).2.2.2.toNat = cst (tk ts i) := ⟨Int.toNat_natCast i, rfl⟩
theorem exA_app (A : Nat → Bool) (o : List J4) (x : J4) : exA A (o ++ [x]) = exA A o + if A x.1.toNat = true then x.2.2.2.toNat else 0 := by
  unfold exA
  rw [List.length_append, List.length_singleton]
  simp only [sumN]
  congr 1
  · exact sumN_eq fun i hi => by rw [(jid_app hi).1, (jid_app hi).2]
  · rw [(jid_last o x).1, (jid_last o x).2]
theorem syI_exA (A : Nat → Bool) (ts : List T3) (L t : Nat) (o : List J4) : ∀ {i : Nat}, (syI ts L t o i).length < 60 → exA A (syI ts L t o i) = exA A o + sumN (fun m => if A m = true then (if syC ts L t m = true then cst (tk ts m) else 0) else 0) i
  | 0, _ => by simp [syI, sumN]
  | i + 1, h => by
    have hl : (syI ts L t o i).length < 60 := Nat.lt_of_le_of_lt (syI_len ts L t o (Nat.le_succ i)) h
    have ih := syI_exA A ts L t o (i := i) hl
    simp only [syI, sumN]
    by_cases hc : syC ts L t i = true
    · rw [if_pos ⟨hc, hl⟩, exA_app, ih, (syJ_at ts t i).1, (syJ_at ts t i).2, if_pos hc]
      omega
    · rw [if_neg (by rintro ⟨h, _⟩; exact hc h), ih, if_neg hc]
      simp
theorem sy_exA (A : Nat → Bool) (ts : List T3) (L : Nat) : ∀ {t : Nat}, (sy ts L t).length < 60 → exA A (sy ts L t) = sumN (fun i => if A i = true then syN ts L i t * cst (tk ts i) else 0) ts.length
  | 0, _ => by
    rw [sumN_zero fun i _ => by simp [syN, sumN]]
    rfl
  | t + 1, h => by
    have ih := sy_exA A ts L (t := t) (Nat.lt_of_le_of_lt (sy_len ts L t) h)
    have e := syI_exA A ts L t (sy ts L t) (i := ts.length) h
    show exA A (syI ts L t (sy ts L t) ts.length) = _
    rw [e, ih, ← sumN_add]
    refine sumN_eq fun i _ => ?_
    have : syN ts L i (t + 1) = syN ts L i t + if syC ts L t i = true then 1 else 0 := rfl
    rw [this, Nat.add_mul]
    by_cases hA : A i = true
    · rw [if_pos hA, if_pos hA, if_pos hA]
      split <;> simp
    · rw [if_neg hA, if_neg hA, if_neg hA]
theorem syI_le (ts : List T3) (L t : Nat) (o : List J4) : ∀ {i : Nat}, exs (syI ts L t o i) ≤ exs o + sumN (fun m => if syC ts L t m = true then cst (tk ts m) else 0) i
  | 0 => by simp [syI, sumN]
  | i + 1 => by
    have ih := syI_le ts L t o (i := i)
    simp only [syI, sumN]
    split
    · rename_i hc
      rw [exs_app, if_pos hc.1, (syJ_at ts t i).2]
      omega
    · omega
theorem sy_le (ts : List T3) (L : Nat) : ∀ {t : Nat}, exs (sy ts L t) ≤ sumN (fun i => syN ts L i t * cst (tk ts i)) ts.length
  | 0 => by simp [sy, exs, sumN]
  | t + 1 => by
    have ih := sy_le ts L (t := t)
    have e := syI_le ts L t (sy ts L t) (i := ts.length)
    show exs (syI ts L t (sy ts L t) ts.length) ≤ _
    have e2 : sumN (fun i => syN ts L i (t + 1) * cst (tk ts i)) ts.length = sumN (fun i => syN ts L i t * cst (tk ts i)) ts.length + sumN (fun m => if syC ts L t m = true then cst (tk ts m) else 0) ts.length := by
      rw [← sumN_add]
      refine sumN_eq fun i _ => ?_
      have : syN ts L i (t + 1) = syN ts L i t + if syC ts L t i = true then 1 else 0 := rfl
      rw [this, Nat.add_mul]
      split <;> simp
    omega
theorem len_le_exs {ts : List T3} {o : List J4} (hv : ts.all tv = true) (h : ∀ k, k < o.length → Leg1 ts o k) : o.length ≤ exs o := by
  have : sumN (fun _ => 1) o.length ≤ exs o := sumN_le fun k hk => ((h k hk).nat hv).2.2.2.2.2.1
  have e : ∀ n, sumN (fun _ => 1) n = n := fun n => by
    induction n with
    | zero => rfl
    | succ n ih => simp only [sumN]; omega
  rw [e] at this
  exact this
/-- In its first twelve ticks the synchronous pattern of a feasible set is not cut off. -/
theorem sy_short {ts : List T3} (h : edf ts = true) {x : Nat} (hx : x ≤ 12) : (sy ts 60 x).length < 60 := by
  have hs := (edf_iff.1 h).1
  have hv := all_of_sv hs
  have h1 := len_le_exs hv (sy_sy hv (show 60 ≤ 120 by omega) (t := x) (by omega)).leg
  have h2 := sy_le ts 60 (t := x)
  have h3 : sumN (fun i => syN ts 60 i x * cst (tk ts i)) ts.length ≤ dem ts (x + 12) := by
    rw [sum_dem]
    refine sumN_le fun i hi => ?_
    have hb := tv_bd (tk_tv hv hi)
    rw [syN_eq (by omega) (by omega) (by omega)]
    unfold dem1
    rw [if_pos (by omega)]
    refine Nat.mul_le_mul_right _ ?_
    have e : (x + per (tk ts i) - 1) / per (tk ts i) ≤ (x + 12 - dln (tk ts i) + per (tk ts i)) / per (tk ts i) := Nat.div_le_div_right (by omega)
    rwa [Nat.add_div_right _ (by omega)] at e
  have h4 := edf_any h (x + 12)
  omega
theorem syI_app (ts : List T3) (L t : Nat) (o : List J4) : ∀ i, ∃ tl, syI ts L t o i = o ++ tl
  | 0 => ⟨[], by simp [syI]⟩
  | i + 1 => by
    obtain ⟨tl, h⟩ := syI_app ts L t o i
    simp only [syI]
    split
    · exact ⟨tl ++ [syJ ts t i], by rw [h, List.append_assoc]⟩
    · exact ⟨tl, h⟩
theorem sy_app (ts : List T3) (L : Nat) {x : Nat} : ∀ {t : Nat}, x ≤ t → ∃ tl, sy ts L t = sy ts L x ++ tl
  | 0, h => by obtain rfl : x = 0 := by omega
               exact ⟨[], by simp⟩
  | t + 1, h => by
    by_cases e : x = t + 1
    · subst e; exact ⟨[], by simp⟩
    · obtain ⟨tl, h1⟩ := sy_app ts L (x := x) (t := t) (by omega)
      obtain ⟨tl2, h2⟩ := syI_app ts L t (sy ts L t) ts.length
      exact ⟨tl ++ tl2, by show syI ts L t (sy ts L t) ts.length = _; rw [h2, h1, List.append_assoc]⟩
theorem sumN_part {f : Nat → Nat} {a : Nat} : ∀ {n : Nat}, a ≤ n → sumN f a ≤ sumN f n
  | 0, h => by obtain rfl : a = 0 := by omega
               exact Nat.le_refl _
  | n + 1, h => by
    by_cases e : a = n + 1
    · subst e; exact Nat.le_refl _
    · have := sumN_part (f := f) (a := a) (n := n) (by omega)
      simp only [sumN]
      omega
/-- What higher tasks ask in the first x ticks of the synchronous pattern. -/
theorem sy_asks {ts : List T3} (h : edf ts = true) (A : Nat → Bool) {x : Nat} (hx : x ≤ 12) :
    wkS ts A x ≤ sumN (fun k => if A (jid (sy ts 60 60) k) = true ∧ jrel (sy ts 60 60) k < x then jex (sy ts 60 60) k else 0) (sy ts 60 60).length := by
  have hs := (edf_iff.1 h).1
  have hv := all_of_sv hs
  obtain ⟨tl, e⟩ := sy_app ts 60 (x := x) (t := 60) (by omega)
  have h1 := sy_exA A ts 60 (sy_short h hx)
  have hS := sy_sy hv (show 60 ≤ 120 by omega) (t := x) (by omega)
  have h2 : wkS ts A x = exA A (sy ts 60 x) := by
    rw [h1]
    unfold wkS
    refine sumN_eq fun i hi => ?_
    have hb := tv_bd (tk_tv hv hi)
    rw [syN_eq (by omega) (by omega) (by omega)]
    rfl
  rw [h2, e]
  refine Nat.le_trans (Nat.le_of_eq (sumN_eq fun k hk => ?_)) (sumN_part (a := (sy ts 60 x).length) (by simp))
  obtain ⟨e1, e2, e3⟩ := jid_left (tl := tl) hk
  have hr : jrel (sy ts 60 x ++ tl) k < x := by
    rw [e3]
    simp only [jrel]
    rcases hS.last k hk with h | ⟨_, h⟩
    · have := ((hS.leg k hk).2.1).1
      omega
    · have := ((hS.leg k hk).1).1
      omega
  rw [e1, e2]
  by_cases hA : A (jid (sy ts 60 x) k) = true
  · rw [if_pos hA, if_pos ⟨hA, hr⟩]
  · rw [if_neg hA, if_neg (fun h => hA h.1)]
/-- The first job of a task is not finished before its response time. -/
theorem crit_lo {ts : List T3} (hs : svB ts = true) {rank : Nat → Nat} (hf : FeasR ts rank) {m : Nat} (hm : m < (sy ts 60 60).length) (h0 : jrel (sy ts 60 60) m = 0) {R : Nat}
    (hR : resp ts (fun j => decide (rank j < rank (jid (sy ts 60 60) m))) (jid (sy ts 60 60) m) = some R) {x : Nat} (hx : x < R) : 0 < (fixP (sy ts 60 60) rank).left x m := by
  have he := feas_edf hs hf
  have hv := all_of_sv hs
  have hS := sy_sy hv (show 60 ≤ 120 by omega) (Nat.le_refl 60)
  have hL := (hS.leg m hm).nat hv
  have hb := tv_bd hL.2.1
  obtain ⟨r1, r2, r3, r4⟩ := lfp_some hR
  have hex : jex (sy ts 60 60) m = cst (tk ts (jid (sy ts 60 60) m)) := by simp only [jex, cst]; rw [(hS.dl m hm).2]
  apply Classical.byContradiction
  intro hn
  -- the first time at which it is finished
  have hfirst : ∀ y, (fixP (sy ts 60 60) rank).left y m = 0 → ∃ t, t < y ∧ (fixP (sy ts 60 60) rank).run t = some m ∧ (fixP (sy ts 60 60) rank).left (t + 1) m = 0 := by
    intro y
    induction y with
    | zero => intro h; have : (fixP (sy ts 60 60) rank).left 0 m = jex (sy ts 60 60) m := rfl; omega
    | succ y ih =>
      intro h
      by_cases hy : (fixP (sy ts 60 60) rank).left y m = 0
      · obtain ⟨t, a, b⟩ := ih hy
        exact ⟨t, by omega, b⟩
      · refine ⟨y, by omega, ?_, h⟩
        rw [Pat.left_succ] at h
        split at h
        · assumption
        · exact absurd h hy
  obtain ⟨t, ht, hrun, hz⟩ := hfirst x (by omega)
  obtain ⟨_, _, _, hbest⟩ := best_some hrun
  have hw := (fixP (sy ts 60 60) rank).work_le (fun k => decide (k = m) || (decide (rank (jid (sy ts 60 60) k) < rank (jid (sy ts 60 60) m)) && decide (jrel (sy ts 60 60) k < t + 1))) (Nat.zero_le (t + 1))
  have hz2 : (fixP (sy ts 60 60) rank).sumA (fun k => decide (k = m) || (decide (rank (jid (sy ts 60 60) k) < rank (jid (sy ts 60 60) m)) && decide (jrel (sy ts 60 60) k < t + 1))) (t + 1) = 0 := sumN_zero fun k hk => by
    simp only [Bool.or_eq_true, Bool.and_eq_true, decide_eq_true_eq]
    split
    · rename_i hc
      rcases hc with rfl | ⟨c1, c2⟩
      · exact hz
      · have hl0 : (fixP (sy ts 60 60) rank).left t k = 0 := by
          apply Classical.byContradiction
          intro hne
          rcases hbest k hk (show jrel (sy ts 60 60) k ≤ t by omega) (by omega) with h | ⟨h, _⟩
          · have h' : rank (jid (sy ts 60 60) m) < rank (jid (sy ts 60 60) k) := h
            omega
          · have h' : rank (jid (sy ts 60 60) m) = rank (jid (sy ts 60 60) k) := h
            omega
        have := (fixP (sy ts 60 60) rank).left_le t k
        omega
    · rfl
  have hsum : sumN (fun k => if decide (rank (jid (sy ts 60 60) k) < rank (jid (sy ts 60 60) m)) = true ∧ jrel (sy ts 60 60) k < t + 1 then jex (sy ts 60 60) k else 0) (sy ts 60 60).length + jex (sy ts 60 60) m
      = (fixP (sy ts 60 60) rank).sumA (fun k => decide (k = m) || (decide (rank (jid (sy ts 60 60) k) < rank (jid (sy ts 60 60) m)) && decide (jrel (sy ts 60 60) k < t + 1))) 0 := by
    refine (sumN_one (b := m) hm (fun i _ hne => ?_) ?_).symm
    · simp only [hne, decide_false, Bool.false_or, Bool.and_eq_true, decide_eq_true_eq]
      rfl
    · simp only [decide_true, Bool.true_or, if_true, decide_eq_true_eq]
      rw [if_neg (by rintro ⟨h, _⟩; omega)]
      show jex (sy ts 60 60) m = _
      omega
  have hask := sy_asks he (fun j => decide (rank j < rank (jid (sy ts 60 60) m))) (x := t + 1) (by omega)
  have hle : rF ts (fun j => decide (rank j < rank (jid (sy ts 60 60) m))) (jid (sy ts 60 60) m) (t + 1) ≤ t + 1 := by
    show cst _ + wkS _ _ _ ≤ _
    omega
  obtain ⟨q, hq, hq2⟩ := lfp_pre (D := dln (tk ts (jid (sy ts 60 60) m))) (rF_mono ts _ _) (rF_pos hv _ hL.1) (by omega) (by omega) hle
  have : some q = some R := hq.symm.trans hR
  simp only [Option.some.injEq] at this
  omega

end Go.Proofs.YtdgihkmiolnglaaGreatDoor

namespace Go.Proofs.YtdgihkmiolnglaaGreatDoor

/-! ### Lower priorities do not disturb -/
theorem best_is {rel left key : Nat → Nat} {now b n : Nat} (hb : b < n) (hr : rel b ≤ now) (hl : 0 < left b) (hm : ∀ i, i < n → rel i ≤ now → 0 < left i → key b < key i ∨ (key b = key i ∧ b ≤ i)) : best rel left key now n = some b := by
  cases h : best rel left key now n with
  | none => exact absurd ⟨hr, hl⟩ (best_none h b hb)
  | some c =>
    obtain ⟨c1, c2, c3, c4⟩ := best_some h
    have h1 := hm c c1 c2 c3
    have h2 := c4 b hb hr hl
    congr 1
    omega
/-- Q's jobs are some of P's, in their order; P's others come behind all of them. -/
theorem Pat.sub {P Q : Pat} {σ : Nat → Nat} (hσ : ∀ a b, a < b → b < Q.n → σ a < σ b) (hn : ∀ k, k < Q.n → σ k < P.n) (h : ∀ k, k < Q.n → P.rel (σ k) = Q.rel k ∧ P.ex (σ k) = Q.ex k ∧ P.key (σ k) = Q.key k)
    (hlow : ∀ i, i < P.n → (∀ k, k < Q.n → σ k ≠ i) → ∀ k, k < Q.n → Q.key k < P.key i) (t : Nat) : ∀ k, k < Q.n → P.left t (σ k) = Q.left t k ∧ P.fin t (σ k) = Q.fin t k := by
  have inj : ∀ a b, a < Q.n → b < Q.n → σ a = σ b → a = b := fun a b ha hb e => by
    rcases Nat.lt_trichotomy a b with h | h | h
    · have := hσ a b h hb; omega
    · exact h
    · have := hσ b a h ha; omega
  have mono : ∀ a b, a ≤ b → b < Q.n → σ a ≤ σ b := fun a b hab hb => by
    rcases Nat.lt_or_eq_of_le hab with h | h
    · exact Nat.le_of_lt (hσ a b h hb)
    · rw [h]; exact Nat.le_refl _
  induction t with
  | zero => exact fun k hk => ⟨(h k hk).2.1, rfl⟩
  | succ t ih =>
    have run : ∀ k, k < Q.n → (P.run t = some (σ k) ↔ Q.run t = some k) := by
      intro k hk
      cases hq : Q.run t with
      | none =>
        refine ⟨fun hp => ?_, fun h => by simp at h⟩
        obtain ⟨p1, p2, p3⟩ := Pat.run_pos hp
        exact absurd ⟨by rw [← (h k hk).1]; exact p2, by rw [← (ih k hk).1]; exact p3⟩ (best_none hq k hk)
      | some b =>
        obtain ⟨b1, b2, b3, b4⟩ := best_some hq
        have hp : P.run t = some (σ b) := best_is (hn b b1) (by rw [(h b b1).1]; exact b2) (by rw [(ih b b1).1]; exact b3) fun i hi h2 h3 => by
          by_cases hc : ∃ c, c < Q.n ∧ σ c = i
          · obtain ⟨c, hc1, rfl⟩ := hc
            rw [(h b b1).2.2, (h c hc1).2.2]
            rcases b4 c hc1 (by rw [← (h c hc1).1]; exact h2) (by rw [← (ih c hc1).1]; exact h3) with e | ⟨e, e2⟩
            · exact .inl e
            · exact .inr ⟨e, mono b c e2 hc1⟩
          · have := hlow i hi (fun c hc1 e => hc ⟨c, hc1, e⟩) b b1
            rw [(h b b1).2.2]
            exact .inl this
        rw [hp]
        constructor
        · intro e
          simp only [Option.some.injEq] at e
          rw [inj b k b1 hk e]
        · intro e
          simp only [Option.some.injEq] at e
          rw [e]
    intro k hk
    have e1 : P.left (t + 1) (σ k) = Q.left (t + 1) k := by
      rw [P.left_succ, Q.left_succ, (ih k hk).1]
      by_cases hr : Q.run t = some k
      · rw [if_pos hr, if_pos ((run k hk).2 hr)]
      · rw [if_neg hr, if_neg (fun e => hr ((run k hk).1 e))]
    refine ⟨e1, ?_⟩
    rw [P.fin_succ, Q.fin_succ, e1, (ih k hk).2]
    by_cases hr : Q.run t = some k ∧ Q.left (t + 1) k = 0
    · rw [if_pos hr, if_pos ⟨(run k hk).2 hr.1, hr.2⟩]
    · rw [if_neg hr, if_neg (fun e => hr ⟨(run k hk).1 e.1, e.2⟩)]

/-! ### Orders -/
/-- A permutation of the indices of a valid set. -/
def ordB (ts : List T3) (os : List Int) : Bool := svB ts && decide (os.length = ts.length) && decide (∀ x ∈ os, 0 ≤ x ∧ x < ts.length) && decide os.Nodup
theorem ordB_iff {ts : List T3} {os : List Int} : ordB ts os = true ↔ svB ts = true ∧ os.length = ts.length ∧ (∀ x ∈ os, 0 ≤ x ∧ x < ts.length) ∧ os.Nodup := by
  simp only [ordB, Bool.and_eq_true, decide_eq_true_eq, and_assoc]
theorem len_le_of_nodup : ∀ (n : Nat) (l : List Int), l.Nodup → (∀ x ∈ l, 0 ≤ x ∧ x < n) → l.length ≤ n
  | 0, l, _, h => by
    cases l with
    | nil => simp
    | cons x l => have := h x (List.mem_cons_self ..); omega
  | n + 1, l, hnd, h => by
    by_cases hm : (n : Int) ∈ l
    · have ih := len_le_of_nodup n (l.erase (n : Int)) (hnd.erase _) (fun x hx => by
        have h1 := h x (List.mem_of_mem_erase hx)
        have h2 : x ≠ (n : Int) := fun e => by rw [e] at hx; exact hnd.not_mem_erase hx
        omega)
      rw [List.length_erase_of_mem hm] at ih
      omega
    · have ih := len_le_of_nodup n l hnd (fun x hx => by
        have h1 := h x hx
        have h2 : x ≠ (n : Int) := fun e => hm (e ▸ hx)
        omega)
      omega
theorem ord_all {ts : List T3} {os : List Int} (h : ordB ts os = true) {i : Nat} (hi : i < ts.length) : (i : Int) ∈ os := by
  obtain ⟨_, h1, h2, h3⟩ := ordB_iff.1 h
  apply Classical.byContradiction
  intro hn
  have := len_le_of_nodup ts.length ((i : Int) :: os) (List.nodup_cons.2 ⟨hn, h3⟩) (fun x hx => by
    rcases List.mem_cons.1 hx with e | e
    · subst e; omega
    · exact h2 x e)
  simp only [List.length_cons] at this
  omega
/-- The place of a task in an order. -/
def rk (os : List Int) (i : Nat) : Nat := os.idxOf (i : Int)
theorem rk_lt {os : List Int} {i : Nat} (h : (i : Int) ∈ os) : rk os i < os.length := List.idxOf_lt_length_of_mem h
theorem rk_at {os : List Int} {i : Nat} (h : (i : Int) ∈ os) : os[rk os i]? = some (i : Int) := by
  have hl := rk_lt h
  rw [List.getElem?_eq_getElem hl]
  congr 1
  exact List.getElem_idxOf hl
theorem rk_inj {ts : List T3} {os : List Int} (h : ordB ts os = true) : ∀ i j, i < ts.length → j < ts.length → rk os i = rk os j → i = j := fun i j hi hj e => by
  have h1 := rk_at (ord_all h hi)
  have h2 := rk_at (ord_all h hj)
  rw [e, h2] at h1
  simp only [Option.some.injEq] at h1
  omega
/-- Before place k lie the tasks of smaller rank. -/
theorem mem_take {os : List Int} (hnd : os.Nodup) {k j : Nat} (hj : (j : Int) ∈ os) : (j : Int) ∈ os.take k ↔ rk os j < k := by
  constructor
  · intro h
    obtain ⟨p, hp, e⟩ := List.getElem_of_mem h
    rw [List.getElem_take] at e
    have hp' : p < k ∧ p < os.length := by rw [List.length_take] at hp; omega
    have h1 := rk_at hj
    have h2 : os[p]? = some (j : Int) := by rw [List.getElem?_eq_getElem hp'.2, e]
    have h3 := (List.getElem?_inj hp'.2 hnd).1 (h2.trans h1.symm)
    omega
  · intro h
    have h1 := rk_at hj
    have h2 : (os.take k)[rk os j]? = some (j : Int) := by rw [List.getElem?_take_of_lt h]; exact h1
    exact List.mem_of_getElem? h2
/-- The response time of the task at place k. -/
def rspO (ts : List T3) (os : List Int) (k : Nat) : Option Nat := resp ts (fun j => decide ((j : Int) ∈ os.take k)) (os.getD k 0).toNat
theorem rspO_rk {ts : List T3} {os : List Int} (h : ordB ts os = true) {i : Nat} (hi : i < ts.length) : rspO ts os (rk os i) = resp ts (fun j => decide (rk os j < rk os i)) i := by
  have h1 := rk_at (ord_all h hi)
  unfold rspO
  rw [List.getD, h1]
  show resp ts _ ((i : Int)).toNat = _
  rw [Int.toNat_natCast]
  exact resp_congr fun j hj => by
    rw [decide_eq_decide]
    exact mem_take (ordB_iff.1 h).2.2.2 (ord_all h hj)
/-- Feasible in this order. -/
def fixB (ts : List T3) (os : List Int) : Bool := ordB ts os && (List.range os.length).all fun k => (rspO ts os k).isSome
theorem fixB_iff {ts : List T3} {os : List Int} : fixB ts os = true ↔ ordB ts os = true ∧ FeasR ts (rk os) := by
  simp only [fixB, Bool.and_eq_true, List.all_eq_true, List.mem_range]
  constructor
  · rintro ⟨h, h2⟩
    refine ⟨h, rk_inj h, fun i hi hn => ?_⟩
    have h3 := h2 (rk os i) (rk_lt (ord_all h hi))
    rw [rspO_rk h hi, hn] at h3
    simp at h3
  · rintro ⟨h, h2⟩
    refine ⟨h, fun k hk => ?_⟩
    obtain ⟨_, hl, hr, hnd⟩ := ordB_iff.1 h
    have hx := hr os[k] (List.getElem_mem hk)
    obtain ⟨i, hi⟩ := Int.eq_ofNat_of_zero_le hx.1
    have hit : i < ts.length := by omega
    have hk2 : rk os i = k := by
      have h1 := rk_at (ord_all h hit)
      have h3 : os[k]? = some (i : Int) := by rw [List.getElem?_eq_getElem hk, hi]
      exact (List.getElem?_inj (rk_lt (ord_all h hit)) hnd).1 (h1.trans h3.symm)
    have h4 := h2.2 i hit
    rw [← rspO_rk h hit, hk2] at h4
    cases e : rspO ts os k with
    | none => exact absurd e h4
    | some r => rfl
theorem ord_rev {ts : List T3} {os : List Int} (h : ordB ts os = true) : ordB ts os.reverse = true := by
  obtain ⟨h0, h1, h2, h3⟩ := ordB_iff.1 h
  exact ordB_iff.2 ⟨h0, by simpa using h1, fun x hx => h2 x (by simpa using hx), (List.reverse_perm os).nodup_iff.2 h3⟩

end Go.Proofs.YtdgihkmiolnglaaGreatDoor

namespace Go.Proofs.YtdgihkmiolnglaaGreatDoor

/-! ### Audsley's algorithm -/
/-- Task i fits below all tasks that are not among low. -/
def fitB (ts : List T3) (low : List Int) (i : Nat) : Bool := decide ((i : Int) ∉ low) && (resp ts (fun j => decide ((j : Int) ∉ (i : Int) :: low)) i).isSome
/-- The first of the first n tasks that fits. -/
def pickA (ts : List T3) (low : List Int) : Nat → Option Nat
  | 0 => none
  | n + 1 => match pickA ts low n with
    | some i => some i
    | none => if fitB ts low n = true then some n else none
theorem pickA_some {ts : List T3} {low : List Int} {i : Nat} : ∀ {n : Nat}, pickA ts low n = some i → i < n ∧ fitB ts low i = true
  | 0, h => by simp [pickA] at h
  | n + 1, h => by
    simp only [pickA] at h
    cases hp : pickA ts low n with
    | some k =>
      rw [hp] at h
      obtain rfl : k = i := by simpa using h
      obtain ⟨h1, h2⟩ := pickA_some hp
      exact ⟨by omega, h2⟩
    | none =>
      rw [hp] at h
      simp only at h
      split at h
      · obtain rfl : n = i := by simpa using h
        exact ⟨by omega, by assumption⟩
      · simp at h
theorem pickA_none {ts : List T3} {low : List Int} : ∀ {n : Nat}, pickA ts low n = none → ∀ i, i < n → fitB ts low i = false
  | 0, _, i, hi => absurd hi (Nat.not_lt_zero _)
  | n + 1, h, i, hi => by
    simp only [pickA] at h
    cases hp : pickA ts low n with
    | some k => rw [hp] at h; simp at h
    | none =>
      rw [hp] at h
      simp only at h
      split at h
      · simp at h
      · rename_i hf
        by_cases e : i = n
        · subst e; simpa using hf
        · exact pickA_none hp i (by omega)
/-- From the lowest level upwards; k levels are left. -/
def audL (ts : List T3) : Nat → List Int → Option (List Int)
  | 0, low => some low
  | k + 1, low => match pickA ts low ts.length with
    | none => none
    | some i => audL ts k ((i : Int) :: low)
def aud (ts : List T3) : Option (List Int) := audL ts ts.length []
/-- The levels that are assigned: distinct tasks, each of which fits below all that are not at its level or below. -/
structure Low (ts : List T3) (low : List Int) : Prop where
  nd : low.Nodup
  rng : ∀ x ∈ low, 0 ≤ x ∧ x < ts.length
  fit : ∀ k, k < low.length → ∃ i : Nat, low[k]? = some (i : Int) ∧ resp ts (fun j => decide ((j : Int) ∉ low.drop k)) i ≠ none
theorem Low.nil (ts : List T3) : Low ts [] := ⟨List.nodup_nil, fun x hx => by simp at hx, fun k hk => by simp at hk⟩
theorem Low.cons {ts : List T3} {low : List Int} {i : Nat} (h : Low ts low) (hi : i < ts.length) (hf : fitB ts low i = true) : Low ts ((i : Int) :: low) := by
  simp only [fitB, Bool.and_eq_true, decide_eq_true_eq] at hf
  refine ⟨List.nodup_cons.2 ⟨hf.1, h.nd⟩, fun x hx => ?_, fun k hk => ?_⟩
  · rcases List.mem_cons.1 hx with e | e
    · subst e; omega
    · exact h.rng x e
  · cases k with
    | zero => exact ⟨i, rfl, fun e => by
        have h2 := hf.2
        simp only [List.drop_zero] at e
        rw [e] at h2
        simp at h2⟩
    | succ k =>
      obtain ⟨j, h1, h2⟩ := h.fit k (by simpa using hk)
      exact ⟨j, by simpa using h1, by simpa using h2⟩
theorem audL_low {ts : List T3} {os : List Int} : ∀ {k : Nat} {low : List Int}, Low ts low → audL ts k low = some os → Low ts os ∧ os.length = low.length + k
  | 0, low, h, e => by
    obtain rfl : low = os := by simpa [audL] using e
    exact ⟨h, rfl⟩
  | k + 1, low, h, e => by
    simp only [audL] at e
    cases hp : pickA ts low ts.length with
    | none => rw [hp] at e; simp at e
    | some i =>
      rw [hp] at e
      obtain ⟨h1, h2⟩ := pickA_some hp
      obtain ⟨h3, h4⟩ := audL_low (h.cons h1 h2) e
      exact ⟨h3, by simp only [List.length_cons] at h4; omega⟩
/-- The order that is found is feasible. -/
theorem aud_fix {ts : List T3} (hs : svB ts = true) {os : List Int} (h : aud ts = some os) : fixB ts os = true := by
  obtain ⟨hl, hlen⟩ := audL_low (Low.nil ts) h
  have ho : ordB ts os = true := ordB_iff.2 ⟨hs, by simpa using hlen, hl.rng, hl.nd⟩
  simp only [fixB, Bool.and_eq_true, List.all_eq_true, List.mem_range]
  refine ⟨ho, fun k hk => ?_⟩
  obtain ⟨i, h1, h2⟩ := hl.fit k hk
  have e : rspO ts os k = resp ts (fun j => decide ((j : Int) ∉ os.drop k)) i := by
    unfold rspO
    rw [List.getD, h1]
    show resp ts _ ((i : Int)).toNat = _
    rw [Int.toNat_natCast]
    refine resp_congr fun j hj => ?_
    rw [decide_eq_decide]
    have hin := ord_all ho hj
    rw [← List.take_append_drop k os] at hin
    have hnd := hl.nd
    rw [← List.take_append_drop k os, List.nodup_append] at hnd
    constructor
    · intro h3 h4
      exact hnd.2.2 _ h3 _ h4 rfl
    · intro h3
      rcases List.mem_append.1 hin with h4 | h4
      · exact h4
      · exact absurd h4 h3
  rw [e]
  cases hr : resp ts (fun j => decide ((j : Int) ∉ os.drop k)) i with
  | none => exact absurd hr h2
  | some r => rfl
theorem len_ge : ∀ (n : Nat) (l : List Int), (∀ i : Nat, i < n → (i : Int) ∈ l) → n ≤ l.length
  | 0, l, _ => Nat.zero_le _
  | n + 1, l, h => by
    have hm := h n (by omega)
    have ih := len_ge n (l.erase (n : Int)) fun i hi => (List.mem_erase_of_ne (by omega)).2 (h i (by omega))
    rw [List.length_erase_of_mem hm] at ih
    have : 0 < l.length := List.length_pos_of_mem hm
    omega
theorem audL_none {ts : List T3} (hv : ts.all tv = true) {rank : Nat → Nat} (hf : FeasR ts rank) : ∀ {k : Nat} {low : List Int}, Low ts low → low.length + k = ts.length → audL ts k low ≠ none
  | 0, low, _, _ => by simp [audL]
  | k + 1, low, h, hl => by
    simp only [audL]
    have hex : ∃ i, i < ts.length ∧ decide ((i : Int) ∉ low) = true := by
      apply Classical.byContradiction
      intro hn
      have : ∀ i, i < ts.length → (i : Int) ∈ low := fun i hi => by
        apply Classical.byContradiction
        intro h2
        exact hn ⟨i, hi, by simpa using h2⟩
      have := len_ge ts.length low this
      omega
    obtain ⟨i, h1, h2, h3⟩ := aud_some hv hf hex
    cases hp : pickA ts low ts.length with
    | none =>
      have := pickA_none hp i h1
      simp only [fitB, Bool.and_eq_false_iff, decide_eq_false_iff_not] at this
      rcases this with h4 | h4
      · exact absurd (by simpa using h2) h4
      · have e : resp ts (fun j => decide ((j : Int) ∉ (i : Int) :: low)) i = resp ts (fun j => decide ((j : Int) ∉ low) && decide (j ≠ i)) i := resp_congr fun j _ => by
          by_cases e1 : j = i
          · simp [e1]
          · have : ((j : Int)) ≠ (i : Int) := by omega
            simp [e1, this]
        rw [e] at h4
        cases hr : resp ts (fun j => decide ((j : Int) ∉ low) && decide (j ≠ i)) i with
        | none => exact absurd hr h3
        | some r => rw [hr] at h4; simp at h4
    | some m =>
      obtain ⟨m1, m2⟩ := pickA_some hp
      exact audL_none hv hf (h.cons m1 m2) (by simp only [List.length_cons]; omega)
/-- If none is found, no order is feasible. -/
theorem aud_none {ts : List T3} (hs : svB ts = true) (h : aud ts = none) (os : List Int) : fixB ts os = false := by
  rw [Bool.eq_false_iff]
  intro hf
  exact audL_none (all_of_sv hs) (fixB_iff.1 hf).2 (Low.nil ts) (by simp) h

/-! ### The deadline-monotonic order -/
def dmI (ts : List T3) (d : Nat) : Nat → List Int
  | 0 => []
  | i + 1 => if dln (tk ts i) = d then dmI ts d i ++ [(i : Int)] else dmI ts d i
def dmD (ts : List T3) : Nat → List Int
  | 0 => []
  | d + 1 => dmD ts d ++ dmI ts (d + 1) ts.length
/-- By ascending deadline, ties by ascending index. -/
def dmO (ts : List T3) : List Int := dmD ts 12
theorem dmI_mem {ts : List T3} {d : Nat} {x : Int} : ∀ {n : Nat}, x ∈ dmI ts d n ↔ ∃ i : Nat, x = i ∧ i < n ∧ dln (tk ts i) = d
  | 0 => by simp [dmI]
  | n + 1 => by
    have ih := dmI_mem (ts := ts) (d := d) (x := x) (n := n)
    simp only [dmI]
    constructor
    · intro h
      split at h
      · rename_i hd
        rcases List.mem_append.1 h with h | h
        · obtain ⟨i, e, h1, h2⟩ := ih.1 h
          exact ⟨i, e, by omega, h2⟩
        · exact ⟨n, by simpa using h, by omega, hd⟩
      · obtain ⟨i, e, h1, h2⟩ := ih.1 h
        exact ⟨i, e, by omega, h2⟩
    · rintro ⟨i, e, h1, h2⟩
      by_cases hi : i = n
      · subst hi
        rw [if_pos h2]
        exact List.mem_append.2 (.inr (by simp [e]))
      · have := ih.2 ⟨i, e, by omega, h2⟩
        split
        · exact List.mem_append.2 (.inl this)
        · exact this
theorem dmD_mem {ts : List T3} {x : Int} : ∀ {d : Nat}, x ∈ dmD ts d ↔ ∃ i : Nat, x = i ∧ i < ts.length ∧ 1 ≤ dln (tk ts i) ∧ dln (tk ts i) ≤ d
  | 0 => by
    simp only [dmD]
    constructor
    · intro h; simp at h
    · rintro ⟨i, _, _, h1, h2⟩; omega
  | d + 1 => by
    simp only [dmD, List.mem_append, dmI_mem]
    rw [dmD_mem (d := d)]
    constructor
    · rintro (⟨i, e, h1, h2, h3⟩ | ⟨i, e, h1, h2⟩)
      · exact ⟨i, e, h1, h2, by omega⟩
      · exact ⟨i, e, h1, by omega, by omega⟩
    · rintro ⟨i, e, h1, h2, h3⟩
      by_cases hd : dln (tk ts i) = d + 1
      · exact .inr ⟨i, e, h1, hd⟩
      · exact .inl ⟨i, e, h1, h2, by omega⟩
/-- Earlier in the order. -/
def DmLt (ts : List T3) (a b : Int) : Prop := dmB ts a.toNat b.toNat = true
theorem dmI_up {ts : List T3} {d : Nat} : ∀ {n : Nat}, (dmI ts d n).Pairwise (DmLt ts)
  | 0 => List.Pairwise.nil
  | n + 1 => by
    simp only [dmI]
    split
    · rename_i hd
      refine List.pairwise_append.2 ⟨dmI_up, List.pairwise_singleton _ _, fun a ha b hb => ?_⟩
      obtain ⟨i, rfl, h1, h2⟩ := dmI_mem.1 ha
      obtain rfl : b = (n : Int) := by simpa using hb
      simp only [DmLt, dmB, Int.toNat_natCast, decide_eq_true_eq]
      omega
    · exact dmI_up
theorem dmD_up {ts : List T3} : ∀ {d : Nat}, (dmD ts d).Pairwise (DmLt ts)
  | 0 => List.Pairwise.nil
  | d + 1 => by
    simp only [dmD]
    refine List.pairwise_append.2 ⟨dmD_up, dmI_up, fun a ha b hb => ?_⟩
    obtain ⟨i, rfl, h1, h2, h3⟩ := dmD_mem.1 ha
    obtain ⟨j, rfl, h4, h5⟩ := dmI_mem.1 hb
    simp only [DmLt, dmB, Int.toNat_natCast, decide_eq_true_eq]
    omega
theorem DmLt.ne {ts : List T3} {a b : Int} (h : DmLt ts a b) : a ≠ b := fun e => by
  subst e
  simp only [DmLt, dmB, decide_eq_true_eq] at h
  omega
theorem dm_ord {ts : List T3} (hs : svB ts = true) : ordB ts (dmO ts) = true := by
  have hv := all_of_sv hs
  have hnd : (dmO ts).Nodup := (dmD_up (ts := ts) (d := 12)).imp DmLt.ne
  have hr : ∀ x ∈ dmO ts, 0 ≤ x ∧ x < ts.length := fun x hx => by
    obtain ⟨i, rfl, h1, _⟩ := dmD_mem.1 hx
    omega
  refine ordB_iff.2 ⟨hs, Nat.le_antisymm (len_le_of_nodup _ _ hnd hr) (len_ge _ _ fun i hi => ?_), hr, hnd⟩
  have hb := tv_bd (tk_tv hv hi)
  exact dmD_mem.2 ⟨i, rfl, hi, by omega, by omega⟩
theorem dm_rk {ts : List T3} (hs : svB ts = true) {i j : Nat} (hi : i < ts.length) (hj : j < ts.length) : rk (dmO ts) j < rk (dmO ts) i ↔ dmB ts j i = true := by
  have ho := dm_ord hs
  have hup : (dmO ts).Pairwise (DmLt ts) := dmD_up
  have key : ∀ a b, a < ts.length → b < ts.length → rk (dmO ts) a < rk (dmO ts) b → dmB ts a b = true := fun a b ha hb h => by
    have h1 := rk_lt (ord_all ho hb)
    have h2 := List.pairwise_iff_getElem.1 hup _ _ (rk_lt (ord_all ho ha)) h1 h
    have e1 := rk_at (ord_all ho ha)
    have e2 := rk_at (ord_all ho hb)
    rw [List.getElem?_eq_getElem (rk_lt (ord_all ho ha))] at e1
    rw [List.getElem?_eq_getElem h1] at e2
    simp only [Option.some.injEq] at e1 e2
    rw [e1, e2] at h2
    simpa [DmLt] using h2
  constructor
  · exact key j i hj hi
  · intro h
    rcases Nat.lt_trichotomy (rk (dmO ts) j) (rk (dmO ts) i) with h1 | h1 | h1
    · exact h1
    · have := rk_inj ho j i hj hi h1
      subst this
      simp only [dmB, decide_eq_true_eq] at h
      omega
    · have h2 := key i j hi hj h1
      simp only [dmB, decide_eq_true_eq] at h h2
      omega
/-- Promise 7: it is feasible if some order is. -/
theorem dm_fix {ts : List T3} (hs : svB ts = true) {os : List Int} (h : fixB ts os = true) : fixB ts (dmO ts) = true := by
  have ho := dm_ord hs
  refine fixB_iff.2 ⟨ho, rk_inj ho, fun i hi => ?_⟩
  have h1 := dm_best (all_of_sv hs) (fixB_iff.1 h).2 hi
  rw [resp_congr (B := fun j => dmB ts j i) fun j hj => by
    rw [Bool.eq_iff_iff, decide_eq_true_iff]
    exact dm_rk hs hi hj]
  exact h1
theorem dm_aud {ts : List T3} (hs : svB ts = true) : fixB ts (dmO ts) = (aud ts).isSome := by
  cases h : aud ts with
  | none => simpa using aud_none hs h (dmO ts)
  | some os => simpa using dm_fix hs (aud_fix hs h)

end Go.Proofs.YtdgihkmiolnglaaGreatDoor

namespace Go.Proofs.YtdgihkmiolnglaaGreatDoor

/-- Two ascending lists with the same members are one. -/
theorem eq_of_up {R : Int → Int → Prop} (irr : ∀ a, ¬ R a a) (asy : ∀ a b, R a b → ¬ R b a) : ∀ {l m : List Int}, l.Pairwise R → m.Pairwise R → (∀ x, x ∈ l ↔ x ∈ m) → l = m
  | [], [], _, _, _ => rfl
  | [], b :: m, _, _, h => absurd ((h b).2 List.mem_cons_self) (by simp)
  | a :: l, [], _, _, h => absurd ((h a).1 List.mem_cons_self) (by simp)
  | a :: l, b :: m, hl, hm, h => by
    rw [List.pairwise_cons] at hl hm
    have hab : a = b := by
      rcases List.mem_cons.1 ((h a).1 List.mem_cons_self) with e | e
      · exact e
      · rcases List.mem_cons.1 ((h b).2 List.mem_cons_self) with e2 | e2
        · exact e2.symm
        · exact absurd (hl.1 b e2) (asy _ _ (hm.1 a e))
    subst hab
    refine congrArg (a :: ·) (eq_of_up irr asy hl.2 hm.2 fun x => ⟨fun hx => ?_, fun hx => ?_⟩)
    · rcases List.mem_cons.1 ((h x).1 (List.mem_cons_of_mem _ hx)) with e | e
      · subst e; exact absurd (hl.1 _ hx) (irr _)
      · exact e
    · rcases List.mem_cons.1 ((h x).2 (List.mem_cons_of_mem _ hx)) with e | e
      · subst e; exact absurd (hm.1 _ hx) (irr _)
      · exact e

/-! ### One entry moved down -/
def lowL (os : List Int) (i j : Nat) : List Int := (os.eraseIdx i).insertIdx j (os.getD i 0)
theorem lowL_len {os : List Int} {i j : Nat} (hi : i < os.length) (hj : j < os.length) : (lowL os i j).length = os.length := by
  unfold lowL
  rw [List.length_insertIdx, List.length_eraseIdx_of_lt hi, if_pos (by omega)]
  omega
/-- The same by its entries. -/
def lowF (f : Nat → Int) (i j k : Nat) : Int := if k = j then f i else if i ≤ k ∧ k < j then f (k + 1) else f k
theorem lowL_at {os : List Int} {i j k : Nat} (hij : i ≤ j) (hj : j < os.length) : (lowL os i j).getD k 0 = lowF (fun k => os.getD k 0) i j k := by
  have hl : (os.eraseIdx i).length = os.length - 1 := List.length_eraseIdx_of_lt (by omega)
  unfold lowL lowF
  simp only [List.getD_eq_getElem?_getD, List.getElem?_insertIdx, List.getElem?_eraseIdx]
  by_cases h1 : k < j
  · rw [if_pos h1, if_neg (show ¬ k = j by omega)]
    by_cases h2 : k < i
    · rw [if_pos h2, if_neg (show ¬ (i ≤ k ∧ k < j) by omega)]
    · rw [if_neg h2, if_pos (show i ≤ k ∧ k < j by omega)]
  · rw [if_neg h1]
    by_cases h2 : k = j
    · rw [if_pos h2, if_pos (by omega), if_pos h2]
      rfl
    · rw [if_neg h2, if_neg h2, if_neg (show ¬ k - 1 < i by omega), if_neg (show ¬ (i ≤ k ∧ k < j) by omega)]
      congr 2
      omega

/-! ### Audsley's algorithm, from the order of the tasks that have no level yet -/
def unL (low : List Int) (n : Nat) : List Int := ((List.range n).map fun i : Nat => (i : Int)).filter fun x => decide (x ∉ low)
theorem unL_mem {low : List Int} {n : Nat} {x : Int} : x ∈ unL low n ↔ (0 ≤ x ∧ x < n) ∧ x ∉ low := by
  simp only [unL, List.mem_filter, List.mem_map, List.mem_range, decide_eq_true_eq]
  constructor
  · rintro ⟨⟨i, h1, rfl⟩, h2⟩
    exact ⟨by omega, h2⟩
  · rintro ⟨h1, h2⟩
    exact ⟨⟨x.toNat, by omega, by omega⟩, h2⟩
theorem unL_up (low : List Int) (n : Nat) : (unL low n).Pairwise (· < ·) := by
  refine List.Pairwise.filter _ ?_
  rw [List.pairwise_map]
  exact List.pairwise_lt_range.imp fun h => by omega
theorem unL_nd (low : List Int) (n : Nat) : (unL low n).Nodup := (unL_up low n).imp fun h => by omega
theorem unL_nil (n : Nat) : unL [] n = (List.range n).map fun i : Nat => (i : Int) := by
  unfold unL
  rw [List.filter_eq_self]
  intro x _
  simp
theorem au_ord {ts : List T3} {low : List Int} (hs : svB ts = true) (h : Low ts low) : ordB ts (unL low ts.length ++ low) = true := by
  have hnd : (unL low ts.length ++ low).Nodup := List.nodup_append.2 ⟨unL_nd _ _, h.nd, fun a ha b hb e => by subst e; exact (unL_mem.1 ha).2 hb⟩
  have hr : ∀ x ∈ unL low ts.length ++ low, 0 ≤ x ∧ x < ts.length := fun x hx => by
    rcases List.mem_append.1 hx with h1 | h1
    · exact (unL_mem.1 h1).1
    · exact h.rng x h1
  refine ordB_iff.2 ⟨hs, Nat.le_antisymm (len_le_of_nodup _ _ hnd hr) (len_ge _ _ fun i hi => ?_), hr, hnd⟩
  by_cases hm : (i : Int) ∈ low
  · exact List.mem_append.2 (.inr hm)
  · exact List.mem_append.2 (.inl (unL_mem.2 ⟨by omega, hm⟩))
theorem au_len {ts : List T3} {low : List Int} (hs : svB ts = true) (h : Low ts low) : (unL low ts.length).length + low.length = ts.length := by
  have := (ordB_iff.1 (au_ord hs h)).2.1
  rwa [List.length_append] at this
theorem unL_erase {low : List Int} {n i : Nat} (hi : i < (unL low n).length) : (unL low n).eraseIdx i = unL ((unL low n)[i] :: low) n := by
  refine eq_of_up (R := (· < ·)) (fun a h => by omega) (fun a b h1 h2 => by omega) (List.Pairwise.sublist (List.eraseIdx_sublist _ _) (unL_up low n)) (unL_up _ n) fun x => ?_
  rw [List.mem_eraseIdx_iff_getElem, unL_mem]
  constructor
  · rintro ⟨j, hj, hne, rfl⟩
    have h1 := unL_mem.1 (List.getElem_mem hj)
    refine ⟨h1.1, fun hm => ?_⟩
    rcases List.mem_cons.1 hm with e | e
    · exact hne ((List.getElem_inj (unL_nd low n)).1 e)
    · exact h1.2 e
  · rintro ⟨h1, h2⟩
    have hx : x ∈ unL low n := unL_mem.2 ⟨h1, fun hm => h2 (List.mem_cons_of_mem _ hm)⟩
    obtain ⟨j, hj, rfl⟩ := List.getElem_of_mem hx
    exact ⟨j, hj, fun e => by subst e; exact h2 List.mem_cons_self, rfl⟩
/-- The entry i of those that have no level goes to their last place. -/
theorem au_low {low : List Int} {n i L : Nat} (hL : (unL low n).length = L + 1) (hi : i ≤ L) : ∃ x : Nat, (unL low n)[i]? = some (x : Int) ∧ lowL (unL low n ++ low) i L = unL ((x : Int) :: low) n ++ (x : Int) :: low ∧ (unL ((x : Int) :: low) n).length = L := by
  have hl : i < (unL low n).length := by omega
  have h0 := (unL_mem.1 (List.getElem_mem hl)).1
  obtain ⟨x, hx⟩ := Int.eq_ofNat_of_zero_le h0.1
  have he := unL_erase hl
  rw [hx] at he
  have hel : ((unL low n).eraseIdx i).length = L := by rw [List.length_eraseIdx_of_lt hl]; omega
  refine ⟨x, by rw [List.getElem?_eq_getElem hl, hx], ?_, by rw [← he]; exact hel⟩
  unfold lowL
  have hg : (unL low n ++ low).getD i 0 = (x : Int) := by
    rw [List.getD_eq_getElem?_getD, List.getElem?_append_left hl, List.getElem?_eq_getElem hl, hx]
    rfl
  rw [hg, List.eraseIdx_append_of_lt_length hl, ← he]
  obtain ⟨A, hA⟩ : ∃ A, A = (unL low n).eraseIdx i := ⟨_, rfl⟩
  rw [← hA] at hel ⊢
  subst hel
  clear hA he hL hi
  induction A with
  | nil => rfl
  | cons a A ih => simpa using ih
theorem au_resp {ts : List T3} {low : List Int} {x L : Nat} (hl : (x : Int) ∉ low) (hL : (unL ((x : Int) :: low) ts.length).length = L) : (rspO ts (unL ((x : Int) :: low) ts.length ++ (x : Int) :: low) L).isSome = fitB ts low x := by
  unfold rspO fitB
  rw [decide_eq_true hl, Bool.true_and]
  have h1 : (unL ((x : Int) :: low) ts.length ++ (x : Int) :: low).getD L 0 = (x : Int) := by
    rw [List.getD_eq_getElem?_getD, List.getElem?_append_right (by omega), hL, Nat.sub_self]
    rfl
  have h2 : (unL ((x : Int) :: low) ts.length ++ (x : Int) :: low).take L = unL ((x : Int) :: low) ts.length := by
    rw [← hL]
    exact List.take_left
  rw [h1, h2, Int.toNat_natCast]
  congr 1
  exact resp_congr fun j hj => by
    rw [decide_eq_decide, unL_mem]
    exact ⟨fun h => h.2, fun h => ⟨by omega, h⟩⟩
theorem pickA_first {ts : List T3} {low : List Int} {i : Nat} (hi : fitB ts low i = true) (h0 : ∀ j, j < i → fitB ts low j = false) : ∀ n, i < n → pickA ts low n = some i
  | 0, h => absurd h (Nat.not_lt_zero _)
  | n + 1, h => by
    simp only [pickA]
    by_cases e : i = n
    · subst e
      have : pickA ts low i = none := by
        cases hp : pickA ts low i with
        | none => rfl
        | some j =>
          obtain ⟨h1, h2⟩ := pickA_some hp
          rw [h0 j h1] at h2
          simp at h2
      rw [this]
      simp [hi]
    · rw [pickA_first hi h0 n (by omega)]
theorem fitB_low {ts : List T3} {low : List Int} {j : Nat} (h : (j : Int) ∈ low) : fitB ts low j = false := by
  simp [fitB, h]
/-- The first entry that fits is the one that is picked. -/
theorem au_pick {ts : List T3} {low : List Int} {i x : Nat} (hx : (unL low ts.length)[i]? = some (x : Int)) (hf : fitB ts low x = true) (h0 : ∀ (j y : Nat), j < i → (unL low ts.length)[j]? = some (y : Int) → fitB ts low y = false) : pickA ts low ts.length = some x := by
  obtain ⟨hl, hxe⟩ := List.getElem?_eq_some_iff.1 hx
  have hxm := unL_mem.1 (List.getElem_mem hl)
  rw [hxe] at hxm
  refine pickA_first hf (fun y hy => ?_) _ (by omega)
  by_cases hm : (y : Int) ∈ low
  · exact fitB_low hm
  · have hu : (y : Int) ∈ unL low ts.length := unL_mem.2 ⟨by omega, hm⟩
    obtain ⟨j, hj, e⟩ := List.getElem_of_mem hu
    refine h0 j y ?_ (by rw [List.getElem?_eq_getElem hj, e])
    rcases Nat.lt_trichotomy j i with h | h | h
    · exact h
    · subst h; omega
    · have := List.pairwise_iff_getElem.1 (unL_up low ts.length) i j hl hj h
      omega
theorem au_pick_none {ts : List T3} {low : List Int} (h0 : ∀ (j y : Nat), (unL low ts.length)[j]? = some (y : Int) → fitB ts low y = false) : pickA ts low ts.length = none := by
  cases hp : pickA ts low ts.length with
  | none => rfl
  | some y =>
    obtain ⟨h1, h2⟩ := pickA_some hp
    have hm : (y : Int) ∉ low := fun hm => by rw [fitB_low hm] at h2; simp at h2
    obtain ⟨j, hj, e⟩ := List.getElem_of_mem (unL_mem.2 ⟨⟨by omega, by omega⟩, hm⟩ : (y : Int) ∈ unL low ts.length)
    rw [h0 j y (by rw [List.getElem?_eq_getElem hj, e])] at h2
    simp at h2

/-! ### Insertion -/
/-- The first n values of f are those of 0..n-1, in some order. -/
structure PermF (f : Nat → Nat) (n : Nat) : Prop where
  lt : ∀ k, k < n → f k < n
  inj : ∀ a b, a < n → b < n → f a = f b → a = b
theorem PermF.swap {f : Nat → Nat} {n i j : Nat} (h : PermF f n) (hi : i < n) (hj : j < n) : PermF (swp f i j) n := by
  refine ⟨fun k hk => ?_, (Mixed.ofSwp f hi hj).inj h.inj⟩
  unfold swp
  split
  · exact h.lt _ hi
  · split
    · exact h.lt _ hj
    · exact h.lt _ hk
theorem PermF.start (n : Nat) : PermF (fun k => k) n := ⟨fun _ hk => hk, fun _ _ _ _ e => e⟩
/-- The first m values ascend. -/
def SrtF (ts : List T3) (f : Nat → Nat) (m : Nat) : Prop := ∀ a b, a < b → b < m → dmB ts (f a) (f b) = true
/-- The first i + 1 values ascend but for the one at j, which comes before those behind it. -/
structure InsF (ts : List T3) (f : Nat → Nat) (i j : Nat) : Prop where
  srt : ∀ a b, a < b → b ≤ i → a ≠ j → b ≠ j → dmB ts (f a) (f b) = true
  low : ∀ b, j < b → b ≤ i → dmB ts (f j) (f b) = true
theorem InsF.start {ts : List T3} {f : Nat → Nat} {i : Nat} (h : SrtF ts f i) : InsF ts f i i := ⟨fun a b hab hb _ h2 => h a b hab (by omega), fun b h1 h2 => by omega⟩
theorem dmB_or {ts : List T3} {a b : Nat} (h : a ≠ b) (h1 : ¬ dmB ts a b = true) : dmB ts b a = true := by
  simp only [dmB, decide_eq_true_eq] at h1 ⊢
  omega
theorem dmB_tr {ts : List T3} {a b c : Nat} (h : dmB ts a b = true) (h1 : dmB ts b c = true) : dmB ts a c = true := by
  simp only [dmB, decide_eq_true_eq] at h h1 ⊢
  omega
theorem InsF.step {ts : List T3} {f : Nat → Nat} {i j : Nat} (h : InsF ts f i (j + 1)) (hj : j + 1 ≤ i) (hl : dmB ts (f (j + 1)) (f j) = true) : InsF ts (swp f (j + 1) j) i j := by
  have e0 : swp f (j + 1) j j = f (j + 1) := by simp [swp]
  have e1 : swp f (j + 1) j (j + 1) = f j := by simp [swp]
  have e2 : ∀ k, k ≠ j → k ≠ j + 1 → swp f (j + 1) j k = f k := fun k h1 h2 => by simp [swp, h1, h2]
  refine ⟨fun a b hab hb ha hbj => ?_, fun b hb hbi => ?_⟩
  · by_cases ha1 : a = j + 1
    · subst ha1
      rw [e1, e2 b (by omega) (by omega)]
      exact h.srt j b (by omega) hb (by omega) (by omega)
    · rw [e2 a ha ha1]
      by_cases hb1 : b = j + 1
      · subst hb1
        rw [e1]
        exact h.srt a j (by omega) (by omega) ha1 (by omega)
      · rw [e2 b hbj hb1]
        exact h.srt a b hab hb ha1 hb1
  · rw [e0]
    by_cases hb1 : b = j + 1
    · subst hb1
      rw [e1]
      exact hl
    · rw [e2 b (by omega) hb1]
      exact h.low b (by omega) hbi
theorem InsF.done {ts : List T3} {f : Nat → Nat} {n i j : Nat} (h : InsF ts f i j) (hp : PermF f n) (hi : i < n) (hji : j ≤ i) (hj : j = 0 ∨ ¬ dmB ts (f j) (f (j - 1)) = true) : SrtF ts f (i + 1) := by
  intro a b hab hb
  by_cases ha : a = j
  · subst ha
    exact h.low b hab (by omega)
  · by_cases hbj : b = j
    · subst hbj
      rcases hj with e | e
      · omega
      · have h1 := dmB_or (fun e => by have := hp.inj _ _ (by omega) (by omega) e; omega) e
        by_cases ha1 : a = b - 1
        · subst ha1; exact h1
        · exact dmB_tr (h.srt a (b - 1) (by omega) (by omega) ha (by omega)) h1
    · exact h.srt a b hab (by omega) ha hbj
theorem surj_of_inj : ∀ {n : Nat} {f : Nat → Nat}, PermF f n → ∀ y, y < n → ∃ k, k < n ∧ f k = y := by
  intro n f h y hy
  apply Classical.byContradiction
  intro hn
  have hnd : ((y : Int) :: (List.range n).map fun k => (f k : Int)).Nodup := by
    refine List.nodup_cons.2 ⟨fun hm => ?_, ?_⟩
    · obtain ⟨k, hk, e⟩ := List.mem_map.1 hm
      exact hn ⟨k, List.mem_range.1 hk, by omega⟩
    · rw [List.Nodup, List.pairwise_map, List.pairwise_iff_getElem]
      intro i j hi hj hij e
      simp only [List.length_range] at hi hj
      simp only [List.getElem_range] at e
      have := h.inj i j hi hj (by omega)
      omega
  have := len_le_of_nodup n _ hnd (fun x hx => by
    rcases List.mem_cons.1 hx with e | e
    · omega
    · obtain ⟨k, hk, rfl⟩ := List.mem_map.1 e
      have := h.lt k (List.mem_range.1 hk)
      omega)
  simp only [List.length_cons, List.length_map, List.length_range] at this
  omega
/-- A sorted permutation is the deadline-monotonic order. -/
theorem srt_dm {ts : List T3} {f : Nat → Nat} (hs : svB ts = true) (hp : PermF f ts.length) (h : SrtF ts f ts.length) : (List.range ts.length).map (fun k => (f k : Int)) = dmO ts := by
  refine eq_of_up (R := DmLt ts) (fun a h => h.ne rfl) (fun a b h1 h2 => ?_) ?_ dmD_up fun x => ?_
  · simp only [DmLt, dmB, decide_eq_true_eq] at h1 h2
    omega
  · rw [List.pairwise_map, List.pairwise_iff_getElem]
    intro i j hi hj hij
    simp only [List.length_range] at hi hj
    simp only [List.getElem_range, DmLt, Int.toNat_natCast]
    exact h i j hij hj
  · obtain ⟨_, hl, hr, _⟩ := ordB_iff.1 (dm_ord hs)
    constructor
    · intro hx
      obtain ⟨k, hk, rfl⟩ := List.mem_map.1 hx
      exact ord_all (dm_ord hs) (hp.lt k (List.mem_range.1 hk))
    · intro hx
      have h1 := hr x hx
      obtain ⟨k, hk, e⟩ := surj_of_inj hp x.toNat (by omega)
      exact List.mem_map.2 ⟨k, List.mem_range.2 hk, by omega⟩

end Go.Proofs.YtdgihkmiolnglaaGreatDoor
