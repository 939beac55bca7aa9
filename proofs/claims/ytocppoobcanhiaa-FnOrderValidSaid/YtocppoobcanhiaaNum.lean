/- Plain arithmetic: the least common multiple of the periods and the sum of the utilizations of a task set, as numbers; no program in sight. -/
namespace Go.Proofs.Ytocppoobcanhiaa

/-- The document's condition on a task, as a Bool. -/
def tvB (c d p : Int) : Bool := decide (1 ≤ c ∧ c ≤ 8 ∧ c ≤ d ∧ d ≤ p ∧ p ≤ 12)
def tv (t : Int × Int × Int) : Bool := tvB t.1 t.2.1 t.2.2
/-- The document's condition on a task set. -/
def svB (ts : List (Int × Int × Int)) : Bool := ts.all tv && decide (ts.length ≤ 5)
theorem tvB_iff (c d p : Int) : tvB c d p = true ↔ (1 ≤ c ∧ c ≤ 8 ∧ c ≤ d ∧ d ≤ p ∧ p ≤ 12) := by simp [tvB]

def per (t : Int × Int × Int) : Nat := t.2.2.toNat
def cst (t : Int × Int × Int) : Nat := t.1.toNat
/-- The least common multiple of the periods. -/
def hyp (ts : List (Int × Int × Int)) : Nat := ts.foldl (fun h t => Nat.lcm h (per t)) 1
/-- What Hyperperiod returns. -/
def hyB (ts : List (Int × Int × Int)) : Nat := if svB ts = true then hyp ts else 0

theorem hyp_nil : hyp [] = 1 := rfl
theorem hyp_snoc (ts : List (Int × Int × Int)) (t : Int × Int × Int) : hyp (ts ++ [t]) = Nat.lcm (hyp ts) (per t) := by simp [hyp]
theorem per_dvd {t : Int × Int × Int} (h : tv t = true) : per t ∣ 27720 ∧ 1 ≤ per t ∧ per t ≤ 12 ∧ ((per t : Nat) : Int) = t.2.2 := by
  obtain ⟨c, d, p⟩ := t
  have h' := (tvB_iff c d p).1 h
  simp only [per]
  obtain ⟨n, rfl⟩ : ∃ n : Nat, p = n := ⟨p.toNat, by omega⟩
  have h1 : 1 ≤ n := by omega
  have h2 : n ≤ 12 := by omega
  refine ⟨?_, by simpa using h1, by simpa using h2, by simp⟩
  simp only [Int.toNat_natCast]
  have : n = 1 ∨ n = 2 ∨ n = 3 ∨ n = 4 ∨ n = 5 ∨ n = 6 ∨ n = 7 ∨ n = 8 ∨ n = 9 ∨ n = 10 ∨ n = 11 ∨ n = 12 := by omega
  rcases this with rfl | rfl | rfl | rfl | rfl | rfl | rfl | rfl | rfl | rfl | rfl | rfl <;> decide
theorem cst_le {t : Int × Int × Int} (h : tv t = true) : 1 ≤ cst t ∧ cst t ≤ per t ∧ ((cst t : Nat) : Int) = t.1 := by
  obtain ⟨c, d, p⟩ := t
  have h' := (tvB_iff c d p).1 h
  simp only [cst, per]
  omega

theorem snoc_ind {α : Type} {P : List α → Prop} (h0 : P []) (h1 : ∀ l a, P l → P (l ++ [a])) (l : List α) : P l := by
  have : ∀ l : List α, P l.reverse := by
    intro l
    induction l with
    | nil => exact h0
    | cons a l ih => rw [List.reverse_cons]; exact h1 _ _ ih
  have h := this l.reverse
  rwa [List.reverse_reverse] at h

theorem hyp_dvd (ts : List (Int × Int × Int)) (h : ts.all tv = true) : hyp ts ∣ 27720 := by
  induction ts using snoc_ind with
  | h0 => exact ⟨27720, rfl⟩
  | h1 l a ih =>
    rw [List.all_append, Bool.and_eq_true] at h
    rw [hyp_snoc]
    exact Nat.lcm_dvd (ih h.1) (per_dvd (by simpa using h.2)).1
theorem hyp_bd (ts : List (Int × Int × Int)) (h : ts.all tv = true) : 1 ≤ hyp ts ∧ hyp ts ≤ 27720 := by
  have hd := hyp_dvd ts h
  exact ⟨Nat.pos_of_dvd_of_pos hd (by decide), Nat.le_of_dvd (by decide) hd⟩
/-- The program's step. -/
theorem lcm_step (h p : Nat) : h / Nat.gcd h p * p = Nat.lcm h p := by
  rw [Nat.lcm, Nat.div_mul_right_comm (Nat.gcd_dvd_left h p)]

/-- A task set without the task at index i. -/
def wo (ts : List (Int × Int × Int)) (i : Nat) : List (Int × Int × Int) := ts.take i ++ ts.drop (i + 1)
theorem wo_length {ts : List (Int × Int × Int)} {i : Nat} (h : i < ts.length) : (wo ts i).length + 1 = ts.length := by
  rw [wo, List.length_append, List.length_take, List.length_drop]
  omega
theorem wo_mem {ts : List (Int × Int × Int)} {i : Nat} {t : Int × Int × Int} (h : t ∈ wo ts i) : t ∈ ts := by
  rcases List.mem_append.1 h with h | h
  · exact List.mem_of_mem_take h
  · exact List.mem_of_mem_drop h
theorem sv_wo {ts : List (Int × Int × Int)} (h : svB ts = true) (i : Nat) : svB (wo ts i) = true := by
  simp only [svB, Bool.and_eq_true, List.all_eq_true, decide_eq_true_eq] at h ⊢
  refine ⟨fun t ht => h.1 t (wo_mem ht), ?_⟩
  have := h.2
  rw [wo, List.length_append, List.length_take, List.length_drop]
  omega

/-! ### Fractions -/
def rn (x y : Nat) : Nat := x / Nat.gcd x y
def rd (x y : Nat) : Nat := y / Nat.gcd x y
theorem rn_rd (x y : Nat) (hy : 1 ≤ y) : Nat.gcd (rn x y) (rd x y) = 1 ∧ 1 ≤ rd x y ∧ rn x y * y = x * rd x y ∧ rn x y ≤ x ∧ rd x y ≤ y := by
  have hg : 0 < Nat.gcd x y := Nat.gcd_pos_of_pos_right x hy
  refine ⟨?_, ?_, ?_, Nat.div_le_self _ _, Nat.div_le_self _ _⟩
  · simp only [rn, rd]
    rw [Nat.gcd_div (Nat.gcd_dvd_left x y) (Nat.gcd_dvd_right x y), Nat.div_self hg]
  · exact Nat.div_pos (Nat.le_of_dvd hy (Nat.gcd_dvd_right x y)) hg
  · simp only [rn, rd]
    obtain ⟨a, ha⟩ := Nat.gcd_dvd_left x y
    obtain ⟨b, hb⟩ := Nat.gcd_dvd_right x y
    have e1 : x / Nat.gcd x y = a := Nat.div_eq_of_eq_mul_right hg ha
    have e2 : y / Nat.gcd x y = b := Nat.div_eq_of_eq_mul_right hg hb
    rw [e1, e2]
    calc a * y = a * (Nat.gcd x y * b) := by rw [← hb]
      _ = (Nat.gcd x y * a) * b := by rw [← Nat.mul_assoc, Nat.mul_comm a]
      _ = x * b := by rw [← ha]

/-- The work of one hyperperiod H. -/
def wrk (H : Nat) (ts : List (Int × Int × Int)) : Nat := ts.foldl (fun s t => s + cst t * (H / per t)) 0
theorem wrk_snoc (H : Nat) (ts : List (Int × Int × Int)) (t : Int × Int × Int) : wrk H (ts ++ [t]) = wrk H ts + cst t * (H / per t) := by simp [wrk]
theorem part_le (H c p : Nat) (h : c ≤ p) : c * (H / p) ≤ H :=
  Nat.le_trans (Nat.mul_le_mul_right _ h) (by rw [Nat.mul_comm]; exact Nat.div_mul_le_self H p)
theorem wrk_le (H : Nat) (ts : List (Int × Int × Int)) (h : ts.all tv = true) : wrk H ts ≤ ts.length * H := by
  induction ts using snoc_ind with
  | h0 => simp [wrk]
  | h1 l a ih =>
    rw [List.all_append, Bool.and_eq_true] at h
    have h1 := part_le H _ _ (cst_le (t := a) (by simpa using h.2)).2.1
    have h2 := ih h.1
    rw [wrk_snoc, List.length_append, List.length_singleton, Nat.add_mul, Nat.one_mul]
    omega
theorem per_dvd_hyp {ts : List (Int × Int × Int)} {t : Int × Int × Int} (h : t ∈ ts) : per t ∣ hyp ts := by
  induction ts using snoc_ind with
  | h0 => simp at h
  | h1 l a ih =>
    rw [hyp_snoc]
    rcases List.mem_append.1 h with h | h
    · exact Nat.dvd_trans (ih h) (Nat.dvd_lcm_left _ _)
    · rw [List.mem_singleton] at h
      rw [h]
      exact Nat.dvd_lcm_right _ _

/-- N/D is, in lowest terms, S/H. -/
def Frac (N D S H : Nat) : Prop := Nat.gcd N D = 1 ∧ 1 ≤ D ∧ N * H = D * S
theorem Frac.start (H : Nat) : Frac 0 1 0 H := ⟨rfl, Nat.le_refl _, by simp⟩
theorem Frac.dvd {N D S H : Nat} (h : Frac N D S H) : D ∣ H := by
  obtain ⟨h1, _, h3⟩ := h
  have hc : Nat.Coprime D N := by rw [Nat.coprime_iff_gcd_eq_one, Nat.gcd_comm]; exact h1
  exact Nat.Coprime.dvd_of_dvd_mul_left hc ⟨S, h3⟩
theorem Frac.num_le {N D S H k : Nat} (h : Frac N D S H) (hH : 1 ≤ H) (hS : S ≤ k * H) : N ≤ k * D := by
  obtain ⟨_, _, h3⟩ := h
  have : N * H ≤ k * D * H := by
    rw [h3]
    calc D * S ≤ D * (k * H) := Nat.mul_le_mul_left _ hS
      _ = k * D * H := by rw [← Nat.mul_assoc, Nat.mul_comm D k]
  exact Nat.le_of_mul_le_mul_right this hH
theorem Frac.unique {N D S H : Nat} (h : Frac N D S H) (hH : 1 ≤ H) : N = S / Nat.gcd H S ∧ D = H / Nat.gcd H S := by
  have hd := h.dvd
  obtain ⟨h1, h2, h3⟩ := h
  obtain ⟨q, hq⟩ := hd
  have hS : S = N * q := by
    have : D * S = D * (N * q) := by rw [← h3, hq, ← Nat.mul_assoc, ← Nat.mul_assoc, Nat.mul_comm N D]
    exact Nat.eq_of_mul_eq_mul_left h2 this
  have hqp : 0 < q := by
    rcases Nat.eq_zero_or_pos q with e | e
    · rw [e, Nat.mul_zero] at hq; omega
    · exact e
  have hg : Nat.gcd H S = q := by rw [hq, hS, Nat.gcd_mul_right, Nat.gcd_comm, h1, Nat.one_mul]
  rw [hg]
  exact ⟨by rw [hS, Nat.mul_div_cancel _ hqp], by rw [hq, Nat.mul_div_cancel _ hqp]⟩
theorem Frac.step {N D S H c p : Nat} (h : Frac N D S H) (hp : 1 ≤ p) (hd : p ∣ H) :
    Frac (rn (N * rd c p + rn c p * D) (D * rd c p)) (rd (N * rd c p + rn c p * D) (D * rd c p)) (S + c * (H / p)) H := by
  obtain ⟨h1, h2, h3⟩ := h
  obtain ⟨_, e2, e3, _, _⟩ := rn_rd c p hp
  obtain ⟨q, rfl⟩ := hd
  have hq : p * q / p = q := Nat.mul_div_cancel_left q hp
  rw [hq]
  generalize rn c p = n at *
  generalize rd c p = d at *
  have hY : 1 ≤ D * d := Nat.mul_pos h2 e2
  obtain ⟨k1, k2, k3, _, _⟩ := rn_rd (N * d + n * D) (D * d) hY
  refine ⟨k1, k2, ?_⟩
  generalize rn (N * d + n * D) (D * d) = M at *
  generalize rd (N * d + n * D) (D * d) = E at *
  have hX : (N * d + n * D) * (p * q) = (D * d) * (S + c * q) := by
    have a1 : N * d * (p * q) = D * d * S := by
      calc N * d * (p * q) = N * (p * q) * d := by rw [Nat.mul_right_comm]
        _ = D * S * d := by rw [h3]
        _ = D * d * S := by rw [Nat.mul_right_comm]
    have a2 : n * D * (p * q) = D * d * (c * q) := by
      calc n * D * (p * q) = n * p * (D * q) := by ac_rfl
        _ = c * d * (D * q) := by rw [e3]
        _ = D * d * (c * q) := by ac_rfl
    rw [Nat.add_mul, a1, a2, Nat.mul_add]
  have : M * (p * q) * (D * d) = E * (S + c * q) * (D * d) := by
    calc M * (p * q) * (D * d) = M * (D * d) * (p * q) := by rw [Nat.mul_right_comm]
      _ = (N * d + n * D) * E * (p * q) := by rw [k3]
      _ = (N * d + n * D) * (p * q) * E := by rw [Nat.mul_right_comm]
      _ = (D * d) * (S + c * q) * E := by rw [hX]
      _ = E * (S + c * q) * (D * d) := by ac_rfl
  exact Nat.eq_of_mul_eq_mul_right hY this

/-- What Utilization returns. -/
def utN (ts : List (Int × Int × Int)) : Nat := if svB ts = true then wrk (hyp ts) ts / Nat.gcd (hyp ts) (wrk (hyp ts) ts) else 0
def utD (ts : List (Int × Int × Int)) : Nat := if svB ts = true then hyp ts / Nat.gcd (hyp ts) (wrk (hyp ts) ts) else 0
end Go.Proofs.Ytocppoobcanhiaa
