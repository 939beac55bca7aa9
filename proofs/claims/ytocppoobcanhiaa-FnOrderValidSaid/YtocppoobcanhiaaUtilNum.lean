/- Plain arithmetic for the law of the utilization; no program in sight. -/
import Derived.Test.YtocppoobcanhiaaNum
namespace Go.Proofs.Ytocppoobcanhiaa

theorem frac_ut {ts : List (Int × Int × Int)} (h : svB ts = true) (hH : 1 ≤ hyp ts) : Frac (utN ts) (utD ts) (wrk (hyp ts) ts) (hyp ts) := by
  have e1 : utN ts = rn (wrk (hyp ts) ts) (hyp ts) := by simp [utN, h, rn, Nat.gcd_comm]
  have e2 : utD ts = rd (wrk (hyp ts) ts) (hyp ts) := by simp [utD, h, rd, Nat.gcd_comm]
  obtain ⟨k1, k2, k3, _, _⟩ := rn_rd (wrk (hyp ts) ts) (hyp ts) hH
  rw [e1, e2]
  exact ⟨k1, k2, by rw [k3, Nat.mul_comm]⟩
theorem coprime_no {N D n : Nat} (h : Nat.gcd N D = 1) (hn : 2 ≤ n) (h1 : N % n = 0) : D % n ≠ 0 := by
  intro h2
  have := Nat.dvd_gcd (Nat.dvd_of_mod_eq_zero h1) (Nat.dvd_of_mod_eq_zero h2)
  rw [h] at this
  have := Nat.le_of_dvd (by decide) this
  omega
theorem wrk_append (H : Nat) (as bs : List (Int × Int × Int)) : wrk H (as ++ bs) = wrk H as + wrk H bs := by
  induction bs using snoc_ind with
  | h0 => simp [wrk]
  | h1 l a ih => rw [← List.append_assoc, wrk_snoc, ih, wrk_snoc]; omega
theorem wrk_one (H : Nat) (t : Int × Int × Int) : wrk H [t] = cst t * (H / per t) := by simp [wrk]
theorem split_at {ts : List (Int × Int × Int)} {i : Nat} (h : i < ts.length) : ts = ts.take i ++ [ts[i]] ++ ts.drop (i + 1) := by
  rw [List.append_assoc, List.singleton_append, ← List.drop_eq_getElem_cons h, List.take_append_drop]
theorem wrk_wo {ts : List (Int × Int × Int)} {i : Nat} (h : i < ts.length) (H : Nat) : wrk H ts = wrk H (wo ts i) + cst ts[i] * (H / per ts[i]) := by
  have e := congrArg (wrk H) (split_at h)
  rw [wrk_append, wrk_append, wrk_one] at e
  rw [e, wo, wrk_append]
  omega
theorem wrk_scale (m G : Nat) (ts : List (Int × Int × Int)) (h : ∀ t ∈ ts, per t ∣ G) : wrk (m * G) ts = m * wrk G ts := by
  induction ts using snoc_ind with
  | h0 => simp [wrk]
  | h1 l a ih =>
    rw [wrk_snoc, wrk_snoc, ih fun t ht => h t (List.mem_append_left _ ht), Nat.mul_div_assoc _ (h a (by simp)), Nat.mul_add]
    congr 1
    ac_rfl
theorem all_of_sv {ts : List (Int × Int × Int)} (h : svB ts = true) : ts.all tv = true := by
  simp only [svB, Bool.and_eq_true] at h
  exact h.1
theorem hyp_wo' {ts : List (Int × Int × Int)} {i : Nat} : hyp (wo ts i) ∣ hyp ts := by
  have : ∀ us : List (Int × Int × Int), (∀ t ∈ us, t ∈ ts) → hyp us ∣ hyp ts := by
    intro us
    induction us using snoc_ind with
    | h0 => intro _; exact ⟨hyp ts, by simp [hyp]⟩
    | h1 l a ih =>
      intro hm
      rw [hyp_snoc]
      exact Nat.lcm_dvd (ih fun t ht => hm t (List.mem_append_left _ ht)) (per_dvd_hyp (hm a (by simp)))
  exact this _ fun t ht => wo_mem ht
/-- A task less: strictly less utilization. -/
theorem ut_less {ts : List (Int × Int × Int)} {i : Nat} (h : svB ts = true) (hi : i < ts.length) : utN (wo ts i) * utD ts < utN ts * utD (wo ts i) := by
  have hw := sv_wo h i
  have hH := hyp_bd ts (all_of_sv h)
  have hG := hyp_bd (wo ts i) (all_of_sv hw)
  obtain ⟨_, d1, f1⟩ := frac_ut h hH.1
  obtain ⟨_, d2, f2⟩ := frac_ut hw hG.1
  obtain ⟨m, hm⟩ := hyp_wo' (ts := ts) (i := i)
  have htv : tv ts[i] = true := by
    have := all_of_sv h
    rw [List.all_eq_true] at this
    exact this _ (List.getElem_mem hi)
  have hpd : per ts[i] ∣ hyp ts := per_dvd_hyp (List.getElem_mem hi)
  have hc := (cst_le htv).1
  have hq : 1 ≤ hyp ts / per ts[i] := Nat.div_pos (Nat.le_of_dvd hH.1 hpd) (per_dvd htv).2.1
  have hS : wrk (hyp ts) (wo ts i) < wrk (hyp ts) ts := by
    rw [wrk_wo hi (hyp ts)]
    have := Nat.mul_pos hc hq
    omega
  have hsc : utN (wo ts i) * hyp ts = utD (wo ts i) * wrk (hyp ts) (wo ts i) := by
    have e : wrk (hyp ts) (wo ts i) = m * wrk (hyp (wo ts i)) (wo ts i) := by
      have e' : hyp ts = m * hyp (wo ts i) := by rw [hm, Nat.mul_comm]
      rw [e']
      exact wrk_scale m _ _ fun t ht => per_dvd_hyp ht
    calc utN (wo ts i) * hyp ts = utN (wo ts i) * hyp (wo ts i) * m := by rw [hm, Nat.mul_assoc]
      _ = utD (wo ts i) * wrk (hyp (wo ts i)) (wo ts i) * m := by rw [f2]
      _ = utD (wo ts i) * wrk (hyp ts) (wo ts i) := by rw [e]; ac_rfl
  refine Nat.lt_of_mul_lt_mul_right (a := hyp ts) ?_
  calc utN (wo ts i) * utD ts * hyp ts = utN (wo ts i) * hyp ts * utD ts := by ac_rfl
    _ = utD (wo ts i) * wrk (hyp ts) (wo ts i) * utD ts := by rw [hsc]
    _ = utD (wo ts i) * utD ts * wrk (hyp ts) (wo ts i) := by ac_rfl
    _ < utD (wo ts i) * utD ts * wrk (hyp ts) ts := Nat.mul_lt_mul_of_pos_left hS (Nat.mul_pos d2 d1)
    _ = utD ts * wrk (hyp ts) ts * utD (wo ts i) := by ac_rfl
    _ = utN ts * hyp ts * utD (wo ts i) := by rw [f1]
    _ = utN ts * utD (wo ts i) * hyp ts := by ac_rfl
theorem ut_bd {ts : List (Int × Int × Int)} (h : svB ts = true) : 1 ≤ utD ts ∧ utD ts ≤ 27720 ∧ utN ts ≤ 138600 := by
  have hH := hyp_bd ts (all_of_sv h)
  have f := frac_ut h hH.1
  have hl : ts.length ≤ 5 := by simp only [svB, Bool.and_eq_true, decide_eq_true_eq] at h; exact h.2
  have hS : wrk (hyp ts) ts ≤ 5 * hyp ts := Nat.le_trans (wrk_le _ _ (all_of_sv h)) (Nat.mul_le_mul_right _ hl)
  have hD : utD ts ≤ 27720 := Nat.le_trans (Nat.le_of_dvd hH.1 f.dvd) hH.2
  have := f.num_le hH.1 hS
  exact ⟨f.2.1, hD, by omega⟩
end Go.Proofs.Ytocppoobcanhiaa
