/- Plain theory of chapter 5, without any program, third part: valid servers, legal requests, the test of servers (58), and isolation (8) out of that test. Conditions: those that each theorem names. -/
import Derived.Test.YtnhbmegglpgkoaaCbs2
namespace Go.Proofs.Ytnhbmegglpgkoaa

def ab (l : List A2) (k : Nat) : A2 := l.getD k (0, 0)
theorem ab_T (l : List A2) (k : Nat) : aT l k = (ab l k).1.toNat := rfl
theorem ab_X (l : List A2) (k : Nat) : aX l k = (ab l k).2.toNat := rfl
/-- One valid server: budget and period. -/
def ss1 (s : A2) : Bool := decide (1 ≤ s.1 ∧ s.1 ≤ s.2 ∧ s.2 ≤ 12)
/-- Valid servers. -/
def ssB (ss : List A2) : Bool := decide (ss.length ≤ 2) && (List.range ss.length).all fun k => ss1 (ab ss k)
theorem ssB_iff {ss : List A2} : ssB ss = true ↔ ss.length ≤ 2 ∧ ∀ k, k < ss.length → 1 ≤ (ab ss k).1 ∧ (ab ss k).1 ≤ (ab ss k).2 ∧ (ab ss k).2 ≤ 12 := by
  simp only [ssB, ss1, Bool.and_eq_true, decide_eq_true_eq, List.all_eq_true, List.mem_range]
/-- Request k is fine behind the one before it. -/
def al1 (al : List A2) (k : Nat) : Bool := decide (0 ≤ (ab al k).1 ∧ (ab al k).1 ≤ 119 ∧ 1 ≤ (ab al k).2 ∧ (ab al k).2 ≤ 20 ∧ (k = 0 ∨ (ab al (k - 1)).1 ≤ (ab al k).1))
/-- A legal request pattern. -/
def alB (al : List A2) : Bool := decide (al.length ≤ 20) && (List.range al.length).all fun k => al1 al k
theorem alB_iff {al : List A2} : alB al = true ↔ al.length ≤ 20 ∧ ∀ k, k < al.length → 0 ≤ (ab al k).1 ∧ (ab al k).1 ≤ 119 ∧ 1 ≤ (ab al k).2 ∧ (ab al k).2 ≤ 20 ∧ (k = 0 ∨ (ab al (k - 1)).1 ≤ (ab al k).1) := by
  simp only [alB, al1, Bool.and_eq_true, decide_eq_true_eq, List.all_eq_true, List.mem_range]
theorem al_ok {al : List A2} (h : alB al = true) : AlOk al := fun i hi => by
  have := (alB_iff.1 h).2 i hi
  rw [ab_X]
  omega
theorem al_tm {al : List A2} (h : alB al = true) {i : Nat} (hi : i < al.length) : aT al i ≤ 119 := by
  have := (alB_iff.1 h).2 i hi
  rw [ab_T]
  omega
theorem al_up {al : List A2} (h : alB al = true) : Cb.AlUp al := fun i j hij => by
  induction j with
  | zero => intro _; obtain rfl : i = 0 := by omega
            exact Nat.le_refl _
  | succ j ih =>
    intro hj
    by_cases e : i = j + 1
    · subst e; exact Nat.le_refl _
    · have h1 := ih (by omega) (by omega)
      have h2 := ((alB_iff.1 h).2 (j + 1) hj).2.2.2.2
      simp only [Nat.add_sub_cancel] at h2
      have h3 := (alB_iff.1 h).2 j (by omega)
      rw [ab_T, ab_T] at *
      omega
/-- The simulation of jobs by their deadlines, with servers and requests. -/
def cbOf (js : List J4) (ss : List A2) (als : List (List A2)) : Cb := ⟨edfP js, ss.length, fun k => aT ss k, fun k => aX ss k, fun k => als.getD k []⟩
def okS (ts : List T3) (js : List J4) (ss : List A2) (als : List (List A2)) : Bool := legB ts js && ssB ss && decide (als.length = ss.length) && (List.range als.length).all fun k => alB (als.getD k [])
theorem okS_iff {ts : List T3} {js : List J4} {ss : List A2} {als : List (List A2)} : okS ts js ss als = true ↔ legB ts js = true ∧ ssB ss = true ∧ als.length = ss.length ∧ ∀ k, k < als.length → alB (als.getD k []) = true := by
  simp only [okS, Bool.and_eq_true, decide_eq_true_eq, List.all_eq_true, List.mem_range, and_assoc]
theorem cb_ok {ss : List A2} {als : List (List A2)} (js : List J4) (hs : ssB ss = true) (hl : als.length = ss.length) (ha : ∀ k, k < als.length → alB (als.getD k []) = true) : (cbOf js ss als).Ok := fun k hk => by
  have hk' : k < ss.length := hk
  refine ⟨?_, al_ok (ha k (by omega))⟩
  show 1 ≤ aT ss k
  have := (ssB_iff.1 hs).2 k hk'
  rw [ab_T]
  omega

/-! ### The test of servers -/
/-- The least common multiple of the periods of the first n servers. -/
def sden (ss : List A2) : Nat → Nat
  | 0 => 1
  | n + 1 => Nat.lcm (sden ss n) (aX ss n)
/-- The bandwidth of the first n servers over d. -/
def snum (ss : List A2) (d : Nat) (n : Nat) : Nat := sumN (fun k => aT ss k * (d / aX ss k)) n
theorem sden_dvd {ss : List A2} {k : Nat} : ∀ {n : Nat}, k < n → aX ss k ∣ sden ss n
  | 0, h => absurd h (Nat.not_lt_zero _)
  | n + 1, h => by
    simp only [sden]
    by_cases e : k = n
    · subst e; exact Nat.dvd_lcm_right _ _
    · exact Nat.dvd_trans (sden_dvd (by omega)) (Nat.dvd_lcm_left _ _)
theorem sden_pos {ss : List A2} : ∀ {n : Nat}, (∀ k, k < n → 1 ≤ aX ss k) → 1 ≤ sden ss n
  | 0, _ => Nat.le_refl _
  | n + 1, h => by
    simp only [sden]
    have h1 := sden_pos (ss := ss) (n := n) fun k hk => h k (by omega)
    have h2 := h n (by omega)
    exact Nat.lcm_pos h1 h2
/-- The test: at t = 1 .. the hyperperiod demand and bandwidth fit. -/
def sfB (ts : List T3) (ss : List A2) : Bool := svB ts && ssB ss && (List.range (hyp ts)).all fun t => decide (dem ts (t + 1) * sden ss ss.length + (t + 1) * snum ss (sden ss ss.length) ss.length ≤ (t + 1) * sden ss ss.length)
theorem sfB_iff {ts : List T3} {ss : List A2} : sfB ts ss = true ↔ svB ts = true ∧ ssB ss = true ∧ ∀ t, 1 ≤ t → t ≤ hyp ts → dem ts t * sden ss ss.length + t * snum ss (sden ss ss.length) ss.length ≤ t * sden ss ss.length := by
  simp only [sfB, Bool.and_eq_true, decide_eq_true_eq, List.all_eq_true, List.mem_range, and_assoc]
  refine and_congr_right fun _ => and_congr_right fun _ => ⟨fun h t h1 h2 => ?_, fun h t ht => h (t + 1) (by omega) (by omega)⟩
  have := h (t - 1) (by omega)
  rw [show t - 1 + 1 = t by omega] at this
  exact this
theorem ss_pos {ss : List A2} (h : ssB ss = true) {k : Nat} (hk : k < ss.length) : 1 ≤ aT ss k ∧ aT ss k ≤ aX ss k ∧ aX ss k ≤ 12 := by
  have := (ssB_iff.1 h).2 k hk
  rw [ab_T, ab_X]
  omega
/-- The test holds of every length of time. -/
theorem sf_any {ts : List T3} {ss : List A2} (h : sfB ts ss = true) (x : Nat) : dem ts x * sden ss ss.length + x * snum ss (sden ss ss.length) ss.length ≤ x * sden ss ss.length := by
  obtain ⟨hv, hs, hk⟩ := sfB_iff.1 h
  have hall := all_of_sv hv
  have hb := hyp_bd ts hall
  have hH := hk _ hb.1 (Nat.le_refl _)
  rw [dem_hyper hall (fun t ht => per_dvd_hyp ht) hb.1, ← wk_hyper hall fun t ht => per_dvd_hyp ht] at hH
  induction x using Nat.strongRecOn with
  | ind x ih =>
    by_cases h0 : x = 0
    · subst h0
      rw [dem_zero ts hall]
      simp
    · by_cases h1 : x ≤ hyp ts
      · exact hk x (by omega) h1
      · have h2 := dem_split hall (hyp ts) (x - hyp ts)
        have h3 := ih (x - hyp ts) (by omega)
        rw [show hyp ts + (x - hyp ts) = x by omega] at h2
        have h4 : dem ts x * sden ss ss.length ≤ wk ts (hyp ts) * sden ss ss.length + dem ts (x - hyp ts) * sden ss ss.length := by
          rw [← Nat.add_mul]
          exact Nat.mul_le_mul_right _ h2
        have h5 : x * snum ss (sden ss ss.length) ss.length = hyp ts * snum ss (sden ss ss.length) ss.length + (x - hyp ts) * snum ss (sden ss ss.length) ss.length := by
          rw [← Nat.add_mul]
          congr 1
          omega
        have h6 : x * sden ss ss.length = hyp ts * sden ss ss.length + (x - hyp ts) * sden ss ss.length := by
          rw [← Nat.add_mul]
          congr 1
          omega
        omega
/-- Promise 8. -/
theorem cb_safe {ts : List T3} {js : List J4} {ss : List A2} {als : List (List A2)} (hok : okS ts js ss als = true) (hf : sfB ts ss = true) {m : Nat} (hm : m < js.length) (hd : jdl js m ≤ 120) : (cbOf js ss als).jl (jdl js m) m = 0 := by
  obtain ⟨hl, hs, hle, ha⟩ := okS_iff.1 hok
  refine Cb.safe (C := cbOf js ss als) (cb_ok js hs hle ha) (D := jdl js m) hm (Nat.le_refl _) (by omega) (dm := dem ts) (den := sden ss ss.length) (r := fun k => sden ss ss.length / aX ss k)
    (sden_pos fun k hk => by have := ss_pos hs hk; omega) (fun k hk => ?_) (fun s => asked_dem hl s _) (fun x => sf_any hf x)
  exact Nat.mul_div_cancel' (sden_dvd hk)
/-- Without servers the test is that of earliest deadline first. -/
theorem sf_nil (ts : List T3) : sfB ts [] = edf ts := by
  have h : sfB ts [] = true ↔ edf ts = true := by
    rw [sfB_iff, edf_iff]
    refine and_congr_right fun _ => ⟨fun h t h1 h2 => ?_, fun h => ⟨rfl, fun t h1 h2 => ?_⟩⟩
    · have := h.2 t h1 h2
      simpa [sden, snum, sumN] using this
    · have := h t h1 h2
      simpa [sden, snum, sumN] using this
  cases h1 : sfB ts [] <;> cases h2 : edf ts <;> simp_all
theorem sf_edf {ts : List T3} {ss : List A2} (h : sfB ts ss = true) : edf ts = true := by
  obtain ⟨hv, hs, hk⟩ := sfB_iff.1 h
  refine edf_iff.2 ⟨hv, fun t h1 h2 => ?_⟩
  have h3 := hk t h1 h2
  have h4 := sden_pos (ss := ss) (n := ss.length) fun k hk => by have := ss_pos hs hk; omega
  have h5 : dem ts t * sden ss ss.length ≤ t * sden ss ss.length := by omega
  exact Nat.le_of_mul_le_mul_right h5 (by omega)

/-- One server out of the list. -/
theorem sf_one {ts : List T3} {ss : List A2} (h : sfB ts ss = true) {k : Nat} (hk : k < ss.length) : sfB ts [ab ss k] = true := by
  obtain ⟨hv, hs, hf⟩ := sfB_iff.1 h
  have hp := ss_pos hs hk
  have hX : aX [ab ss k] 0 = aX ss k := rfl
  have hT : aT [ab ss k] 0 = aT ss k := rfl
  have hd : sden [ab ss k] 1 = aX ss k := by
    show Nat.lcm 1 (aX [ab ss k] 0) = aX ss k
    rw [hX, Nat.lcm_one_left]
  refine sfB_iff.2 ⟨hv, ssB_iff.2 ⟨by simp, fun j hj => ?_⟩, fun t h1 h2 => ?_⟩
  · obtain rfl : j = 0 := by simpa using hj
    exact (ssB_iff.1 hs).2 k hk
  · show dem ts t * sden [ab ss k] 1 + t * snum [ab ss k] (sden [ab ss k] 1) 1 ≤ t * sden [ab ss k] 1
    have hn : snum [ab ss k] (aX ss k) 1 = aT ss k := by
      show 0 + aT [ab ss k] 0 * (aX ss k / aX [ab ss k] 0) = aT ss k
      rw [hX, hT, Nat.div_self (by omega), Nat.zero_add, Nat.mul_one]
    rw [hd, hn]
    have h3 := hf t h1 h2
    have h4 := sden_pos (ss := ss) (n := ss.length) fun k hk => by have := ss_pos hs hk; omega
    obtain ⟨r, hr⟩ := sden_dvd (ss := ss) hk
    have hr1 : 1 ≤ r := by
      cases r with
      | zero => rw [Nat.mul_zero] at hr; omega
      | succ r => omega
    have h5 : aT ss k * r ≤ snum ss (sden ss ss.length) ss.length := by
      have : aT ss k * (sden ss ss.length / aX ss k) ≤ snum ss (sden ss ss.length) ss.length := sumN_mem (f := fun k => aT ss k * (sden ss ss.length / aX ss k)) hk
      rw [hr, Nat.mul_div_cancel_left r (by omega)] at this
      rw [hr]
      exact this
    have h6 : t * (aT ss k * r) ≤ t * snum ss (sden ss ss.length) ss.length := Nat.mul_le_mul_left t h5
    rw [hr] at h3 h6
    have h7 : (dem ts t * aX ss k + t * aT ss k) * r ≤ (t * aX ss k) * r := by
      rw [Nat.add_mul, Nat.mul_assoc, Nat.mul_assoc, Nat.mul_assoc]
      omega
    exact Nat.le_of_mul_le_mul_right h7 (by omega)
/-- The list without its entry i. -/
def wos (ss : List A2) (i : Nat) : List A2 := ss.take i ++ ss.drop (i + 1)
theorem sf_wos {ts : List T3} {ss : List A2} (h : sfB ts ss = true) {i : Nat} (hi : i < ss.length) : sfB ts (wos ss i) = true := by
  have h2 := (ssB_iff.1 (sfB_iff.1 h).2.1).1
  match ss, h2, hi with
  | [a], _, hi =>
    obtain rfl : i = 0 := by simpa using hi
    show sfB ts [] = true
    rw [sf_nil]
    exact sf_edf h
  | [a, b], _, hi =>
    have hi2 : i < 2 := hi
    by_cases e : i = 0
    · subst e
      exact sf_one h (k := 1) (by simp)
    · obtain rfl : i = 1 := by omega
      exact sf_one h (k := 0) (by simp)
/-- A fraction, the bandwidths of the first n servers added. -/
def addB (ss : List A2) (N D : Nat) : Nat → Nat × Nat
  | 0 => (N, D)
  | n + 1 => ((addB ss N D n).1 * aX ss n + (addB ss N D n).2 * aT ss n, (addB ss N D n).2 * aX ss n)
theorem addB_eq {ss : List A2} {N D H W den : Nat} (hN : N * H = D * W) (hd : ∀ k, k < ss.length → aX ss k * (den / aX ss k) = den) : ∀ {n : Nat}, n ≤ ss.length → (addB ss N D n).1 * (H * den) = (addB ss N D n).2 * (W * den + H * snum ss den n)
  | 0, _ => by
    show N * (H * den) = D * (W * den + H * 0)
    rw [Nat.mul_zero, Nat.add_zero, ← Nat.mul_assoc, hN, Nat.mul_assoc]
  | n + 1, hn => by
    have ih := addB_eq hN hd (n := n) (by omega)
    have hp := hd n (by omega)
    show ((addB ss N D n).1 * aX ss n + (addB ss N D n).2 * aT ss n) * (H * den) = (addB ss N D n).2 * aX ss n * (W * den + H * (snum ss den n + aT ss n * (den / aX ss n)))
    generalize addB ss N D n = f at ih ⊢
    show (f.1 * aX ss n + f.2 * aT ss n) * (H * den) = f.2 * aX ss n * (W * den + H * (snum ss den n + aT ss n * (den / aX ss n)))
    have e1 : f.2 * aX ss n * (W * den + H * (snum ss den n + aT ss n * (den / aX ss n))) = f.2 * (W * den + H * snum ss den n) * aX ss n + f.2 * aT ss n * (H * (aX ss n * (den / aX ss n))) := by
      simp only [Nat.mul_add, Nat.add_mul]
      ac_rfl
    rw [e1, ← ih, hp, Nat.add_mul]
    ac_rfl
theorem sf_total {ts : List T3} {ss : List A2} (h : sfB ts ss = true) {N D : Nat} (hN : N * hyp ts = D * wrk (hyp ts) ts) : (addB ss N D ss.length).1 ≤ (addB ss N D ss.length).2 := by
  obtain ⟨hv, hs, hf⟩ := sfB_iff.1 h
  have hall := all_of_sv hv
  have hb := hyp_bd ts hall
  have h1 := hf _ hb.1 (Nat.le_refl _)
  rw [dem_hyper hall (fun t ht => per_dvd_hyp ht) hb.1] at h1
  have h4 := sden_pos (ss := ss) (n := ss.length) fun k hk => by have := ss_pos hs hk; omega
  have h2 := addB_eq (ss := ss) (N := N) (D := D) (H := hyp ts) (W := wrk (hyp ts) ts) (den := sden ss ss.length) hN (fun k hk => Nat.mul_div_cancel' (sden_dvd hk)) (Nat.le_refl _)
  have h3 : (addB ss N D ss.length).1 * (hyp ts * sden ss ss.length) ≤ (addB ss N D ss.length).2 * (hyp ts * sden ss ss.length) := by
    rw [h2]
    exact Nat.mul_le_mul_left _ h1
  exact Nat.le_of_mul_le_mul_right h3 (Nat.mul_pos hb.1 h4)

end Go.Proofs.Ytnhbmegglpgkoaa
