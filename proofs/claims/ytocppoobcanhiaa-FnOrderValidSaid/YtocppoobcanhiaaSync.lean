/- Plain arithmetic of the synchronous release pattern (promise 49): it is legal, its deadlines are within the limit, and unless it was cut off its work is the demand bound. No dump. -/
import Derived.Test.YtocppoobcanhiaaLegal
namespace Go.Proofs.Ytocppoobcanhiaa

theorem jb_app {o : List J4} {x : J4} {k : Nat} (h : k < o.length) : jb (o ++ [x]) k = jb o k := by
  simp only [jb, List.getD_eq_getElem?_getD]
  rw [List.getElem?_append_left h]
theorem jb_last (o : List J4) (x : J4) : jb (o ++ [x]) o.length = x := by simp [jb]
theorem nx_app {ts : List T3} {o : List J4} {x : J4} : ∀ {k : Nat}, k ≤ o.length → nx ts (o ++ [x]) k = nx ts o k
  | 0, _ => rfl
  | k + 1, h => by
    funext i
    have e1 : jid (o ++ [x]) k = jid o k := by simp only [jid]; rw [jb_app (by omega)]
    have e2 : jrel (o ++ [x]) k = jrel o k := by simp only [jrel]; rw [jb_app (by omega)]
    simp only [nx]
    rw [nx_app (by omega), e1, e2]
theorem leg_app {ts : List T3} {o : List J4} {x : J4} {k : Nat} (hk : k < o.length) (h : Leg1 ts o k) : Leg1 ts (o ++ [x]) k := by
  unfold Leg1 at h ⊢
  simp only [jid] at h ⊢
  rw [jb_app hk, nx_app (by omega), jb_app (by omega : k - 1 < o.length)]
  exact h

/-- The job that a task releases at t. -/
def syJ (ts : List T3) (t i : Nat) : J4 := ((i : Int), (t : Int), (t : Int) + (tk ts i).2.1, (tk ts i).1)
/-- Whether it is in the pattern, apart from its length. -/
def syC (ts : List T3) (L t i : Nat) : Bool := decide (t % per (tk ts i) = 0) && decide (t + dln (tk ts i) ≤ L)
def syI (ts : List T3) (L t : Nat) (acc : List J4) : Nat → List J4
  | 0 => acc
  | i + 1 => if syC ts L t i = true ∧ (syI ts L t acc i).length < 60 then syI ts L t acc i ++ [syJ ts t i] else syI ts L t acc i
def sy (ts : List T3) (L : Nat) : Nat → List J4
  | 0 => []
  | t + 1 => syI ts L t (sy ts L t) ts.length

structure Sy (ts : List T3) (L t i : Nat) (o : List J4) : Prop where
  len : o.length ≤ 60
  leg : ∀ k, k < o.length → Leg1 ts o k
  dl : ∀ k, k < o.length → (jb o k).2.2.1 ≤ L ∧ (jb o k).2.2.2 = (tk ts (jid o k)).1
  last : ∀ k, k < o.length → (jb o k).2.1 < t ∨ ((jb o k).2.1 = t ∧ (jb o k).1 < i)
  nxm : ∀ m, m < ts.length → nx ts o o.length m % per (tk ts m) = 0 ∧ nx ts o o.length m ≤ t + per (tk ts m) ∧ (i ≤ m → nx ts o o.length m < t + per (tk ts m))
theorem Sy.next {ts : List T3} {L t i : Nat} {o : List J4} (h : Sy ts L t i o) : Sy ts L (t + 1) 0 o :=
  ⟨h.len, h.leg, h.dl, fun k hk => by
    rcases h.last k hk with e | ⟨e, _⟩
    · exact .inl (by omega)
    · exact .inl (by omega), fun m hm => by
    obtain ⟨h1, h2, _⟩ := h.nxm m hm
    exact ⟨h1, by omega, fun _ => by omega⟩⟩
theorem Sy.skip {ts : List T3} {L t i : Nat} {o : List J4} (h : Sy ts L t i o) : Sy ts L t (i + 1) o :=
  ⟨h.len, h.leg, h.dl, fun k hk => by
    rcases h.last k hk with e | ⟨e, e2⟩
    · exact .inl e
    · exact .inr ⟨e, by omega⟩, fun m hm => by
    obtain ⟨h1, h2, h3⟩ := h.nxm m hm
    exact ⟨h1, h2, fun hm => h3 (by omega)⟩⟩
theorem Sy.add {ts : List T3} {L t i : Nat} {o : List J4} (h : Sy ts L t i o) (hv : ts.all tv = true) (hi : i < ts.length) (ht : t < L) (hL : L ≤ 120) (hc : syC ts L t i = true) (hl : o.length < 60) : Sy ts L t (i + 1) (o ++ [syJ ts t i]) := by
  simp only [syC, Bool.and_eq_true, decide_eq_true_eq] at hc
  have hb := tv_bd (tk_tv hv hi)
  have hid : jid (o ++ [syJ ts t i]) o.length = i := by simp [jid, jb_last, syJ]
  have hrel : jrel (o ++ [syJ ts t i]) o.length = t := by simp [jrel, jb_last, syJ]
  obtain ⟨n1, n2, n3⟩ := h.nxm i hi
  have n4 : nx ts o o.length i ≤ t := by
    have n3 := n3 (Nat.le_refl _)
    obtain ⟨a, ha⟩ := Nat.dvd_of_mod_eq_zero n1
    obtain ⟨b, hb2⟩ := Nat.dvd_of_mod_eq_zero hc.1
    rw [ha] at n3 ⊢
    rw [hb2] at n3 ⊢
    refine Nat.mul_le_mul_left _ ?_
    rw [← Nat.mul_succ] at n3
    have := Nat.lt_of_mul_lt_mul_left n3
    omega
  have hnx : ∀ m, nx ts (o ++ [syJ ts t i]) (o ++ [syJ ts t i]).length m = if i = m then t + per (tk ts m) else nx ts o o.length m := by
    intro m
    rw [List.length_append, List.length_singleton]
    simp only [nx]
    rw [hid, hrel, nx_app (Nat.le_refl _)]
  refine ⟨by simp; omega, fun k hk => ?_, fun k hk => ?_, fun k hk => ?_, fun m hm => ?_⟩
  · by_cases e : k < o.length
    · exact leg_app e (h.leg k e)
    · obtain rfl : k = o.length := by simp at hk; omega
      unfold Leg1
      rw [hid, nx_app (Nat.le_refl _), jb_last]
      refine ⟨⟨by simp [syJ], by simp [syJ]; omega⟩, ⟨by simp [syJ], by simp [syJ]; omega⟩, by simp [syJ]; omega, rfl, ⟨by simp [syJ]; omega, Int.le_refl _⟩, ?_⟩
      by_cases e0 : o.length = 0
      · exact .inl e0
      · rw [jb_app (by omega : o.length - 1 < o.length)]
        rcases h.last (o.length - 1) (by omega) with e | ⟨e, e2⟩
        · exact .inr (.inl e)
        · exact .inr (.inr ⟨e, e2⟩)
  · by_cases e : k < o.length
    · have := h.dl k e
      simp only [jid] at this ⊢
      rw [jb_app e]
      exact this
    · obtain rfl : k = o.length := by simp at hk; omega
      rw [hid, jb_last]
      exact ⟨by simp only [syJ]; omega, rfl⟩
  · by_cases e : k < o.length
    · rw [jb_app e]
      rcases h.last k e with e | ⟨e, e2⟩
      · exact .inl e
      · exact .inr ⟨e, by omega⟩
    · obtain rfl : k = o.length := by simp at hk; omega
      rw [jb_last]
      exact .inr ⟨rfl, by simp only [syJ]; omega⟩
  · rw [hnx m]
    by_cases e : i = m
    · subst e
      rw [if_pos rfl]
      exact ⟨by rw [Nat.add_mod_right]; exact hc.1, Nat.le_refl _, fun h => by omega⟩
    · rw [if_neg e]
      obtain ⟨h1, h2, h3⟩ := h.nxm m hm
      exact ⟨h1, h2, fun h => h3 (by omega)⟩
theorem Sy.start {ts : List T3} {L : Nat} (hv : ts.all tv = true) : Sy ts L 0 0 [] :=
  ⟨by simp, fun k hk => by simp at hk, fun k hk => by simp at hk, fun k hk => by simp at hk, fun m hm => by
    have := tv_bd (tk_tv hv hm)
    exact ⟨by simp [nx], by simp [nx], fun _ => by simp [nx]; omega⟩⟩
theorem syI_sy {ts : List T3} {L t : Nat} {o : List J4} (h : Sy ts L t 0 o) (hv : ts.all tv = true) (ht : t < L) (hL : L ≤ 120) : ∀ {i : Nat}, i ≤ ts.length → Sy ts L t i (syI ts L t o i)
  | 0, _ => h
  | i + 1, hi => by
    have ih := syI_sy h hv ht hL (i := i) (by omega)
    simp only [syI]
    split
    · rename_i hc
      exact ih.add hv (by omega) ht hL hc.1 hc.2
    · exact ih.skip
theorem sy_sy {ts : List T3} {L : Nat} (hv : ts.all tv = true) (hL : L ≤ 120) : ∀ {t : Nat}, t ≤ L → Sy ts L t 0 (sy ts L t)
  | 0, _ => Sy.start hv
  | t + 1, ht => (syI_sy (sy_sy hv hL (t := t) (by omega)) hv (by omega) hL (Nat.le_refl _)).next
theorem sy_legal {ts : List T3} {L : Nat} (h : svB ts = true) (hL : L ≤ 120) : legB ts (sy ts L L) = true :=
  have hs := sy_sy (all_of_sv h) hL (Nat.le_refl L)
  legB_iff.2 ⟨h, hs.len, hs.leg⟩

/-! ### Its work -/
def exs (o : List J4) : Nat := sumN (jex o) o.length
theorem exs_app (o : List J4) (x : J4) : exs (o ++ [x]) = exs o + x.2.2.2.toNat := by
  unfold exs
  rw [List.length_append, List.length_singleton]
  simp only [sumN]
  congr 1
  · exact sumN_eq fun i hi => by simp only [jex]; rw [jb_app hi]
  · simp only [jex]; rw [jb_last]
theorem sumN_add (f g : Nat → Nat) : ∀ n, sumN (fun i => f i + g i) n = sumN f n + sumN g n
  | 0 => rfl
  | n + 1 => by simp only [sumN]; rw [sumN_add f g n]; omega
theorem syI_len (ts : List T3) (L t : Nat) (o : List J4) : ∀ {i j : Nat}, i ≤ j → (syI ts L t o i).length ≤ (syI ts L t o j).length
  | i, 0, h => by obtain rfl : i = 0 := by omega
                  exact Nat.le_refl _
  | i, j + 1, h => by
    by_cases e : i = j + 1
    · subst e; exact Nat.le_refl _
    · refine Nat.le_trans (syI_len ts L t o (i := i) (j := j) (by omega)) ?_
      simp only [syI]
      split
      · simp
      · exact Nat.le_refl _
theorem syI_exs (ts : List T3) (L t : Nat) (o : List J4) : ∀ {i : Nat}, (syI ts L t o i).length < 60 → exs (syI ts L t o i) = exs o + sumN (fun m => if syC ts L t m = true then cst (tk ts m) else 0) i
  | 0, _ => by simp [syI, sumN]
  | i + 1, h => by
    have ih := syI_exs ts L t o (i := i) (Nat.lt_of_le_of_lt (syI_len ts L t o (Nat.le_succ i)) h)
    have hl : (syI ts L t o i).length < 60 := Nat.lt_of_le_of_lt (syI_len ts L t o (Nat.le_succ i)) h
    simp only [syI, sumN]
    by_cases hc : syC ts L t i = true
    · rw [if_pos ⟨hc, hl⟩, if_pos hc, exs_app, ih]
      simp only [syJ, cst]
      omega
    · rw [if_neg (by rintro ⟨h, _⟩; exact hc h), if_neg hc, ih]
      omega
/-- How many releases of task i before t are in the pattern. -/
def syN (ts : List T3) (L i : Nat) (t : Nat) : Nat := sumN (fun s => if syC ts L s i = true then 1 else 0) t
theorem sy_len (ts : List T3) (L t : Nat) : (sy ts L t).length ≤ (sy ts L (t + 1)).length := syI_len ts L t (sy ts L t) (Nat.zero_le _)
theorem sy_exs (ts : List T3) (L : Nat) : ∀ {t : Nat}, (sy ts L t).length < 60 → exs (sy ts L t) = sumN (fun i => syN ts L i t * cst (tk ts i)) ts.length
  | 0, _ => by
    rw [sumN_zero fun i _ => by simp [syN, sumN]]
    rfl
  | t + 1, h => by
    have ih := sy_exs ts L (t := t) (Nat.lt_of_le_of_lt (sy_len ts L t) h)
    have e := syI_exs ts L t (sy ts L t) (i := ts.length) h
    show exs (syI ts L t (sy ts L t) ts.length) = _
    rw [e, ih, ← sumN_add]
    refine sumN_eq fun i _ => ?_
    have : syN ts L i (t + 1) = syN ts L i t + if syC ts L t i = true then 1 else 0 := rfl
    rw [this, Nat.add_mul]
    split <;> simp
theorem mult_step {p t : Nat} (hp : 1 ≤ p) : (t + 1 + p - 1) / p = (t + p - 1) / p + if t % p = 0 then 1 else 0 := by
  have h1 := Nat.div_add_mod t p
  have h2 := Nat.mod_lt t (by omega : 0 < p)
  have e : ∀ r, r < p → (p * (t / p) + r) / p = t / p := fun r hr => by
    rw [Nat.mul_add_div (by omega), Nat.div_eq_of_lt hr]; omega
  have e2 : ∀ r, r < p → (p * (t / p) + (p + r)) / p = t / p + 1 := fun r hr => by
    rw [Nat.mul_add_div (by omega), Nat.add_div_left _ (by omega), Nat.div_eq_of_lt hr]
  by_cases h0 : t % p = 0
  · rw [if_pos h0]
    have a1 : (t + 1 + p - 1) / p = t / p + 1 := by rw [show t + 1 + p - 1 = p * (t / p) + (p + 0) by omega]; exact e2 0 (by omega)
    have a2 : (t + p - 1) / p = t / p := by rw [show t + p - 1 = p * (t / p) + (p - 1) by omega]; exact e (p - 1) (by omega)
    omega
  · rw [if_neg h0]
    have a1 : (t + 1 + p - 1) / p = t / p + 1 := by rw [show t + 1 + p - 1 = p * (t / p) + (p + t % p) by omega]; exact e2 _ h2
    have a2 : (t + p - 1) / p = t / p + 1 := by rw [show t + p - 1 = p * (t / p) + (p + (t % p - 1)) by omega]; exact e2 _ (by omega)
    omega
theorem syN_eq {ts : List T3} {L i : Nat} (hp : 1 ≤ per (tk ts i)) (hd : dln (tk ts i) ≤ L) : ∀ {t : Nat}, t ≤ L - dln (tk ts i) + 1 → syN ts L i t = (t + per (tk ts i) - 1) / per (tk ts i)
  | 0, _ => by
    rw [show (0 + per (tk ts i) - 1) / per (tk ts i) = 0 from Nat.div_eq_of_lt (by omega)]
    rfl
  | t + 1, h => by
    have ih := syN_eq hp hd (t := t) (by omega)
    have e : syN ts L i (t + 1) = syN ts L i t + if syC ts L t i = true then 1 else 0 := rfl
    rw [e, ih, mult_step hp]
    have : syC ts L t i = decide (t % per (tk ts i) = 0) := by
      simp only [syC]
      rw [show decide (t + dln (tk ts i) ≤ L) = true by simp; omega, Bool.and_true]
    rw [this]
    simp
theorem syN_more {ts : List T3} {L i s : Nat} : ∀ {t : Nat}, s ≤ t → (∀ u, s ≤ u → L < u + dln (tk ts i)) → syN ts L i t = syN ts L i s
  | 0, h, _ => by obtain rfl : s = 0 := by omega
                  rfl
  | t + 1, h, hu => by
    by_cases e : s = t + 1
    · subst e; rfl
    · have ih := syN_more (ts := ts) (L := L) (i := i) (s := s) (t := t) (by omega) hu
      have e2 : syN ts L i (t + 1) = syN ts L i t + if syC ts L t i = true then 1 else 0 := rfl
      have hf : syC ts L t i = false := by
        have := hu t (by omega)
        simp only [syC]
        rw [show decide (t + dln (tk ts i) ≤ L) = false by simp; omega, Bool.and_false]
      rw [e2, ih, hf]
      simp
theorem syN_dem {ts : List T3} {L i : Nat} (h : tv (tk ts i) = true) : syN ts L i L * cst (tk ts i) = dem1 (tk ts i) L := by
  have hb := tv_bd h
  unfold dem1
  by_cases hd : dln (tk ts i) ≤ L
  · rw [if_pos hd, syN_more (s := L - dln (tk ts i) + 1) (by omega) (fun u hu => by omega), syN_eq (by omega) hd (Nat.le_refl _)]
    rw [show L - dln (tk ts i) + 1 + per (tk ts i) - 1 = (L - dln (tk ts i)) + per (tk ts i) by omega, Nat.add_div_right _ (by omega)]
  · rw [if_neg hd, syN_more (s := 0) (Nat.zero_le _) (fun u _ => by omega)]
    simp [syN, sumN]
theorem sy_dem {ts : List T3} {L : Nat} (h : svB ts = true) (hl : (sy ts L L).length < 60) : exs (sy ts L L) = dem ts L := by
  rw [sy_exs ts L hl, sum_dem]
  exact sumN_eq fun i hi => syN_dem (tk_tv (all_of_sv h) hi)

end Go.Proofs.Ytocppoobcanhiaa
