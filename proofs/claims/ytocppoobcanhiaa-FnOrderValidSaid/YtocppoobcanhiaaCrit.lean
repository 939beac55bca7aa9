/- Plain arithmetic of promise 4: at the critical instant the first job of a task is not finished before its response time. No dump. -/
import Derived.Test.YtocppoobcanhiaaFixEdf
namespace Go.Proofs.Ytocppoobcanhiaa

/-- The work of the jobs of the tasks of A. -/
def exA (A : Nat → Bool) (o : List J4) : Nat := sumN (fun k => if A (jid o k) = true then jex o k else 0) o.length
theorem jid_app {o : List J4} {x : J4} {k : Nat} (h : k < o.length) : jid (o ++ [x]) k = jid o k ∧ jex (o ++ [x]) k = jex o k := by simp only [jid, jex, jb_app h, and_self]
theorem jid_last (o : List J4) (x : J4) : jid (o ++ [x]) o.length = x.1.toNat ∧ jex (o ++ [x]) o.length = x.2.2.2.toNat := by simp only [jid, jex, jb_last, and_self]
theorem jid_left {o tl : List J4} {k : Nat} (h : k < o.length) : jid (o ++ tl) k = jid o k ∧ jex (o ++ tl) k = jex o k ∧ jrel (o ++ tl) k = jrel o k := by
  have e : jb (o ++ tl) k = jb o k := by simp [jb, List.getD, List.getElem?_append_left h]
  simp only [jid, jex, jrel, e, and_self]
theorem syJ_at (ts : List T3) (t i : Nat) : (syJ ts t i).1.toNat = i ∧ (syJ ts t i).2.2.2.toNat = cst (tk ts i) := ⟨Int.toNat_natCast i, rfl⟩
theorem exA_app (A : Nat → Bool) (o : List J4) (x : J4) : exA A (o ++ [x]) = exA A o + if A x.1.toNat = true then x.2.2.2.toNat else 0 := by
  unfold exA
  rw [List.length_append, List.length_singleton]
  simp only [sumN]
  congr 1
  · exact sumN_eq fun i hi => by rw [(jid_app hi).1, (jid_app hi).2]
  · rw [(jid_last o x).1, (jid_last o x).2]
theorem syI_exA (A : Nat → Bool) (ts : List T3) (L t : Nat) (o : List J4) : ∀ {i : Nat}, (syI ts L t o i).length < 60 → exA A (syI ts L t o i) = exA A o + sumN (fun m => if A m = true then (if syC ts L t m = true then cst (tk ts m) else 0) else 0) i
  | 0, _ => by simp [syI, sumN]
  | i + 1, h => by
    have hl : (syI ts L t o i).length < 60 := Nat.lt_of_le_of_lt (syI_len ts L t o (Nat.le_succ i)) h
    have ih := syI_exA A ts L t o (i := i) hl
    simp only [syI, sumN]
    by_cases hc : syC ts L t i = true
    · rw [if_pos ⟨hc, hl⟩, exA_app, ih, (syJ_at ts t i).1, (syJ_at ts t i).2, if_pos hc]
      omega
    · rw [if_neg (by rintro ⟨h, _⟩; exact hc h), ih, if_neg hc]
      simp
theorem sy_exA (A : Nat → Bool) (ts : List T3) (L : Nat) : ∀ {t : Nat}, (sy ts L t).length < 60 → exA A (sy ts L t) = sumN (fun i => if A i = true then syN ts L i t * cst (tk ts i) else 0) ts.length
  | 0, _ => by
    rw [sumN_zero fun i _ => by simp [syN, sumN]]
    rfl
  | t + 1, h => by
    have ih := sy_exA A ts L (t := t) (Nat.lt_of_le_of_lt (sy_len ts L t) h)
    have e := syI_exA A ts L t (sy ts L t) (i := ts.length) h
    show exA A (syI ts L t (sy ts L t) ts.length) = _
    rw [e, ih, ← sumN_add]
    refine sumN_eq fun i _ => ?_
    have : syN ts L i (t + 1) = syN ts L i t + if syC ts L t i = true then 1 else 0 := rfl
    rw [this, Nat.add_mul]
    by_cases hA : A i = true
    · rw [if_pos hA, if_pos hA, if_pos hA]
      split <;> simp
    · rw [if_neg hA, if_neg hA, if_neg hA]
theorem syI_le (ts : List T3) (L t : Nat) (o : List J4) : ∀ {i : Nat}, exs (syI ts L t o i) ≤ exs o + sumN (fun m => if syC ts L t m = true then cst (tk ts m) else 0) i
  | 0 => by simp [syI, sumN]
  | i + 1 => by
    have ih := syI_le ts L t o (i := i)
    simp only [syI, sumN]
    split
    · rename_i hc
      rw [exs_app, if_pos hc.1, (syJ_at ts t i).2]
      omega
    · omega
theorem sy_le (ts : List T3) (L : Nat) : ∀ {t : Nat}, exs (sy ts L t) ≤ sumN (fun i => syN ts L i t * cst (tk ts i)) ts.length
  | 0 => by simp [sy, exs, sumN]
  | t + 1 => by
    have ih := sy_le ts L (t := t)
    have e := syI_le ts L t (sy ts L t) (i := ts.length)
    show exs (syI ts L t (sy ts L t) ts.length) ≤ _
    have e2 : sumN (fun i => syN ts L i (t + 1) * cst (tk ts i)) ts.length = sumN (fun i => syN ts L i t * cst (tk ts i)) ts.length + sumN (fun m => if syC ts L t m = true then cst (tk ts m) else 0) ts.length := by
      rw [← sumN_add]
      refine sumN_eq fun i _ => ?_
      have : syN ts L i (t + 1) = syN ts L i t + if syC ts L t i = true then 1 else 0 := rfl
      rw [this, Nat.add_mul]
      split <;> simp
    omega
theorem len_le_exs {ts : List T3} {o : List J4} (hv : ts.all tv = true) (h : ∀ k, k < o.length → Leg1 ts o k) : o.length ≤ exs o := by
  have : sumN (fun _ => 1) o.length ≤ exs o := sumN_le fun k hk => ((h k hk).nat hv).2.2.2.2.2.1
  have e : ∀ n, sumN (fun _ => 1) n = n := fun n => by
    induction n with
    | zero => rfl
    | succ n ih => simp only [sumN]; omega
  rw [e] at this
  exact this
/-- In its first twelve ticks the synchronous pattern of a feasible set is not cut off. -/
theorem sy_short {ts : List T3} (h : edf ts = true) {x : Nat} (hx : x ≤ 12) : (sy ts 60 x).length < 60 := by
  have hs := (edf_iff.1 h).1
  have hv := all_of_sv hs
  have h1 := len_le_exs hv (sy_sy hv (show 60 ≤ 120 by omega) (t := x) (by omega)).leg
  have h2 := sy_le ts 60 (t := x)
  have h3 : sumN (fun i => syN ts 60 i x * cst (tk ts i)) ts.length ≤ dem ts (x + 12) := by
    rw [sum_dem]
    refine sumN_le fun i hi => ?_
    have hb := tv_bd (tk_tv hv hi)
    rw [syN_eq (by omega) (by omega) (by omega)]
    unfold dem1
    rw [if_pos (by omega)]
    refine Nat.mul_le_mul_right _ ?_
    have e : (x + per (tk ts i) - 1) / per (tk ts i) ≤ (x + 12 - dln (tk ts i) + per (tk ts i)) / per (tk ts i) := Nat.div_le_div_right (by omega)
    rwa [Nat.add_div_right _ (by omega)] at e
  have h4 := edf_any h (x + 12)
  omega
theorem syI_app (ts : List T3) (L t : Nat) (o : List J4) : ∀ i, ∃ tl, syI ts L t o i = o ++ tl
  | 0 => ⟨[], by simp [syI]⟩
  | i + 1 => by
    obtain ⟨tl, h⟩ := syI_app ts L t o i
    simp only [syI]
    split
    · exact ⟨tl ++ [syJ ts t i], by rw [h, List.append_assoc]⟩
    · exact ⟨tl, h⟩
theorem sy_app (ts : List T3) (L : Nat) {x : Nat} : ∀ {t : Nat}, x ≤ t → ∃ tl, sy ts L t = sy ts L x ++ tl
  | 0, h => by obtain rfl : x = 0 := by omega
               exact ⟨[], by simp⟩
  | t + 1, h => by
    by_cases e : x = t + 1
    · subst e; exact ⟨[], by simp⟩
    · obtain ⟨tl, h1⟩ := sy_app ts L (x := x) (t := t) (by omega)
      obtain ⟨tl2, h2⟩ := syI_app ts L t (sy ts L t) ts.length
      exact ⟨tl ++ tl2, by show syI ts L t (sy ts L t) ts.length = _; rw [h2, h1, List.append_assoc]⟩
theorem sumN_part {f : Nat → Nat} {a : Nat} : ∀ {n : Nat}, a ≤ n → sumN f a ≤ sumN f n
  | 0, h => by obtain rfl : a = 0 := by omega
               exact Nat.le_refl _
  | n + 1, h => by
    by_cases e : a = n + 1
    · subst e; exact Nat.le_refl _
    · have := sumN_part (f := f) (a := a) (n := n) (by omega)
      simp only [sumN]
      omega
/-- What higher tasks ask in the first x ticks of the synchronous pattern. -/
theorem sy_asks {ts : List T3} (h : edf ts = true) (A : Nat → Bool) {x : Nat} (hx : x ≤ 12) :
    wkS ts A x ≤ sumN (fun k => if A (jid (sy ts 60 60) k) = true ∧ jrel (sy ts 60 60) k < x then jex (sy ts 60 60) k else 0) (sy ts 60 60).length := by
  have hs := (edf_iff.1 h).1
  have hv := all_of_sv hs
  obtain ⟨tl, e⟩ := sy_app ts 60 (x := x) (t := 60) (by omega)
  have h1 := sy_exA A ts 60 (sy_short h hx)
  have hS := sy_sy hv (show 60 ≤ 120 by omega) (t := x) (by omega)
  have h2 : wkS ts A x = exA A (sy ts 60 x) := by
    rw [h1]
    unfold wkS
    refine sumN_eq fun i hi => ?_
    have hb := tv_bd (tk_tv hv hi)
    rw [syN_eq (by omega) (by omega) (by omega)]
    rfl
  rw [h2, e]
  refine Nat.le_trans (Nat.le_of_eq (sumN_eq fun k hk => ?_)) (sumN_part (a := (sy ts 60 x).length) (by simp))
  obtain ⟨e1, e2, e3⟩ := jid_left (tl := tl) hk
  have hr : jrel (sy ts 60 x ++ tl) k < x := by
    rw [e3]
    simp only [jrel]
    rcases hS.last k hk with h | ⟨_, h⟩
    · have := ((hS.leg k hk).2.1).1
      omega
    · have := ((hS.leg k hk).1).1
      omega
  rw [e1, e2]
  by_cases hA : A (jid (sy ts 60 x) k) = true
  · rw [if_pos hA, if_pos ⟨hA, hr⟩]
  · rw [if_neg hA, if_neg (fun h => hA h.1)]
/-- The first job of a task is not finished before its response time. -/
theorem crit_lo {ts : List T3} (hs : svB ts = true) {rank : Nat → Nat} (hf : FeasR ts rank) {m : Nat} (hm : m < (sy ts 60 60).length) (h0 : jrel (sy ts 60 60) m = 0) {R : Nat}
    (hR : resp ts (fun j => decide (rank j < rank (jid (sy ts 60 60) m))) (jid (sy ts 60 60) m) = some R) {x : Nat} (hx : x < R) : 0 < (fixP (sy ts 60 60) rank).left x m := by
  have he := feas_edf hs hf
  have hv := all_of_sv hs
  have hS := sy_sy hv (show 60 ≤ 120 by omega) (Nat.le_refl 60)
  have hL := (hS.leg m hm).nat hv
  have hb := tv_bd hL.2.1
  obtain ⟨r1, r2, r3, r4⟩ := lfp_some hR
  have hex : jex (sy ts 60 60) m = cst (tk ts (jid (sy ts 60 60) m)) := by simp only [jex, cst]; rw [(hS.dl m hm).2]
  apply Classical.byContradiction
  intro hn
  -- the first time at which it is finished
  have hfirst : ∀ y, (fixP (sy ts 60 60) rank).left y m = 0 → ∃ t, t < y ∧ (fixP (sy ts 60 60) rank).run t = some m ∧ (fixP (sy ts 60 60) rank).left (t + 1) m = 0 := by
    intro y
    induction y with
    | zero => intro h; have : (fixP (sy ts 60 60) rank).left 0 m = jex (sy ts 60 60) m := rfl; omega
    | succ y ih =>
      intro h
      by_cases hy : (fixP (sy ts 60 60) rank).left y m = 0
      · obtain ⟨t, a, b⟩ := ih hy
        exact ⟨t, by omega, b⟩
      · refine ⟨y, by omega, ?_, h⟩
        rw [Pat.left_succ] at h
        split at h
        · assumption
        · exact absurd h hy
  obtain ⟨t, ht, hrun, hz⟩ := hfirst x (by omega)
  obtain ⟨_, _, _, hbest⟩ := best_some hrun
  have hw := (fixP (sy ts 60 60) rank).work_le (fun k => decide (k = m) || (decide (rank (jid (sy ts 60 60) k) < rank (jid (sy ts 60 60) m)) && decide (jrel (sy ts 60 60) k < t + 1))) (Nat.zero_le (t + 1))
  have hz2 : (fixP (sy ts 60 60) rank).sumA (fun k => decide (k = m) || (decide (rank (jid (sy ts 60 60) k) < rank (jid (sy ts 60 60) m)) && decide (jrel (sy ts 60 60) k < t + 1))) (t + 1) = 0 := sumN_zero fun k hk => by
    simp only [Bool.or_eq_true, Bool.and_eq_true, decide_eq_true_eq]
    split
    · rename_i hc
      rcases hc with rfl | ⟨c1, c2⟩
      · exact hz
      · have hl0 : (fixP (sy ts 60 60) rank).left t k = 0 := by
          apply Classical.byContradiction
          intro hne
          rcases hbest k hk (show jrel (sy ts 60 60) k ≤ t by omega) (by omega) with h | ⟨h, _⟩
          · have h' : rank (jid (sy ts 60 60) m) < rank (jid (sy ts 60 60) k) := h
            omega
          · have h' : rank (jid (sy ts 60 60) m) = rank (jid (sy ts 60 60) k) := h
            omega
        have := (fixP (sy ts 60 60) rank).left_le t k
        omega
    · rfl
  have hsum : sumN (fun k => if decide (rank (jid (sy ts 60 60) k) < rank (jid (sy ts 60 60) m)) = true ∧ jrel (sy ts 60 60) k < t + 1 then jex (sy ts 60 60) k else 0) (sy ts 60 60).length + jex (sy ts 60 60) m
      = (fixP (sy ts 60 60) rank).sumA (fun k => decide (k = m) || (decide (rank (jid (sy ts 60 60) k) < rank (jid (sy ts 60 60) m)) && decide (jrel (sy ts 60 60) k < t + 1))) 0 := by
    refine (sumN_one (b := m) hm (fun i _ hne => ?_) ?_).symm
    · simp only [hne, decide_false, Bool.false_or, Bool.and_eq_true, decide_eq_true_eq]
      rfl
    · simp only [decide_true, Bool.true_or, if_true, decide_eq_true_eq]
      rw [if_neg (by rintro ⟨h, _⟩; omega)]
      show jex (sy ts 60 60) m = _
      omega
  have hask := sy_asks he (fun j => decide (rank j < rank (jid (sy ts 60 60) m))) (x := t + 1) (by omega)
  have hle : rF ts (fun j => decide (rank j < rank (jid (sy ts 60 60) m))) (jid (sy ts 60 60) m) (t + 1) ≤ t + 1 := by
    show cst _ + wkS _ _ _ ≤ _
    omega
  obtain ⟨q, hq, hq2⟩ := lfp_pre (D := dln (tk ts (jid (sy ts 60 60) m))) (rF_mono ts _ _) (rF_pos hv _ hL.1) (by omega) (by omega) hle
  have : some q = some R := hq.symm.trans hR
  simp only [Option.some.injEq] at this
  omega

end Go.Proofs.Ytocppoobcanhiaa
