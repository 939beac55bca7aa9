/- Plain arithmetic of legal release patterns (promise 48): prefixes, shorter executions, separation. No dump. -/
import Derived.Test.YtocppoobcanhiaaSync
namespace Go.Proofs.Ytocppoobcanhiaa

theorem nx_congr {ts : List T3} {js js' : List J4} : ∀ {k : Nat}, (∀ j, j < k → jid js j = jid js' j ∧ jrel js j = jrel js' j) → nx ts js k = nx ts js' k
  | 0, _ => rfl
  | k + 1, h => by
    funext i
    obtain ⟨e1, e2⟩ := h k (by omega)
    simp only [nx]
    rw [nx_congr (k := k) fun j hj => h j (by omega), e1, e2]
theorem jb_take {js : List J4} {n k : Nat} (h : k < n) : jb (js.take n) k = jb js k := by
  simp only [jb, List.getD_eq_getElem?_getD]
  rw [List.getElem?_take_of_lt h]
theorem leg_take {ts : List T3} {js : List J4} (h : legB ts js = true) (n : Nat) : legB ts (js.take n) = true := by
  obtain ⟨hv, hl, hk⟩ := legB_iff.1 h
  refine legB_iff.2 ⟨hv, by rw [List.length_take]; omega, fun k hk' => ?_⟩
  rw [List.length_take] at hk'
  have h1 := hk k (by omega)
  have e0 : jb (js.take n) k = jb js k := jb_take (by omega)
  have e1 : jb (js.take n) (k - 1) = jb js (k - 1) := jb_take (by omega)
  have e2 : nx ts (js.take n) k = nx ts js k := nx_congr fun j hj => by
    simp only [jid, jrel]
    rw [jb_take (by omega)]
    exact ⟨rfl, rfl⟩
  unfold Leg1 at h1 ⊢
  simp only [jid] at h1 ⊢
  rw [e0, e1, e2]
  exact h1
theorem jb_set {js : List J4} {i k : Nat} {x : J4} (hi : i < js.length) : jb (js.set i x) k = if i = k then x else jb js k := by
  simp only [jb, List.getD_eq_getElem?_getD]
  rw [List.getElem?_set]
  by_cases e : i = k
  · subst e
    rw [if_pos rfl, if_pos hi, if_pos rfl]
    rfl
  · rw [if_neg e, if_neg e]
/-- The job with an execution time of 1. -/
def shortJ (j : J4) : J4 := (j.1, j.2.1, j.2.2.1, 1)
theorem leg_short {ts : List T3} {js : List J4} (h : legB ts js = true) {i : Nat} (hi : i < js.length) : legB ts (js.set i (shortJ (jb js i))) = true := by
  obtain ⟨hv, hl, hk⟩ := legB_iff.1 h
  have hj : ∀ k, (jb (js.set i (shortJ (jb js i))) k).1 = (jb js k).1 ∧ (jb (js.set i (shortJ (jb js i))) k).2.1 = (jb js k).2.1 ∧ (jb (js.set i (shortJ (jb js i))) k).2.2.1 = (jb js k).2.2.1 ∧
      ((jb (js.set i (shortJ (jb js i))) k).2.2.2 = (jb js k).2.2.2 ∨ (jb (js.set i (shortJ (jb js i))) k).2.2.2 = 1) := by
    intro k
    rw [jb_set hi]
    split
    · subst_vars
      exact ⟨rfl, rfl, rfl, .inr rfl⟩
    · exact ⟨rfl, rfl, rfl, .inl rfl⟩
  refine legB_iff.2 ⟨hv, by rw [List.length_set]; exact hl, fun k hk' => ?_⟩
  rw [List.length_set] at hk'
  have h1 := hk k hk'
  have e2 : nx ts (js.set i (shortJ (jb js i))) k = nx ts js k := nx_congr fun j _ => by
    simp only [jid, jrel]
    rw [(hj j).1, (hj j).2.1]
    exact ⟨rfl, rfl⟩
  obtain ⟨a1, a2, a3, a4⟩ := hj k
  obtain ⟨b1, b2, _⟩ := hj (k - 1)
  unfold Leg1 at h1 ⊢
  simp only [jid] at h1 ⊢
  rw [a1, a2, a3, b1, b2, e2]
  obtain ⟨c1, c2, c3, c4, ⟨c5, c6⟩, c7⟩ := h1
  refine ⟨c1, c2, c3, c4, ?_, c7⟩
  rcases a4 with e | e
  · rw [e]; exact ⟨c5, c6⟩
  · rw [e]; exact ⟨Int.le_refl _, Int.le_trans c5 c6⟩
theorem nx_ge {ts : List T3} {js : List J4} (hv : ts.all tv = true) {j : Nat} : ∀ {k : Nat}, j < k → (∀ i, i < k → Leg1 ts js i) → jrel js j + per (tk ts (jid js j)) ≤ nx ts js k (jid js j)
  | 0, h, _ => absurd h (Nat.not_lt_zero _)
  | k + 1, h, hl => by
    simp only [nx]
    by_cases e : j = k
    · subst e
      rw [if_pos rfl]
      exact Nat.le_refl _
    · have ih := nx_ge hv (j := j) (k := k) (by omega) fun i hi => hl i (by omega)
      split
      · rename_i hc
        have := ((hl k (by omega)).nat hv).2.2.1
        rw [hc] at this
        omega
      · exact ih
/-- Two jobs of one task are a period apart. -/
theorem leg_apart {ts : List T3} {js : List J4} (h : legB ts js = true) {i j : Nat} (hi : i < js.length) (hj : j < i) (he : jid js j = jid js i) : jrel js j + per (tk ts (jid js i)) ≤ jrel js i := by
  obtain ⟨hv, hl, hk⟩ := legB_iff.1 h
  have h1 := nx_ge (all_of_sv hv) hj fun m hm => hk m (by omega)
  have h2 := ((hk i hi).nat (all_of_sv hv)).2.2.1
  rw [he] at h1
  omega
/-- Releases ascend. -/
theorem leg_rel {ts : List T3} {js : List J4} (h : legB ts js = true) {i : Nat} : ∀ {j : Nat}, i ≤ j → j < js.length → jrel js i ≤ jrel js j
  | 0, hij, _ => by obtain rfl : i = 0 := by omega
                    exact Nat.le_refl _
  | j + 1, hij, hj => by
    by_cases e : i = j + 1
    · subst e; exact Nat.le_refl _
    · have ih := leg_rel h (i := i) (j := j) (by omega) (by omega)
      obtain ⟨_, _, hk⟩ := legB_iff.1 h
      obtain ⟨_, _, _, _, _, c⟩ := hk (j + 1) hj
      have : (jb js j).2.1 ≤ (jb js (j + 1)).2.1 := by
        rcases c with c | c | ⟨c, _⟩
        · omega
        · exact Int.le_of_lt c
        · exact Int.le_of_eq c
      simp only [jrel] at ih ⊢
      omega
/-- Promise 115: the first n jobs run before the release of job n as all of them do. -/
theorem edf_past {ts : List T3} {js : List J4} (h : legB ts js = true) {n t : Nat} (hn : n < js.length) (ht : t < jrel js n) : (edfP js).run t = (edfP (js.take n)).run t := by
  have hl : (js.take n).length = n := by rw [List.length_take]; omega
  refine (Pat.past (P := edfP js) (Q := edfP (js.take n)) (T := jrel js n) ?_ (fun i hi => ?_) (fun i h1 h2 => ?_) (jrel js n) (Nat.le_refl _)).2 t ht
  · show (js.take n).length ≤ js.length
    omega
  · have hi' : i < n := by
      have : i < (js.take n).length := hi
      omega
    show jrel js i = jrel (js.take n) i ∧ jex js i = jex (js.take n) i ∧ jdl js i = jdl (js.take n) i
    simp only [jrel, jex, jdl]
    rw [jb_take hi']
    exact ⟨rfl, rfl, rfl⟩
  · have h1' : (js.take n).length ≤ i := h1
    exact leg_rel h (by omega) h2

end Go.Proofs.Ytocppoobcanhiaa
