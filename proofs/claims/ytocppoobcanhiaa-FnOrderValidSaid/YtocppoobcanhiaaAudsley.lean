/- Plain arithmetic of chapter 4: what Audsley's algorithm returns (promise 6), the deadline-monotonic order (promise 7). No dump. -/
import Derived.Test.YtocppoobcanhiaaOrder
namespace Go.Proofs.Ytocppoobcanhiaa

/-! ### Audsley's algorithm -/
/-- Task i fits below all tasks that are not among low. -/
def fitB (ts : List T3) (low : List Int) (i : Nat) : Bool := decide ((i : Int) ∉ low) && (resp ts (fun j => decide ((j : Int) ∉ (i : Int) :: low)) i).isSome
/-- The first of the first n tasks that fits. -/
def pickA (ts : List T3) (low : List Int) : Nat → Option Nat
  | 0 => none
  | n + 1 => match pickA ts low n with
    | some i => some i
    | none => if fitB ts low n = true then some n else none
theorem pickA_some {ts : List T3} {low : List Int} {i : Nat} : ∀ {n : Nat}, pickA ts low n = some i → i < n ∧ fitB ts low i = true
  | 0, h => by simp [pickA] at h
  | n + 1, h => by
    simp only [pickA] at h
    cases hp : pickA ts low n with
    | some k =>
      rw [hp] at h
      obtain rfl : k = i := by simpa using h
      obtain ⟨h1, h2⟩ := pickA_some hp
      exact ⟨by omega, h2⟩
    | none =>
      rw [hp] at h
      simp only at h
      split at h
      · obtain rfl : n = i := by simpa using h
        exact ⟨by omega, by assumption⟩
      · simp at h
theorem pickA_none {ts : List T3} {low : List Int} : ∀ {n : Nat}, pickA ts low n = none → ∀ i, i < n → fitB ts low i = false
  | 0, _, i, hi => absurd hi (Nat.not_lt_zero _)
  | n + 1, h, i, hi => by
    simp only [pickA] at h
    cases hp : pickA ts low n with
    | some k => rw [hp] at h; simp at h
    | none =>
      rw [hp] at h
      simp only at h
      split at h
      · simp at h
      · rename_i hf
        by_cases e : i = n
        · subst e; simpa using hf
        · exact pickA_none hp i (by omega)
/-- From the lowest level upwards; k levels are left. -/
def audL (ts : List T3) : Nat → List Int → Option (List Int)
  | 0, low => some low
  | k + 1, low => match pickA ts low ts.length with
    | none => none
    | some i => audL ts k ((i : Int) :: low)
def aud (ts : List T3) : Option (List Int) := audL ts ts.length []
/-- The levels that are assigned: distinct tasks, each of which fits below all that are not at its level or below. -/
structure Low (ts : List T3) (low : List Int) : Prop where
  nd : low.Nodup
  rng : ∀ x ∈ low, 0 ≤ x ∧ x < ts.length
  fit : ∀ k, k < low.length → ∃ i : Nat, low[k]? = some (i : Int) ∧ resp ts (fun j => decide ((j : Int) ∉ low.drop k)) i ≠ none
theorem Low.nil (ts : List T3) : Low ts [] := ⟨List.nodup_nil, fun x hx => by simp at hx, fun k hk => by simp at hk⟩
theorem Low.cons {ts : List T3} {low : List Int} {i : Nat} (h : Low ts low) (hi : i < ts.length) (hf : fitB ts low i = true) : Low ts ((i : Int) :: low) := by
  simp only [fitB, Bool.and_eq_true, decide_eq_true_eq] at hf
  refine ⟨List.nodup_cons.2 ⟨hf.1, h.nd⟩, fun x hx => ?_, fun k hk => ?_⟩
  · rcases List.mem_cons.1 hx with e | e
    · subst e; omega
    · exact h.rng x e
  · cases k with
    | zero => exact ⟨i, rfl, fun e => by
        have h2 := hf.2
        simp only [List.drop_zero] at e
        rw [e] at h2
        simp at h2⟩
    | succ k =>
      obtain ⟨j, h1, h2⟩ := h.fit k (by simpa using hk)
      exact ⟨j, by simpa using h1, by simpa using h2⟩
theorem audL_low {ts : List T3} {os : List Int} : ∀ {k : Nat} {low : List Int}, Low ts low → audL ts k low = some os → Low ts os ∧ os.length = low.length + k
  | 0, low, h, e => by
    obtain rfl : low = os := by simpa [audL] using e
    exact ⟨h, rfl⟩
  | k + 1, low, h, e => by
    simp only [audL] at e
    cases hp : pickA ts low ts.length with
    | none => rw [hp] at e; simp at e
    | some i =>
      rw [hp] at e
      obtain ⟨h1, h2⟩ := pickA_some hp
      obtain ⟨h3, h4⟩ := audL_low (h.cons h1 h2) e
      exact ⟨h3, by simp only [List.length_cons] at h4; omega⟩
/-- The order that is found is feasible. -/
theorem aud_fix {ts : List T3} (hs : svB ts = true) {os : List Int} (h : aud ts = some os) : fixB ts os = true := by
  obtain ⟨hl, hlen⟩ := audL_low (Low.nil ts) h
  have ho : ordB ts os = true := ordB_iff.2 ⟨hs, by simpa using hlen, hl.rng, hl.nd⟩
  simp only [fixB, Bool.and_eq_true, List.all_eq_true, List.mem_range]
  refine ⟨ho, fun k hk => ?_⟩
  obtain ⟨i, h1, h2⟩ := hl.fit k hk
  have e : rspO ts os k = resp ts (fun j => decide ((j : Int) ∉ os.drop k)) i := by
    unfold rspO
    rw [List.getD, h1]
    show resp ts _ ((i : Int)).toNat = _
    rw [Int.toNat_natCast]
    refine resp_congr fun j hj => ?_
    rw [decide_eq_decide]
    have hin := ord_all ho hj
    rw [← List.take_append_drop k os] at hin
    have hnd := hl.nd
    rw [← List.take_append_drop k os, List.nodup_append] at hnd
    constructor
    · intro h3 h4
      exact hnd.2.2 _ h3 _ h4 rfl
    · intro h3
      rcases List.mem_append.1 hin with h4 | h4
      · exact h4
      · exact absurd h4 h3
  rw [e]
  cases hr : resp ts (fun j => decide ((j : Int) ∉ os.drop k)) i with
  | none => exact absurd hr h2
  | some r => rfl
theorem len_ge : ∀ (n : Nat) (l : List Int), (∀ i : Nat, i < n → (i : Int) ∈ l) → n ≤ l.length
  | 0, l, _ => Nat.zero_le _
  | n + 1, l, h => by
    have hm := h n (by omega)
    have ih := len_ge n (l.erase (n : Int)) fun i hi => (List.mem_erase_of_ne (by omega)).2 (h i (by omega))
    rw [List.length_erase_of_mem hm] at ih
    have : 0 < l.length := List.length_pos_of_mem hm
    omega
theorem audL_none {ts : List T3} (hv : ts.all tv = true) {rank : Nat → Nat} (hf : FeasR ts rank) : ∀ {k : Nat} {low : List Int}, Low ts low → low.length + k = ts.length → audL ts k low ≠ none
  | 0, low, _, _ => by simp [audL]
  | k + 1, low, h, hl => by
    simp only [audL]
    have hex : ∃ i, i < ts.length ∧ decide ((i : Int) ∉ low) = true := by
      apply Classical.byContradiction
      intro hn
      have : ∀ i, i < ts.length → (i : Int) ∈ low := fun i hi => by
        apply Classical.byContradiction
        intro h2
        exact hn ⟨i, hi, by simpa using h2⟩
      have := len_ge ts.length low this
      omega
    obtain ⟨i, h1, h2, h3⟩ := aud_some hv hf hex
    cases hp : pickA ts low ts.length with
    | none =>
      have := pickA_none hp i h1
      simp only [fitB, Bool.and_eq_false_iff, decide_eq_false_iff_not] at this
      rcases this with h4 | h4
      · exact absurd (by simpa using h2) h4
      · have e : resp ts (fun j => decide ((j : Int) ∉ (i : Int) :: low)) i = resp ts (fun j => decide ((j : Int) ∉ low) && decide (j ≠ i)) i := resp_congr fun j _ => by
          by_cases e1 : j = i
          · simp [e1]
          · have : ((j : Int)) ≠ (i : Int) := by omega
            simp [e1, this]
        rw [e] at h4
        cases hr : resp ts (fun j => decide ((j : Int) ∉ low) && decide (j ≠ i)) i with
        | none => exact absurd hr h3
        | some r => rw [hr] at h4; simp at h4
    | some m =>
      obtain ⟨m1, m2⟩ := pickA_some hp
      exact audL_none hv hf (h.cons m1 m2) (by simp only [List.length_cons]; omega)
/-- If none is found, no order is feasible. -/
theorem aud_none {ts : List T3} (hs : svB ts = true) (h : aud ts = none) (os : List Int) : fixB ts os = false := by
  rw [Bool.eq_false_iff]
  intro hf
  exact audL_none (all_of_sv hs) (fixB_iff.1 hf).2 (Low.nil ts) (by simp) h

/-! ### The deadline-monotonic order -/
def dmI (ts : List T3) (d : Nat) : Nat → List Int
  | 0 => []
  | i + 1 => if dln (tk ts i) = d then dmI ts d i ++ [(i : Int)] else dmI ts d i
def dmD (ts : List T3) : Nat → List Int
  | 0 => []
  | d + 1 => dmD ts d ++ dmI ts (d + 1) ts.length
/-- By ascending deadline, ties by ascending index. -/
def dmO (ts : List T3) : List Int := dmD ts 12
theorem dmI_mem {ts : List T3} {d : Nat} {x : Int} : ∀ {n : Nat}, x ∈ dmI ts d n ↔ ∃ i : Nat, x = i ∧ i < n ∧ dln (tk ts i) = d
  | 0 => by simp [dmI]
  | n + 1 => by
    have ih := dmI_mem (ts := ts) (d := d) (x := x) (n := n)
    simp only [dmI]
    constructor
    · intro h
      split at h
      · rename_i hd
        rcases List.mem_append.1 h with h | h
        · obtain ⟨i, e, h1, h2⟩ := ih.1 h
          exact ⟨i, e, by omega, h2⟩
        · exact ⟨n, by simpa using h, by omega, hd⟩
      · obtain ⟨i, e, h1, h2⟩ := ih.1 h
        exact ⟨i, e, by omega, h2⟩
    · rintro ⟨i, e, h1, h2⟩
      by_cases hi : i = n
      · subst hi
        rw [if_pos h2]
        exact List.mem_append.2 (.inr (by simp [e]))
      · have := ih.2 ⟨i, e, by omega, h2⟩
        split
        · exact List.mem_append.2 (.inl this)
        · exact this
theorem dmD_mem {ts : List T3} {x : Int} : ∀ {d : Nat}, x ∈ dmD ts d ↔ ∃ i : Nat, x = i ∧ i < ts.length ∧ 1 ≤ dln (tk ts i) ∧ dln (tk ts i) ≤ d
  | 0 => by
    simp only [dmD]
    constructor
    · intro h; simp at h
    · rintro ⟨i, _, _, h1, h2⟩; omega
  | d + 1 => by
    simp only [dmD, List.mem_append, dmI_mem]
    rw [dmD_mem (d := d)]
    constructor
    · rintro (⟨i, e, h1, h2, h3⟩ | ⟨i, e, h1, h2⟩)
      · exact ⟨i, e, h1, h2, by omega⟩
      · exact ⟨i, e, h1, by omega, by omega⟩
    · rintro ⟨i, e, h1, h2, h3⟩
      by_cases hd : dln (tk ts i) = d + 1
      · exact .inr ⟨i, e, h1, hd⟩
      · exact .inl ⟨i, e, h1, h2, by omega⟩
/-- Earlier in the order. -/
def DmLt (ts : List T3) (a b : Int) : Prop := dmB ts a.toNat b.toNat = true
theorem dmI_up {ts : List T3} {d : Nat} : ∀ {n : Nat}, (dmI ts d n).Pairwise (DmLt ts)
  | 0 => List.Pairwise.nil
  | n + 1 => by
    simp only [dmI]
    split
    · rename_i hd
      refine List.pairwise_append.2 ⟨dmI_up, List.pairwise_singleton _ _, fun a ha b hb => ?_⟩
      obtain ⟨i, rfl, h1, h2⟩ := dmI_mem.1 ha
      obtain rfl : b = (n : Int) := by simpa using hb
      simp only [DmLt, dmB, Int.toNat_natCast, decide_eq_true_eq]
      omega
    · exact dmI_up
theorem dmD_up {ts : List T3} : ∀ {d : Nat}, (dmD ts d).Pairwise (DmLt ts)
  | 0 => List.Pairwise.nil
  | d + 1 => by
    simp only [dmD]
    refine List.pairwise_append.2 ⟨dmD_up, dmI_up, fun a ha b hb => ?_⟩
    obtain ⟨i, rfl, h1, h2, h3⟩ := dmD_mem.1 ha
    obtain ⟨j, rfl, h4, h5⟩ := dmI_mem.1 hb
    simp only [DmLt, dmB, Int.toNat_natCast, decide_eq_true_eq]
    omega
theorem DmLt.ne {ts : List T3} {a b : Int} (h : DmLt ts a b) : a ≠ b := fun e => by
  subst e
  simp only [DmLt, dmB, decide_eq_true_eq] at h
  omega
theorem dm_ord {ts : List T3} (hs : svB ts = true) : ordB ts (dmO ts) = true := by
  have hv := all_of_sv hs
  have hnd : (dmO ts).Nodup := (dmD_up (ts := ts) (d := 12)).imp DmLt.ne
  have hr : ∀ x ∈ dmO ts, 0 ≤ x ∧ x < ts.length := fun x hx => by
    obtain ⟨i, rfl, h1, _⟩ := dmD_mem.1 hx
    omega
  refine ordB_iff.2 ⟨hs, Nat.le_antisymm (len_le_of_nodup _ _ hnd hr) (len_ge _ _ fun i hi => ?_), hr, hnd⟩
  have hb := tv_bd (tk_tv hv hi)
  exact dmD_mem.2 ⟨i, rfl, hi, by omega, by omega⟩
theorem dm_rk {ts : List T3} (hs : svB ts = true) {i j : Nat} (hi : i < ts.length) (hj : j < ts.length) : rk (dmO ts) j < rk (dmO ts) i ↔ dmB ts j i = true := by
  have ho := dm_ord hs
  have hup : (dmO ts).Pairwise (DmLt ts) := dmD_up
  have key : ∀ a b, a < ts.length → b < ts.length → rk (dmO ts) a < rk (dmO ts) b → dmB ts a b = true := fun a b ha hb h => by
    have h1 := rk_lt (ord_all ho hb)
    have h2 := List.pairwise_iff_getElem.1 hup _ _ (rk_lt (ord_all ho ha)) h1 h
    have e1 := rk_at (ord_all ho ha)
    have e2 := rk_at (ord_all ho hb)
    rw [List.getElem?_eq_getElem (rk_lt (ord_all ho ha))] at e1
    rw [List.getElem?_eq_getElem h1] at e2
    simp only [Option.some.injEq] at e1 e2
    rw [e1, e2] at h2
    simpa [DmLt] using h2
  constructor
  · exact key j i hj hi
  · intro h
    rcases Nat.lt_trichotomy (rk (dmO ts) j) (rk (dmO ts) i) with h1 | h1 | h1
    · exact h1
    · have := rk_inj ho j i hj hi h1
      subst this
      simp only [dmB, decide_eq_true_eq] at h
      omega
    · have h2 := key i j hi hj h1
      simp only [dmB, decide_eq_true_eq] at h h2
      omega
/-- Promise 7: it is feasible if some order is. -/
theorem dm_fix {ts : List T3} (hs : svB ts = true) {os : List Int} (h : fixB ts os = true) : fixB ts (dmO ts) = true := by
  have ho := dm_ord hs
  refine fixB_iff.2 ⟨ho, rk_inj ho, fun i hi => ?_⟩
  have h1 := dm_best (all_of_sv hs) (fixB_iff.1 h).2 hi
  rw [resp_congr (B := fun j => dmB ts j i) fun j hj => by
    rw [Bool.eq_iff_iff, decide_eq_true_iff]
    exact dm_rk hs hi hj]
  exact h1
theorem dm_aud {ts : List T3} (hs : svB ts = true) : fixB ts (dmO ts) = (aud ts).isSome := by
  cases h : aud ts with
  | none => simpa using aud_none hs h (dmO ts)
  | some os => simpa using dm_fix hs (aud_fix hs h)

end Go.Proofs.Ytocppoobcanhiaa
