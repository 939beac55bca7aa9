/- Critical sections (chapter 6) as plain arithmetic: when they are valid, ceilings, the blocking term, the demand test with blocking; what replacing a section does. No dump. -/
import Derived.Test.YtlagghoohloklaaPlain
namespace Go.Proofs.Ytlagghoohloklaa

/-- A section (start, length, resource) beside its task. -/
def sc1 (t s : T3) : Bool := decide ((s.2.1 = 0 → s.1 = 0 ∧ s.2.2 = 0) ∧ 0 ≤ s.2.1 ∧ s.2.1 ≤ t.1 ∧ 0 ≤ s.1 ∧ s.1 ≤ t.1 - s.2.1 ∧ 0 ≤ s.2.2 ∧ s.2.2 ≤ 2)
def scB (ts ss : List T3) : Bool := svB ts && decide (ss.length = ts.length) && (List.range ss.length).all fun k => sc1 (tk ts k) (tk ss k)
def sst (ss : List T3) (k : Nat) : Nat := (tk ss k).1.toNat
def sln (ss : List T3) (k : Nat) : Nat := (tk ss k).2.1.toNat
def srs (ss : List T3) (k : Nat) : Nat := (tk ss k).2.2.toNat
def tdl (ts : List T3) (k : Nat) : Nat := dln (tk ts k)
theorem scB_iff {ts ss : List T3} : scB ts ss = true ↔ svB ts = true ∧ ss.length = ts.length ∧ ∀ k, k < ss.length → sc1 (tk ts k) (tk ss k) = true := by
  simp only [scB, Bool.and_eq_true, decide_eq_true_eq, List.all_eq_true, List.mem_range, and_assoc]
theorem sc_no1 {ts ss : List T3} (h : svB ts = false) : scB ts ss = false := by rw [scB, h]; rfl
theorem sc_no2 {ts ss : List T3} (h : ss.length ≠ ts.length) : scB ts ss = false := by rw [scB, decide_eq_false h, Bool.and_false]; rfl
theorem sc_no3 {ts ss : List T3} {k : Nat} (hk : k < ss.length) (h : sc1 (tk ts k) (tk ss k) = false) : scB ts ss = false := by
  rw [scB, Bool.and_eq_false_iff]
  exact .inr (List.all_eq_false.2 ⟨k, List.mem_range.2 hk, by rw [h]; simp⟩)
theorem sc1_iff {t s : T3} : sc1 t s = true ↔ (s.2.1 = 0 → s.1 = 0 ∧ s.2.2 = 0) ∧ 0 ≤ s.2.1 ∧ s.2.1 ≤ t.1 ∧ 0 ≤ s.1 ∧ s.1 ≤ t.1 - s.2.1 ∧ 0 ≤ s.2.2 ∧ s.2.2 ≤ 2 := by simp only [sc1, decide_eq_true_eq]
theorem tk_sv {ts : List T3} (h : svB ts = true) {k : Nat} (hk : k < ts.length) : tv (tk ts k) = true := tk_tv (all_of_sv h) hk
/-- A valid section in natural numbers. -/
theorem sc_nat {ts ss : List T3} (h : scB ts ss = true) {k : Nat} (hk : k < ts.length) : (tk ss k).1 = (sst ss k : Nat) ∧ (tk ss k).2.1 = (sln ss k : Nat) ∧ (tk ss k).2.2 = (srs ss k : Nat) ∧ (tk ts k).2.1 = (tdl ts k : Nat) ∧ (tk ts k).1 = (cst (tk ts k) : Nat) ∧
    sst ss k + sln ss k ≤ cst (tk ts k) ∧ srs ss k ≤ 2 ∧ cst (tk ts k) ≤ 8 ∧ cst (tk ts k) ≤ tdl ts k ∧ 1 ≤ cst (tk ts k) ∧ tdl ts k ≤ 12 ∧ (sln ss k = 0 → sst ss k = 0 ∧ srs ss k = 0) := by
  obtain ⟨h1, h2, h3⟩ := scB_iff.1 h
  have h4 := sc1_iff.1 (h3 k (by omega))
  have h5 := tv_bd (tk_sv h1 hk)
  obtain ⟨⟨a, b, c⟩, hs⟩ : ∃ s, s = tk ss k := ⟨_, rfl⟩
  have e1 : sst ss k = a.toNat := by unfold sst; rw [← hs]
  have e2 : sln ss k = b.toNat := by unfold sln; rw [← hs]
  have e3 : srs ss k = c.toNat := by unfold srs; rw [← hs]
  rw [← hs] at h4 ⊢
  simp only at h4 ⊢
  unfold tdl
  omega

/-! ### Ceilings and the blocking term -/
def ceN (ts ss : List T3) (r : Nat) : Nat → Nat
  | 0 => 13
  | k + 1 => if 0 < sln ss k ∧ srs ss k = r then min (ceN ts ss r k) (tdl ts k) else ceN ts ss r k
def ce (ts ss : List T3) (r : Nat) : Nat := ceN ts ss r ts.length
def blN (ts ss : List T3) (t : Nat) : Nat → Nat
  | 0 => 0
  | k + 1 => if t < tdl ts k ∧ 0 < sln ss k ∧ ce ts ss (srs ss k) ≤ t then max (blN ts ss t k) (sln ss k) else blN ts ss t k
def bl (ts ss : List T3) (t : Nat) : Nat := blN ts ss t ts.length
theorem ceN_13 (ts ss : List T3) (r : Nat) : ∀ k : Nat, ceN ts ss r k ≤ 13
  | 0 => Nat.le_refl _
  | k + 1 => by
    simp only [ceN]
    have := ceN_13 ts ss r k
    split <;> omega
theorem ceN_le {ts ss : List T3} {r i : Nat} (h0 : 0 < sln ss i) (hr : srs ss i = r) : ∀ {k : Nat}, i < k → ceN ts ss r k ≤ tdl ts i
  | 0, h => absurd h (Nat.not_lt_zero _)
  | k + 1, h => by
    simp only [ceN]
    by_cases e : i = k
    · subst e
      rw [if_pos ⟨h0, hr⟩]
      exact Nat.min_le_right _ _
    · have := ceN_le (ts := ts) h0 hr (k := k) (by omega)
      split <;> omega
theorem ceN_cases (ts ss : List T3) (r : Nat) : ∀ k : Nat, ceN ts ss r k = 13 ∨ ∃ i, i < k ∧ 0 < sln ss i ∧ srs ss i = r ∧ ceN ts ss r k = tdl ts i
  | 0 => .inl rfl
  | k + 1 => by
    simp only [ceN]
    have ih := ceN_cases ts ss r k
    split
    · rename_i hc
      rcases Nat.le_total (ceN ts ss r k) (tdl ts k) with h | h
      · rw [Nat.min_eq_left h]
        exact ih.imp id fun ⟨i, h1, h2⟩ => ⟨i, by omega, h2⟩
      · rw [Nat.min_eq_right h]
        exact .inr ⟨k, by omega, hc.1, hc.2, rfl⟩
    · exact ih.imp id fun ⟨i, h1, h2⟩ => ⟨i, by omega, h2⟩
theorem blN_ge {ts ss : List T3} {t i : Nat} (h1 : t < tdl ts i) (h2 : 0 < sln ss i) (h3 : ce ts ss (srs ss i) ≤ t) : ∀ {k : Nat}, i < k → sln ss i ≤ blN ts ss t k
  | 0, h => absurd h (Nat.not_lt_zero _)
  | k + 1, h => by
    simp only [blN]
    by_cases e : i = k
    · subst e
      rw [if_pos ⟨h1, h2, h3⟩]
      exact Nat.le_max_right _ _
    · have := blN_ge h1 h2 h3 (k := k) (by omega)
      split <;> omega
theorem blN_cases (ts ss : List T3) (t : Nat) : ∀ k : Nat, blN ts ss t k = 0 ∨ ∃ i, i < k ∧ t < tdl ts i ∧ 0 < sln ss i ∧ ce ts ss (srs ss i) ≤ t ∧ blN ts ss t k = sln ss i
  | 0 => .inl rfl
  | k + 1 => by
    simp only [blN]
    have ih := blN_cases ts ss t k
    split
    · rename_i hc
      rcases Nat.le_total (sln ss k) (blN ts ss t k) with h | h
      · rw [Nat.max_eq_left h]
        exact ih.imp id fun ⟨i, h1, h2⟩ => ⟨i, by omega, h2⟩
      · rw [Nat.max_eq_right h]
        exact .inr ⟨k, by omega, hc.1, hc.2.1, hc.2.2, rfl⟩
    · exact ih.imp id fun ⟨i, h1, h2⟩ => ⟨i, by omega, h2⟩
theorem blN_le8 {ts ss : List T3} (h : scB ts ss = true) (t : Nat) {k : Nat} (hk : k ≤ ts.length) : blN ts ss t k ≤ 8 := by
  rcases blN_cases ts ss t k with e | ⟨i, h1, _, _, _, e⟩
  · omega
  · have := sc_nat h (k := i) (by omega)
    omega

/-! ### The test -/
def rfB (ts ss : List T3) : Bool := scB ts ss && (List.range (hyp ts)).all fun t => decide (dem ts (t + 1) + bl ts ss (t + 1) ≤ t + 1)
theorem rfB_iff {ts ss : List T3} : rfB ts ss = true ↔ scB ts ss = true ∧ ∀ t, 1 ≤ t → t ≤ hyp ts → dem ts t + bl ts ss t ≤ t := by
  simp only [rfB, Bool.and_eq_true, List.all_eq_true, List.mem_range, decide_eq_true_eq]
  refine and_congr_right fun _ => ⟨fun h t h1 h2 => ?_, fun h t h1 => h (t + 1) (by omega) (by omega)⟩
  have := h (t - 1) (by omega)
  rwa [Nat.sub_add_cancel h1] at this
theorem rf_no1 {ts ss : List T3} (h : scB ts ss = false) : rfB ts ss = false := by rw [rfB, h]; rfl
theorem rf_no2 {ts ss : List T3} {t : Nat} (h1 : 1 ≤ t) (h2 : t ≤ hyp ts) (h : ¬ dem ts t + bl ts ss t ≤ t) : rfB ts ss = false := by
  cases hs : rfB ts ss with
  | false => rfl
  | true => exact absurd ((rfB_iff.1 hs).2 t h1 h2) h
theorem rf_edf {ts ss : List T3} (h : rfB ts ss = true) : edf ts = true := by
  obtain ⟨h1, h2⟩ := rfB_iff.1 h
  exact edf_iff.2 ⟨(scB_iff.1 h1).1, fun t a b => by have := h2 t a b; omega⟩

/-! ### No sections; one section less -/
def zs (n : Nat) : List T3 := List.replicate n (0, 0, 0)
theorem tk_zs (n k : Nat) : tk (zs n) k = (0, 0, 0) := by
  unfold tk zs
  rw [List.getD_eq_getElem?_getD, List.getElem?_replicate]
  split <;> rfl
theorem sc_zs (ts : List T3) : scB ts (zs ts.length) = svB ts := by
  cases h : svB ts with
  | false => exact sc_no1 h
  | true =>
    refine scB_iff.2 ⟨h, by simp [zs], fun k hk => ?_⟩
    have hk' : k < ts.length := by simpa [zs] using hk
    have := tv_bd (tk_sv h hk')
    rw [tk_zs, sc1_iff]
    refine ⟨fun _ => ⟨rfl, rfl⟩, ?_⟩
    simp only
    omega
theorem bl_zs (ts : List T3) (t : Nat) : bl ts (zs ts.length) t = 0 := by
  rcases blN_cases ts (zs ts.length) t ts.length with e | ⟨i, _, _, h, _⟩
  · exact e
  · unfold sln at h
    rw [tk_zs] at h
    exact absurd h (by decide)
theorem rf_zs (ts : List T3) : rfB ts (zs ts.length) = edf ts := by
  have h : rfB ts (zs ts.length) = true ↔ edf ts = true := by
    rw [rfB_iff, edf_iff, sc_zs]
    refine and_congr_right fun _ => ⟨fun h t a b => ?_, fun h t a b => ?_⟩
    · have := h t a b
      omega
    · have := h t a b
      rw [bl_zs]
      omega
  cases h1 : rfB ts (zs ts.length) <;> cases h2 : edf ts <;> simp_all
theorem upd_len {ss : List T3} {i : Nat} (h : i < ss.length) (s : T3) : (upd ss i s).length = ss.length := by
  simp only [upd, List.length_append, List.length_take, List.length_drop, List.length_singleton]
  omega
theorem tk_upd {ss : List T3} {i : Nat} (h : i < ss.length) (s : T3) (k : Nat) : tk (upd ss i s) k = if k = i then s else tk ss k := by
  unfold tk upd
  simp only [List.getD_eq_getElem?_getD]
  have hl : (ss.take i).length = i := by simp; omega
  by_cases e : k = i
  · subst e
    rw [if_pos rfl, List.append_assoc, List.getElem?_append_right (by omega), hl]
    simp
  · rw [if_neg e]
    by_cases hk : k < i
    · rw [List.append_assoc, List.getElem?_append_left (by omega), List.getElem?_take_of_lt hk]
    · have : (ss.take i ++ [s]).length = i + 1 := by simp; omega
      rw [List.getElem?_append_right (by omega), this, List.getElem?_drop]
      congr 2
      omega
theorem sc_upd {ts ss : List T3} (h : scB ts ss = true) {i : Nat} (hi : i < ss.length) (s : T3) : scB ts (upd ss i s) = sc1 (tk ts i) s := by
  obtain ⟨h1, h2, h3⟩ := scB_iff.1 h
  cases hs : sc1 (tk ts i) s with
  | true =>
    refine scB_iff.2 ⟨h1, by rw [upd_len hi]; exact h2, fun k hk => ?_⟩
    rw [upd_len hi] at hk
    rw [tk_upd hi]
    by_cases e : k = i
    · subst e
      rw [if_pos rfl]
      exact hs
    · rw [if_neg e]
      exact h3 k hk
  | false => exact sc_no3 (k := i) (by rw [upd_len hi]; exact hi) (by rw [tk_upd hi, if_pos rfl]; exact hs)
theorem sln_upd {ss : List T3} {i : Nat} (h : i < ss.length) (s : T3) (k : Nat) : sln (upd ss i s) k = if k = i then s.2.1.toNat else sln ss k := by
  unfold sln
  rw [tk_upd h]
  split <;> rfl
theorem srs_upd {ss : List T3} {i : Nat} (h : i < ss.length) (s : T3) {k : Nat} (hk : k ≠ i) : srs (upd ss i s) k = srs ss k := by
  unfold srs
  rw [tk_upd h, if_neg hk]
theorem ceN_upd (ts : List T3) {ss : List T3} {i : Nat} (h : i < ss.length) (r : Nat) : ∀ k : Nat, ceN ts ss r k ≤ ceN ts (upd ss i (0, 0, 0)) r k
  | 0 => Nat.le_refl _
  | k + 1 => by
    simp only [ceN]
    have ih := ceN_upd ts h r k
    by_cases e : k = i
    · subst e
      have e0 : sln (upd ss k (0, 0, 0)) k = 0 := by rw [sln_upd h, if_pos rfl]; rfl
      rw [if_neg (c := 0 < sln (upd ss k (0, 0, 0)) k ∧ _) (by omega)]
      split <;> omega
    · rw [sln_upd h, if_neg e, srs_upd h _ e]
      split <;> omega
theorem bl_upd (ts : List T3) {ss : List T3} {i : Nat} (h : i < ss.length) (t : Nat) : bl ts (upd ss i (0, 0, 0)) t ≤ bl ts ss t := by
  rcases blN_cases ts (upd ss i (0, 0, 0)) t ts.length with e | ⟨k, h1, h2, h3, h4, e⟩
  · show blN _ _ _ _ ≤ _
    omega
  · by_cases ek : k = i
    · subst ek
      rw [sln_upd h, if_pos rfl] at h3
      exact absurd h3 (by decide)
    · have := ceN_upd ts h (srs ss k) ts.length
      rw [srs_upd h _ ek] at h4
      rw [sln_upd h, if_neg ek] at h3 e
      have h5 := blN_ge (ts := ts) (ss := ss) (t := t) (i := k) h2 h3 (Nat.le_trans this h4) h1
      show blN _ _ _ _ ≤ blN _ _ _ _
      omega
theorem rf_upd {ts ss : List T3} (h : rfB ts ss = true) {i : Nat} (hi : i < ss.length) : rfB ts (upd ss i (0, 0, 0)) = true := by
  obtain ⟨h1, h2⟩ := rfB_iff.1 h
  have h3 := scB_iff.1 h1
  refine rfB_iff.2 ⟨?_, fun t a b => ?_⟩
  · rw [sc_upd h1 hi]
    have := tv_bd (tk_sv h3.1 (show i < ts.length by omega))
    rw [sc1_iff]
    refine ⟨fun _ => ⟨rfl, rfl⟩, ?_⟩
    simp only
    omega
  · have := h2 t a b
    have := bl_upd ts hi t
    omega
/-- One tick shorter: valid; one tick beyond the task's cost: not. -/
theorem sc_short {ts ss : List T3} (h : scB ts ss = true) {i : Nat} (hi : i < ss.length) {a b c : Int} (hs : (a, b, c) = tk ss i) (hb : b ≠ 0) : scB ts (upd ss i (if b - 1 = 0 then (0, 0, 0) else (a, b - 1, c))) = true := by
  obtain ⟨h1, h2, h3⟩ := scB_iff.1 h
  have h4 := h3 i hi
  rw [sc1_iff, ← hs] at h4
  simp only at h4
  rw [sc_upd h hi, sc1_iff]
  have := tv_bd (tk_sv h1 (show i < ts.length by omega))
  split
  · refine ⟨fun _ => ⟨rfl, rfl⟩, ?_⟩
    simp only
    omega
  · rename_i hn
    refine ⟨fun h => absurd h hn, ?_⟩
    simp only
    omega
theorem sc_long {ts ss : List T3} (h : scB ts ss = true) {i : Nat} (hi : i < ss.length) {a c C D P : Int} (ht : (C, D, P) = tk ts i) : scB ts (upd ss i (a, C - a + 1, c)) = false := by
  rw [sc_upd h hi]
  cases hh : sc1 (tk ts i) (a, C - a + 1, c) with
  | false => rfl
  | true =>
    rw [sc1_iff, ← ht] at hh
    simp only at hh
    omega

/-! ### The block of a law: the longest section, the last deadline -/
def mxF (f : Nat → Nat) : Nat → Nat
  | 0 => 0
  | k + 1 => max (mxF f k) (f k)
theorem mxF_ge {f : Nat → Nat} {i : Nat} : ∀ {n : Nat}, i < n → f i ≤ mxF f n
  | 0, h => absurd h (Nat.not_lt_zero _)
  | n + 1, h => by
    simp only [mxF]
    by_cases e : i = n
    · subst e; exact Nat.le_max_right _ _
    · exact Nat.le_trans (mxF_ge (n := n) (by omega)) (Nat.le_max_left _ _)
theorem bl_longest (ts ss : List T3) (t : Nat) : bl ts ss t ≤ mxF (sln ss) ts.length := by
  rcases blN_cases ts ss t ts.length with e | ⟨i, h1, _, _, _, e⟩
  · show blN _ _ _ _ ≤ _
    omega
  · have := mxF_ge (f := sln ss) h1
    show blN _ _ _ _ ≤ _
    omega
theorem bl_last (ts ss : List T3) {t : Nat} (h : mxF (tdl ts) ts.length ≤ t) : bl ts ss t = 0 := by
  rcases blN_cases ts ss t ts.length with e | ⟨i, h1, h2, _⟩
  · exact e
  · have := mxF_ge (f := tdl ts) h1
    omega
theorem bl_urgent (ts ss : List T3) {t : Nat} (h : ∀ i, i < ts.length → tdl ts i ≤ t → sln ss i = 0) (h12 : t < 13) : bl ts ss t = 0 := by
  rcases blN_cases ts ss t ts.length with e | ⟨i, h1, h2, h3, h4, _⟩
  · exact e
  · rcases ceN_cases ts ss (srs ss i) ts.length with e | ⟨j, j1, j2, j3, e⟩
    · unfold ce at h4
      omega
    · have := h j j1 (by unfold ce at h4; omega)
      omega
theorem bl_13 (ts ss : List T3) {t : Nat} (hd : ∀ i, i < ts.length → tdl ts i ≤ 12) (h12 : 13 ≤ t) : bl ts ss t = 0 := by
  rcases blN_cases ts ss t ts.length with e | ⟨i, h1, h2, _⟩
  · exact e
  · have := hd i h1
    omega

end Go.Proofs.Ytlagghoohloklaa
