/- The processors that assignment.fitting hands out, and the first complete assignment, as lists; what they have to do with first fit and the search. No dump. -/
import Derived.Test.YtdgihkmiolnglaaGreatDoorPart
namespace Go.Proofs.YtdgihkmiolnglaaGreatDoor

/-- From processor c on, m processors: those on which task k fits, up to the first one without tasks. -/
def fitG (ts : List T3) (f : Nat → Int) (k : Nat) : Nat → Nat → List Nat
  | _, 0 => []
  | c, m + 1 => (if fit ts f k c = true then [c] else []) ++ (if onN ts f (c : Nat) k = [] then [] else fitG ts f k (c + 1) m)
def fitL (ts : List T3) (n : Nat) (f : Nat → Int) (k : Nat) : List Nat := fitG ts f k 0 n
theorem fitG_succ (ts : List T3) (f : Nat → Int) (k c m : Nat) : fitG ts f k c (m + 1) = (if fit ts f k c = true then [c] else []) ++ (if onN ts f (c : Nat) k = [] then [] else fitG ts f k (c + 1) m) := rfl
theorem fitG_lt {ts : List T3} {f : Nat → Int} {k x : Nat} : ∀ {m c : Nat}, x ∈ fitG ts f k c m → c ≤ x ∧ x < c + m
  | 0, _, h => by simp [fitG] at h
  | m + 1, c, h => by
    rw [fitG_succ] at h
    rcases List.mem_append.1 h with h | h
    · split at h
      · obtain rfl : x = c := by simpa using h
        omega
      · simp at h
    · split at h
      · simp at h
      · have := fitG_lt h
        omega
theorem fitL_lt {ts : List T3} {n : Nat} {f : Nat → Int} {k x : Nat} (h : x ∈ fitL ts n f k) : x < n := by have := fitG_lt h; omega
theorem onN_nil {ts : List T3} {f : Nat → Int} {c : Int} : ∀ {k : Nat}, onN ts f c k = [] ↔ ∀ j, j < k → f j ≠ c
  | 0 => by simp [onN]
  | k + 1 => by
    simp only [onN]
    by_cases e : f k = c
    · rw [if_pos e]
      constructor
      · intro h; simp at h
      · intro h; exact absurd e (h k (by omega))
    · rw [if_neg e, onN_nil (k := k)]
      constructor
      · intro h j hj
        by_cases ej : j = k
        · subst ej; exact e
        · exact h j (by omega)
      · intro h j hj
        exact h j (by omega)
theorem fit_empty {ts : List T3} (hv : svB ts = true) {f : Nat → Int} {k c : Nat} (hk : k < ts.length) (h : onN ts f (c : Nat) k = []) : fit ts f k c = true := by
  unfold fit
  rw [h]
  exact edf_one (tk_tv (all_of_sv hv) hk)
theorem fitG_head {ts : List T3} (hv : svB ts = true) {f : Nat → Int} {k : Nat} (hk : k < ts.length) : ∀ (m c : Nat), (fitG ts f k c m).head? = (List.range' c m).find? (fit ts f k)
  | 0, _ => rfl
  | m + 1, c => by
    rw [fitG_succ, List.range'_succ, List.find?_cons]
    cases e : fit ts f k c with
    | true => simp
    | false =>
      have hne : ¬ onN ts f (c : Nat) k = [] := fun h => by rw [fit_empty hv hk h] at e; simp at e
      rw [if_neg (by simp), if_neg hne, List.nil_append, fitG_head hv hk m (c + 1)]
theorem fitL_head {ts : List T3} (hv : svB ts = true) {f : Nat → Int} {k : Nat} (hk : k < ts.length) (n : Nat) : (fitL ts n f k).head? = low (fit ts f k) n := by
  unfold fitL low
  rw [fitG_head hv hk, List.range_eq_range']

/-- The first complete assignment that begins so. -/
def fstC (ts : List T3) (n : Nat) : Nat → List Nat → Option (List Nat)
  | 0, as => some as
  | m + 1, as => (fitL ts n (nz as) as.length).findSome? fun c => fstC ts n m (as ++ [c])
def Dense (as : List Nat) : Prop := ∀ c, c < top as → c ∈ as
theorem mem_nz {as : List Nat} {c : Nat} : c ∈ as ↔ ∃ j, j < as.length ∧ nz as j = (c : Int) := by
  constructor
  · intro h
    obtain ⟨j, hj, e⟩ := List.getElem_of_mem h
    exact ⟨j, hj, by simp [nz, List.getD_eq_getElem?_getD, List.getElem?_eq_getElem hj, e]⟩
  · rintro ⟨j, hj, e⟩
    have : as.getD j 0 = c := by unfold nz at e; omega
    rw [← this]
    simp [List.getD_eq_getElem?_getD, List.getElem?_eq_getElem hj]
theorem dense_nil : Dense [] := fun c h => by simp [top] at h
theorem dense_snoc {as : List Nat} (h : Dense as) {c : Nat} (hc : c ≤ top as) : Dense (as ++ [c]) := fun d hd => by
  rw [top_snoc] at hd
  by_cases e : d < top as
  · exact List.mem_append_left _ (h d e)
  · obtain rfl : d = c := by omega
    simp
theorem fitG_first {ts : List T3} {n : Nat} {as : List Nat} (hd : Dense as) {α : Type} {h g : Nat → Option α} (hg : ∀ c, c ≤ top as → c < n → h c = g c) : ∀ (m c : Nat), c + m = n → c ≤ top as →
    (fitG ts (nz as) as.length c m).findSome? h = firstR (fun c => if fit ts (nz as) as.length c = true then g c else none) c (min n (top as + 1) - c)
  | 0, c, hc, _ => by
    rw [show min n (top as + 1) - c = 0 by omega]
    rfl
  | m + 1, c, hc, hct => by
    obtain ⟨q, hq⟩ : ∃ q, min n (top as + 1) - c = q + 1 := ⟨min n (top as + 1) - c - 1, by omega⟩
    rw [hq, fitG_succ]
    simp only [firstR]
    have hrest : (if onN ts (nz as) (c : Nat) as.length = [] then [] else fitG ts (nz as) as.length (c + 1) m).findSome? h = firstR (fun c => if fit ts (nz as) as.length c = true then g c else none) (c + 1) q := by
      by_cases ec : c = top as
      · have h0 : onN ts (nz as) (c : Nat) as.length = [] := onN_nil.2 fun j hj e => by
          have := top_ge hj
          unfold nz at e
          omega
        rw [if_pos h0, show q = 0 by omega]
        rfl
      · have h0 : ¬ onN ts (nz as) (c : Nat) as.length = [] := fun e => by
          obtain ⟨j, hj, ej⟩ := mem_nz.1 (hd c (by omega))
          exact onN_nil.1 e j hj ej
        rw [if_neg h0, fitG_first hd hg m (c + 1) (by omega) (by omega), show min n (top as + 1) - (c + 1) = q by omega]
    rw [List.findSome?_append, hrest]
    cases e : fit ts (nz as) as.length c with
    | true =>
      simp only [if_pos]
      rw [← hg c hct (by omega)]
      cases e2 : h c <;> simp [e2]
    | false => simp
theorem fst_srch {ts : List T3} {n : Nat} : ∀ (m : Nat) (as : List Nat), Dense as → fstC ts n m as = srch ts n m as
  | 0, _, _ => rfl
  | m + 1, as, hd => by
    simp only [fstC, srch]
    exact fitG_first (n := n) hd (fun c hc _ => fst_srch m (as ++ [c]) (dense_snoc hd hc)) n 0 (by omega) (Nat.zero_le _)
theorem fst_part (ts : List T3) (n : Nat) : fstC ts n ts.length [] = part ts n := fst_srch _ _ dense_nil
theorem nz_with (as : List Nat) (c : Nat) : ∀ k, k < as.length + 1 → (fun k => if k < as.length then nz as k else (c : Int)) k = nz (as ++ [c]) k := by
  intro k hk
  by_cases e : k < as.length
  · simp only [if_pos e]; exact ((nz_snoc as c).1 k e).symm
  · obtain rfl : k = as.length := by omega
    simp only [if_neg e]; exact (nz_snoc as c).2.symm

end Go.Proofs.YtdgihkmiolnglaaGreatDoor
