/- Contracts of spec.l4Index and spec.OrderValid. Conditions: the slices hold what is said, at most 2^20 entries. -/
import Derived.Test.YtlagghoohloklaaPlain
import Derived.Test.YtlagghoohloklaaMem
namespace Go.Proofs.Ytlagghoohloklaa
open Go.RowKit Go.Deep

/-- The first index below n at which f has x, or -1. -/
def idF (f : Nat → Int) (x : Int) : Nat → Int
  | 0 => -1
  | n + 1 => if 0 ≤ idF f x n then idF f x n else if f n = x then (n : Int) else -1
theorem idF_none {f : Nat → Int} {x : Int} : ∀ {n : Nat}, (∀ k, k < n → f k ≠ x) → idF f x n = -1
  | 0, _ => rfl
  | n + 1, h => by
    have h1 := idF_none (n := n) fun k hk => h k (by omega)
    simp only [idF, h1]
    rw [if_neg (by omega), if_neg (h n (by omega))]
theorem idF_hit {f : Nat → Int} {x : Int} {k : Nat} (h0 : ∀ j, j < k → f j ≠ x) (h1 : f k = x) : ∀ n, k < n → idF f x n = k
  | 0, h => absurd h (by omega)
  | n + 1, h => by
    by_cases e : k = n
    · subst e
      simp only [idF, idF_none h0]
      rw [if_neg (by omega), if_pos h1]
    · have := idF_hit h0 h1 n (by omega)
      simp only [idF, this]
      rw [if_pos (by omega)]
theorem idF_neg {f : Nat → Int} {x : Int} {n : Nat} : idF f x n < 0 ↔ ∀ k, k < n → f k ≠ x := by
  constructor
  · induction n with
    | zero => intro _ k hk; omega
    | succ n ih =>
      intro h k hk
      simp only [idF] at h
      split at h
      · omega
      · split at h
        · omega
        · by_cases e : k = n
          · subst e; assumption
          · exact ih (by omega) k (by omega)
  · intro h; rw [idF_none h]; omega

/-- What spec.OrderValid asks of the entries below k. -/
def ordF (f : Nat → Int) (n k : Nat) : Prop := ∀ j, j < k → (0 ≤ f j ∧ f j < n) ∧ ∀ i, i < j → f i ≠ f j
theorem ordF_list {ts : List T3} {os : List Int} (hs : svB ts = true) (hl : os.length = ts.length) : ordB ts os = true ↔ ordF (fun k => os.getD k 0) ts.length os.length := by
  rw [ordB_iff]
  have g : ∀ j, j < os.length → ∃ h : j < os.length, os.getD j 0 = os[j] := fun j h => ⟨h, by simp [List.getD, List.getElem?_eq_getElem h]⟩
  constructor
  · rintro ⟨_, _, h1, h2⟩ j hj
    obtain ⟨_, e⟩ := g j hj
    refine ⟨?_, fun i hi => ?_⟩
    · simp only [e]; exact h1 _ (List.getElem_mem _)
    · obtain ⟨_, e1⟩ := g i (by omega)
      simp only [e, e1]
      intro h
      have := (List.getElem_inj h2).1 h
      omega
  · intro h
    refine ⟨hs, hl, fun x hx => ?_, ?_⟩
    · obtain ⟨j, hj, rfl⟩ := List.getElem_of_mem hx
      obtain ⟨_, e⟩ := g j hj
      have := (h j hj).1
      simp only [e] at this
      exact this
    · rw [List.Nodup, List.pairwise_iff_getElem]
      intro i j hi hj hij
      have := (h j hj).2 i hij
      obtain ⟨_, e⟩ := g j hj
      obtain ⟨_, e1⟩ := g i (by omega)
      simp only [e, e1] at this
      exact this
theorem ordF_next {f : Nat → Int} {n k : Nat} {y : Int} (h : ordF f n k) (hy : y = f k) (h1 : 0 ≤ y ∧ y ≤ (n : Int) - 1) (h2 : idF f y k < 0) : ordF f n (k + 1) := fun j hj => by
  by_cases e : j = k
  · subst e
    rw [← hy]
    exact ⟨⟨h1.1, by omega⟩, fun i hi => idF_neg.1 h2 i hi⟩
  · exact h j (by omega)

end Go.Proofs.Ytlagghoohloklaa
