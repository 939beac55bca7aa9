/- Contract of spec.l3Run: the simulation by static keys. Conditions: the slices hold what is said, at most 60 jobs. -/
import Derived.Test.YtnhbmegglpgkoaaMem
namespace Go.Proofs.Ytnhbmegglpgkoaa
open Go.RowKit Go.Deep

/-- What a simulation of pattern P over js.length jobs returns: two slices of its own. -/
def Sched (base : Nat) (w' : World) (P : Pat) (n : Nat) (e : Ending) : Prop :=
  ∃ vr vf, e = .returned (.agg #[vr, vf]) ∧ OwnI w' base vr 120 (fun t => optI (P.run t)) ∧ OwnI w' base vf n (fun i => P.fin 120 i) ∧ Apart vf vr
/-- The jobs' integers and the pattern agree. -/
structure Fits (js : List J4) (P : Pat) : Prop where
  n : P.n = js.length
  rel : ∀ k, k < js.length → (jb js k).2.1 = P.rel k
  ex : ∀ k, k < js.length → (jb js k).2.2.2 = P.ex k
theorem sb_start (B : Nat) (w : World) (hB : B = w.heap.size) (fr ff fl : Nat → Int) :
    SB B w (((w.alloc (.cells #[.slice none 0 0, .slice none 0 0] 42)).alloc (.cells #[.slice none 0 0, .slice none 0 0] 42)).alloc (.cells #[] 3)) (.slice none 0 0) (.slice none 0 0) (.slice (some ⟨B + 2, 0, none⟩) 0 0) 0 0 0 fr ff fl := by
  subst hB
  have e : w.heap.size + 2 = ((w.alloc (.cells #[.slice none 0 0, .slice none 0 0] 42)).alloc (.cells #[.slice none 0 0, .slice none 0 0] 42)).heap.size := by simp
  have hne : ¬ w.heap.size = w.heap.size + 1 := by omega
  refine ⟨by simp [go_sem], by simp [go_sem], by simp [go_sem], by simp [go_sem], by simp [go_sem], by simp [go_sem], by simp [go_sem], by simp [go_sem], ?_, OwnI.nil _ _ _, OwnI.nil _ _ _, ?_, ?_, Apart.nil _, ?_, by simp⟩
  · rw [e]; exact OwnI.empty _ _
  · exact (Apart.nil _).symm
  · exact (Apart.nil _).symm
  · exact (((below_box _ _).alloc (by simp) _).alloc (by simp <;> omega) _)

end Go.Proofs.Ytnhbmegglpgkoaa
