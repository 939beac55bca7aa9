/- Contract of spec.RunEdf. Conditions: the slices' cells hold tasks and jobs; their lengths are at most 2^40. -/
import Derived.Test.YtlagghoohloklaaLegalSpec
namespace Go.Proofs.Ytlagghoohloklaa
open Go.RowKit Go.Deep

def lenR (ts : List T3) (js : List J4) : Nat := if legB ts js = true then 120 else 0
def lenF (ts : List T3) (js : List J4) : Nat := if legB ts js = true then js.length else 0
def runF (js : List J4) : Nat → Int := fun t => optI ((edfP js).run t)
def finF (js : List J4) : Nat → Int := fun i => (edfP js).fin 120 i
/-- The schedule of earliest deadline first, in two slices of its own; the zero value for an illegal pattern. -/
def EdfSched (base : Nat) (ts : List T3) (js : List J4) (e : Ending) (w' : World) : Prop :=
  ∃ vr vf, e = .returned (.agg #[vr, vf]) ∧ OwnI w' base vr (lenR ts js) (runF js) ∧ OwnI w' base vf (lenF ts js) (finF js) ∧ Apart vf vr
theorem leg_fits {ts : List T3} {js : List J4} (h : legB ts js = true) : Fits js (edfP js) ∧ (∀ k, k < js.length → (edfP js).ex k ≤ 1000) ∧ ∀ k, k < js.length → (jb js k).2.2.1 = ((edfP js).key k : Nat) := by
  obtain ⟨hv, hl, h1⟩ := legB_iff.1 h
  have hall := (sv_all hv).1
  have hk : ∀ k, k < js.length → (jb js k).2.1 = (jrel js k : Nat) ∧ (jb js k).2.2.2 = (jex js k : Nat) ∧ (jb js k).2.2.1 = (jdl js k : Nat) ∧ jex js k ≤ 1000 := by
    intro k hk
    have h2 := h1 k hk
    obtain ⟨a1, a2, a3, a4, a5, a6, a7⟩ := h2.nat hall
    have hb := tv_bd a2
    obtain ⟨_, ⟨b1, _⟩, _, b3, ⟨b4, _⟩, _⟩ := h2
    simp only [jrel, jex, jdl] at *
    refine ⟨by omega, by omega, by omega, by omega⟩
  exact ⟨⟨rfl, fun k h => (hk k h).1, fun k h => (hk k h).2.1⟩, fun k h => (hk k h).2.2.2, fun k h => (hk k h).2.2.1⟩

end Go.Proofs.Ytlagghoohloklaa
