/- Contracts of spec.RunFixed and of the program's RunFixed. Conditions: the slices hold what is said; their lengths are at most 2^40. -/
import Derived.Test.YtlagghoohloklaaRunImpl
import Derived.Test.YtlagghoohloklaaOrdImpl
import Derived.Test.YtlagghoohloklaaFixSpec
namespace Go.Proofs.Ytlagghoohloklaa
open Go.RowKit Go.Deep

/-- A valid order and a legal pattern. -/
def okF (ts : List T3) (os : List Int) (js : List J4) : Bool := ordB ts os && legB ts js
def lenRF (ts : List T3) (os : List Int) (js : List J4) : Nat := if okF ts os js = true then 120 else 0
def lenFF (ts : List T3) (os : List Int) (js : List J4) : Nat := if okF ts os js = true then js.length else 0
/-- The simulation by the places of an order. -/
def fxP (os : List Int) (js : List J4) : Pat := fixP js (rk os)
def runX (os : List Int) (js : List J4) : Nat → Int := fun t => optI ((fxP os js).run t)
def finX (os : List Int) (js : List J4) : Nat → Int := fun i => (fxP os js).fin 120 i
/-- The schedule by priorities, in two slices of its own; the zero value for invalid arguments. -/
def FixSched (base : Nat) (ts : List T3) (os : List Int) (js : List J4) (e : Ending) (w' : World) : Prop :=
  ∃ vr vf, e = .returned (.agg #[vr, vf]) ∧ OwnI w' base vr (lenRF ts os js) (runX os js) ∧ OwnI w' base vf (lenFF ts os js) (finX os js) ∧ Apart vf vr
theorem okF_iff {ts : List T3} {os : List Int} {js : List J4} : okF ts os js = true ↔ ordB ts os = true ∧ legB ts js = true := by simp [okF]
theorem rk_place' {ts : List T3} {os : List Int} (h : ordB ts os = true) {k y : Nat} (hk : k < os.length) (hy : os.getD k 0 = (y : Int)) : rk os y = k := by
  have e : os[k]? = some (y : Int) := by
    rw [← hy, List.getD_eq_getElem?_getD, List.getElem?_eq_getElem hk]
    rfl
  have hm : (y : Int) ∈ os := List.mem_of_getElem? e
  exact (List.getElem?_inj (rk_lt hm) (ordB_iff.1 h).2.2.2).1 ((rk_at hm).trans e.symm)
theorem idF_rk {ts : List T3} {os : List Int} (h : ordB ts os = true) {i : Nat} (hi : i < ts.length) : idF (fun k => os.getD k 0) (i : Int) os.length = (rk os i : Nat) := by
  have hm := ord_all h hi
  refine idF_hit (fun j hj e => ?_) ?_ _ (rk_lt hm)
  · have := rk_place' h (by have := rk_lt hm; omega) e
    omega
  · rw [List.getD_eq_getElem?_getD, rk_at hm]
    rfl
theorem fx_fits {ts : List T3} {js : List J4} (h : legB ts js = true) (os : List Int) : Fits js (fxP os js) := by
  obtain ⟨h1, _⟩ := leg_fits h
  exact ⟨rfl, h1.rel, h1.ex⟩
theorem fx_ex {ts : List T3} {js : List J4} (h : legB ts js = true) (os : List Int) : ∀ k, k < js.length → 1 ≤ (fxP os js).ex k ∧ (fxP os js).ex k ≤ 1000 := leg_ex h
theorem jid_at {ts : List T3} {js : List J4} (h : legB ts js = true) {k : Nat} (hk : k < js.length) : jid js k < ts.length ∧ (jb js k).1 = (jid js k : Nat) := by
  have h1 := (legB_iff.1 h).2.2 k hk
  have h2 := h1.1
  unfold jid
  omega

end Go.Proofs.Ytlagghoohloklaa
