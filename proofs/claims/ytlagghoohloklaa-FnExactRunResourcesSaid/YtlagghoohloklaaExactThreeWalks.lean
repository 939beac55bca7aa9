/- The walks of the exact laws of chapter 3, for whatever code: FnExactJobsLegal, FnExactSynchronous. Conditions: the arguments are slices of tasks and of jobs. -/
import Derived.Test.YtlagghoohloklaaEdfImpl
import Derived.Test.YtlagghoohloklaaMark
import Derived.Test.YtlagghoohloklaaCopy
namespace Go.Proofs.Ytlagghoohloklaa
open Go.RowKit Go.Deep

theorem OwnJ.apart {w w' : World} {base : Nat} {v : Value} {js : List J4} {row : Option Nat} (h : OwnJ w base v js) (hg : w.grownBy w' row) (hne : ∀ k, v.ownBlock = some k → row ≠ some k) : OwnJ w' base v js :=
  World.ownsRow.kept h hg (by cases e : v.ownBlock with
    | none => exact .inl rfl
    | some k => exact .inr (fun h2 => hne k e h2.symm))
theorem syB_len (ts : List T3) (x : Int) : (syB ts x).length ≤ 60 := by
  unfold syB
  split
  · rename_i h
    exact (legB_iff.1 (sy_legal h.1 (by omega))).2.1
  · simp

end Go.Proofs.Ytlagghoohloklaa
