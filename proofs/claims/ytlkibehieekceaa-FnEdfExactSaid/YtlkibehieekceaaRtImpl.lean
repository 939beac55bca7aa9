/- Contracts of spec.ResponseTimes and of the program's ResponseTimes and FixedFeasible. Conditions: the slices hold what is said, at most 2^20 entries. -/
import Derived.Test.YtlkibehieekceaaRespImpl
namespace Go.Proofs.Ytlkibehieekceaa
open Go.RowKit Go.Deep

/-- The response time of task i, or -1. -/
def rtF (ts : List T3) (os : List Int) (i : Nat) : Int := optI (rspO ts os (rk os i))
/-- .. of the tasks of the first k places; d for the others. -/
def rtK (d : Int) (ts : List T3) (os : List Int) (k i : Nat) : Int := if rk os i < k then rtF ts os i else d
def rtN (ts : List T3) (os : List Int) : Nat := if ordB ts os = true then ts.length else 0
theorem rk_place {ts : List T3} {os : List Int} (h : ordB ts os = true) {k y : Nat} (hk : k < os.length) (hy : os.getD k 0 = (y : Int)) : rk os y = k := by
  have e : os[k]? = some (y : Int) := by
    rw [← hy, List.getD_eq_getElem?_getD, List.getElem?_eq_getElem hk]
    rfl
  have hm : (y : Int) ∈ os := List.mem_of_getElem? e
  exact (List.getElem?_inj (rk_lt hm) (ordB_iff.1 h).2.2.2).1 ((rk_at hm).trans e.symm)
theorem rtK_step {ts : List T3} {os : List Int} (h : ordB ts os = true) {k y : Nat} (d : Int) (hk : k < os.length) (hy : os.getD k 0 = (y : Int)) (i : Nat) (hi : i < ts.length) :
    (if i = y then optI (rspO ts os k) else rtK d ts os k i) = rtK d ts os (k + 1) i := by
  have hp := rk_place h hk hy
  unfold rtK
  by_cases e : i = y
  · subst e
    rw [if_pos rfl, if_pos (by omega), rtF, hp]
  · rw [if_neg e]
    have hyl : y < ts.length := by have := ord_at h hk; omega
    have hne : rk os i ≠ k := fun e2 => e (rk_inj h i y hi hyl (e2.trans hp.symm))
    by_cases hl : rk os i < k
    · rw [if_pos hl, if_pos (by omega)]
    · rw [if_neg hl, if_neg (by omega)]
theorem rtK_zero (d : Int) (ts : List T3) (os : List Int) (i : Nat) : d = rtK d ts os 0 i := by simp [rtK]
theorem rtK_all {ts : List T3} {os : List Int} (h : ordB ts os = true) (d : Int) (i : Nat) (hi : i < ts.length) : rtK d ts os os.length i = rtF ts os i := by
  unfold rtK
  rw [if_pos (rk_lt (ord_all h hi))]
theorem rtN_yes {ts : List T3} {os : List Int} (h : ordB ts os = true) : rtN ts os = ts.length := if_pos h
theorem rtN_no {ts : List T3} {os : List Int} (h : ordB ts os = false) : rtN ts os = 0 := if_neg (by rw [h]; simp)

/-- Response times were returned, in memory of its own. -/
def GotRt (base : Nat) (ts : List T3) (os : List Int) (e : Ending) (w' : World) : Prop := ∃ v, e = .returned v ∧ OwnI w' base v (rtN ts os) (rtF ts os)

end Go.Proofs.Ytlkibehieekceaa
