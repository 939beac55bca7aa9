/- Contracts of the functions that compute the utilization: impl.Fraction.reduced, impl.Fraction.plus, impl.Task.utilization, impl.Utilization, spec.Utilization, laws.eqFraction. Conditions: numbers of moderate size; the slice's cells hold tasks; its length is at most 2^40. -/
import Derived.Test.YtlagghoohloklaaHyper
namespace Go.Proofs.Ytlagghoohloklaa
open Go.RowKit

theorem quo_nat (x g : Nat) (hx : x ≤ 1099511627776) : wrap64 ((x : Int) / g) = ((x / g : Nat) : Int) := by
  have h1 : x / g ≤ x := Nat.div_le_self _ _
  rw [← Int.natCast_ediv]
  generalize x / g = z at *
  exact IntWalk.wrap64_in _ (by omega)
theorem below_drewN' {B : Nat} {a w : World} (h : Below B a w) (n : Nat) : Below B a (w.drewN n) := ⟨h.os, h.tape, h.output, h.size, h.block⟩
theorem mul_bd (a b : Nat) (ha : a ≤ 200000) (hb : b ≤ 200000) : (0 : Int) ≤ (a : Int) * b ∧ (a : Int) * b ≤ 40000000000 ∧ a * b ≤ 40000000000 := by
  have h : a * b ≤ 200000 * 200000 := Nat.mul_le_mul ha hb
  have e : (a : Int) * b = ((a * b : Nat) : Int) := by simp
  rw [e]
  omega

theorem ut_no {ts : List (Int × Int × Int)} (h : svB ts = false) : utN ts = 0 ∧ utD ts = 0 := by simp [utN, utD, h]
theorem ut_yes {ts : List (Int × Int × Int)} (h : svB ts = true) : utN ts = wrk (hyp ts) ts / Nat.gcd (hyp ts) (wrk (hyp ts) ts) ∧ utD ts = hyp ts / Nat.gcd (hyp ts) (wrk (hyp ts) ts) := by simp [utN, utD, h]
theorem wrk_take_le {ts : List (Int × Int × Int)} (h : svB ts = true) (H k : Nat) : wrk H (ts.take k) ≤ 5 * H := by
  obtain ⟨h1, h2⟩ := sv_all h
  refine Nat.le_trans (wrk_le H (ts.take k) (all_take h1 k)) (Nat.mul_le_mul_right _ ?_)
  rw [List.length_take]
  omega
theorem wrk_step {ts : List (Int × Int × Int)} {k H S c q : Nat} {t : Int × Int × Int} (hlt : k < ts.length) (ht : t = ts[k]) (hc : c = cst t) (hq : q = per t) (hS : S = wrk H (ts.take k)) :
    Value.int .i64 ((S : Int) + c * ((H : Int) / q)) = .int .i64 (wrk H (ts.take (k + 1)) : Nat) := by
  rw [take_succ hlt ht, wrk_snoc, ← hS, ← hc, ← hq]
  simp

end Go.Proofs.Ytlagghoohloklaa
