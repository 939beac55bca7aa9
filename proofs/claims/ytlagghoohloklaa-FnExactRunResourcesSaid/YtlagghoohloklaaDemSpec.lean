/- Contracts of the reference functions of chapter 2: spec.l2Demand, Demand, l2Overload, FirstOverload, l2Edf, EdfFeasible, l2Work, BusyPeriod. Conditions: the slice's cells hold tasks; its length is at most 2^40. -/
import Derived.Test.YtlagghoohloklaaBase
import Derived.Test.YtlagghoohloklaaPlain
namespace Go.Proofs.Ytlagghoohloklaa
open Go.RowKit

theorem dem_take_le {ts : List T3} (h : svB ts = true) (x k : Nat) (hx : x ≤ 100000) : dem (ts.take k) x ≤ 10000000 := by
  obtain ⟨h1, h2⟩ := sv_all h
  have h3 := dem_le (ts.take k) (all_take h1 k) x
  have h4 : (ts.take k).length ≤ 5 := by rw [List.length_take]; omega
  have h5 : (ts.take k).length * (8 * (x + 1)) ≤ 5 * (8 * (x + 1)) := Nat.mul_le_mul_right _ h4
  omega
theorem dem_step_no {ts : List T3} {k x S d : Nat} {t : T3} (hlt : k < ts.length) (ht : t = ts[k]) (hd : d = dln t) (hS : S = dem (ts.take k) x) (hx : ¬ d ≤ x) : Value.int .i64 (S : Int) = .int .i64 (dem (ts.take (k + 1)) x : Nat) := by
  rw [take_succ hlt ht, dem_snoc, ← hS]
  unfold dem1
  rw [← hd, if_neg hx]
  rfl
theorem dem_step_yes {ts : List T3} {k x S c d q : Nat} {t : T3} (hlt : k < ts.length) (ht : t = ts[k]) (hc : c = cst t) (hd : d = dln t) (hq : q = per t) (hS : S = dem (ts.take k) x) (hx : d ≤ x) :
    Value.int .i64 ((S : Int) + (((x : Int) - d) / q + 1) * c) = .int .i64 (dem (ts.take (k + 1)) x : Nat) := by
  rw [take_succ hlt ht, dem_snoc, ← hS]
  unfold dem1
  rw [← hd, if_pos hx, ← hc, ← hq]
  have e : (x : Int) - d = ((x - d : Nat) : Int) := by omega
  rw [e]
  simp

def demB (ts : List T3) (x : Int) : Int := if svB ts = true ∧ 0 ≤ x ∧ x ≤ hyp ts then (dem ts x.toNat : Nat) else -1
theorem demB_no {ts : List T3} {x : Int} (h : ¬ (svB ts = true ∧ 0 ≤ x ∧ x ≤ hyp ts)) : demB ts x = -1 := by rw [demB, if_neg h]
theorem demB_yes {ts : List T3} {x : Nat} (h : svB ts = true) (hx : x ≤ hyp ts) : demB ts x = (dem ts x : Nat) := by
  rw [demB, if_pos ⟨h, by omega, by omega⟩]
  rfl

theorem edf_dec {ts : List T3} (h : svB ts = true) : (fo ts == -1) = edf ts := by
  rw [edf, h, Bool.true_and, Bool.eq_iff_iff, beq_iff_eq, decide_eq_true_eq]
theorem edf_no {ts : List T3} (h : svB ts = false) : edf ts = false := by rw [edf, h, Bool.false_and]

theorem wk1_le {t : T3} (h : tv t = true) (x : Nat) : wk1 t x ≤ 8 * (x + 12) := by
  have hb := tv_bd h
  unfold wk1
  have h1 : (x + per t - 1) / per t ≤ x + 12 := Nat.le_trans (Nat.div_le_self _ _) (by omega)
  have h2 : (x + per t - 1) / per t * cst t ≤ (x + 12) * 8 := Nat.mul_le_mul h1 (by omega)
  omega
theorem wk_le (ts : List T3) (h : ts.all tv = true) (x : Nat) : wk ts x ≤ ts.length * (8 * (x + 12)) := by
  induction ts using snoc_ind with
  | h0 => simp [wk]
  | h1 l a ih =>
    rw [List.all_append, Bool.and_eq_true] at h
    have h1 := ih h.1
    have h2 := wk1_le (t := a) (by simpa using h.2) x
    rw [wk_snoc, List.length_append, List.length_singleton, Nat.add_mul, Nat.one_mul]
    omega
theorem wk_take_le {ts : List T3} (h : svB ts = true) (x k : Nat) (hx : x ≤ 100000) : wk (ts.take k) x ≤ 10000000 := by
  obtain ⟨h1, h2⟩ := sv_all h
  have h3 := wk_le (ts.take k) (all_take h1 k) x
  have h4 : (ts.take k).length ≤ 5 := by rw [List.length_take]; omega
  have h5 : (ts.take k).length * (8 * (x + 12)) ≤ 5 * (8 * (x + 12)) := Nat.mul_le_mul_right _ h4
  omega
theorem wk_step {ts : List T3} {k x S c q : Nat} {t : T3} (hlt : k < ts.length) (ht : t = ts[k]) (hc : c = cst t) (hq : q = per t) (hp : 1 ≤ q) (hS : S = wk (ts.take k) x) :
    Value.int .i64 ((S : Int) + ((x : Int) + q - 1) / q * c) = .int .i64 (wk (ts.take (k + 1)) x : Nat) := by
  rw [take_succ hlt ht, wk_snoc, ← hS]
  unfold wk1
  rw [← hc, ← hq]
  have e : (x : Int) + q - 1 = ((x + q - 1 : Nat) : Int) := by omega
  rw [e]
  simp

/-- What BusyPeriod returns. -/
def Bp (ts : List T3) (r : Int) : Prop :=
  (¬ (svB ts = true ∧ ts ≠ [] ∧ utN ts ≤ utD ts) ∧ r = -1) ∨ (svB ts = true ∧ ts ≠ [] ∧ utN ts ≤ utD ts ∧ ∃ w : Nat, r = w ∧ Bz ts w ∧ wk ts w = w)
theorem Bp.unique {ts : List T3} {r s : Int} (h : Bp ts r) (k : Bp ts s) : r = s := by
  rcases h with ⟨h1, rfl⟩ | ⟨a, b, c, w, rfl, hb, hw⟩
  · rcases k with ⟨_, rfl⟩ | ⟨a, b, c, _⟩
    · rfl
    · exact absurd ⟨a, b, c⟩ h1
  · rcases k with ⟨k1, _⟩ | ⟨_, _, _, v, rfl, kb, kw⟩
    · exact absurd ⟨a, b, c⟩ k1
    · rw [hb.unique kb hw kw]
theorem bz_le {ts : List T3} (h : svB ts = true) (hu : utN ts ≤ utD ts) {w : Nat} (hb : Bz ts w) : w ≤ hyp ts :=
  hb.le (hyp_bd ts (all_of_sv h)).1 (by rw [wk_hyper (all_of_sv h) fun t ht => per_dvd_hyp ht]; exact (ut_le_iff h).1 hu)

end Go.Proofs.Ytlagghoohloklaa
