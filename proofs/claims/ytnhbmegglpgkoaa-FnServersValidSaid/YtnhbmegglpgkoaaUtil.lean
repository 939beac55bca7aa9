/- Contracts of the functions that compute the utilization: impl.Fraction.reduced, impl.Fraction.plus, impl.Task.utilization, impl.Utilization, spec.Utilization, laws.eqFraction. Conditions: numbers of moderate size; the slice's cells hold tasks; its length is at most 2^40. -/
import Derived.Test.YtnhbmegglpgkoaaHyper
namespace Go.Proofs.Ytnhbmegglpgkoaa
open Go.RowKit

theorem quo_nat (x g : Nat) (hx : x ≤ 1099511627776) : wrap64 ((x : Int) / g) = ((x / g : Nat) : Int) := by
  have h1 : x / g ≤ x := Nat.div_le_self _ _
  rw [← Int.natCast_ediv]
  generalize x / g = z at *
  exact IntWalk.wrap64_in _ (by omega)
theorem below_drewN' {B : Nat} {a w : World} (h : Below B a w) (n : Nat) : Below B a (w.drewN n) := ⟨h.os, h.tape, h.output, h.size, h.block⟩
theorem mul_bd (a b : Nat) (ha : a ≤ 200000) (hb : b ≤ 200000) : (0 : Int) ≤ (a : Int) * b ∧ (a : Int) * b ≤ 40000000000 ∧ a * b ≤ 40000000000 := by
  have h : a * b ≤ 200000 * 200000 := Nat.mul_le_mul ha hb
  have e : (a : Int) * b = ((a * b : Nat) : Int) := by simp
  rw [e]
  omega

/-- impl.Fraction.reduced. -/
theorem reduced_any (x y : Nat) (w : World) (hx : x ≤ 1099511627776) (hy : y ≤ 1099511627776) (hy1 : 1 ≤ y) :
    Calls Try.prog 68 #[.agg #[.int .i64 x, .int .i64 y]] w fun e w' =>
      e = .returned (.agg #[.int .i64 (rn x y : Nat), .int .i64 (rd x y : Nat)]) ∧ Below w.heap.size w w' := by
  obtain ⟨g, hg⟩ : ∃ g, g = Nat.gcd x y := ⟨_, rfl⟩
  have hg1 : 1 ≤ g := by rw [hg]; exact Nat.gcd_pos_of_pos_right _ hy1
  have hg1' : (1 : Int) ≤ g := by omega
  have hne : ((g : Int) == 0) = false := by simp; omega
  have C := Lib.hid (fun W => gcd_any x y W hx hy)
  rw [← hg] at C
  have HG := Lib.hid hg
  clear hg
  go_enter Try.func68, Try.ntmps68
  go_wp2_with fail
  refine (C.out _).mono ?_
  rintro e w' ⟨rfl, n, rfl⟩
  go_wp2
  go_region
  go_wp2
  simp [bodyPost, results, Try.results68, go_sem]
  refine ⟨⟨?_, ?_⟩, ((below_drewN' (((below_box _ _).alloc (by simp) _)) _).setCell (by simp) _).setCell (by simp) _⟩
  · rw [quo_nat _ _ hx]; simp only [rn]; rw [HG.out]
  · rw [quo_nat _ _ hy]; simp only [rd]; rw [HG.out]

/-- impl.Fraction.plus. -/
theorem plus_any (a b c d : Nat) (w : World) (ha : a ≤ 200000) (hb : b ≤ 200000) (hb1 : 1 ≤ b) (hc : c ≤ 200000) (hd : d ≤ 200000) (hd1 : 1 ≤ d) :
    Calls Try.prog 64 #[.agg #[.int .i64 a, .int .i64 b], .agg #[.int .i64 c, .int .i64 d]] w fun e w' =>
      e = .returned (.agg #[.int .i64 (rn (a * d + c * b) (b * d) : Nat), .int .i64 (rd (a * d + c * b) (b * d) : Nat)]) ∧ Below w.heap.size w w' := by
  have m1 := mul_bd a d ha hd
  have m2 := mul_bd c b hc hb
  have m3 := mul_bd b d hb hd
  have m4 : 1 ≤ b * d := Nat.mul_pos hb1 hd1
  have C := Lib.hid (fun W => reduced_any (a * d + c * b) (b * d) W (by have := m1.2.2; have := m2.2.2; omega) (by have := m3.2.2; omega) m4)
  simp only [Int.natCast_add, Int.natCast_mul] at C
  obtain ⟨p1, p2, _⟩ := m1
  obtain ⟨p3, p4, _⟩ := m2
  obtain ⟨p5, p6, _⟩ := m3
  clear m4
  go_enter Try.func64, Try.ntmps64
  go_wp2_with fail
  refine (C.out _).mono ?_
  rintro e w1 ⟨rfl, hbw⟩
  have x0 : w1.cell? ⟨w.heap.size + 1 + 1, 0, none⟩ = some (.int .i64 0) := by rw [hbw.cell (p := ⟨w.heap.size + 1 + 1, 0, none⟩) (by simp)]; go_simp
  have x1 : w1.cell? ⟨w.heap.size + 1 + 1, 1, none⟩ = some (.int .i64 0) := by rw [hbw.cell (p := ⟨w.heap.size + 1 + 1, 1, none⟩) (by simp)]; go_simp
  have f0 : w1.frozen? ⟨w.heap.size + 1 + 1, 0, none⟩ = false := by rw [hbw.frozen (p := ⟨w.heap.size + 1 + 1, 0, none⟩) (by simp)]; go_simp
  have f1 : w1.frozen? ⟨w.heap.size + 1 + 1, 1, none⟩ = false := by rw [hbw.frozen (p := ⟨w.heap.size + 1 + 1, 1, none⟩) (by simp)]; go_simp
  go_wp2
  simp [bodyPost, results, Try.results64, go_sem, x0, x1]
  exact (((((below_box _ _).alloc (by simp) _).alloc (by simp; omega) _).trans (hbw.mono (by simp; omega))).setCell (by simp; omega) _).setCell (by simp; omega) _

theorem ut_no {ts : List (Int × Int × Int)} (h : svB ts = false) : utN ts = 0 ∧ utD ts = 0 := by simp [utN, utD, h]
theorem ut_yes {ts : List (Int × Int × Int)} (h : svB ts = true) : utN ts = wrk (hyp ts) ts / Nat.gcd (hyp ts) (wrk (hyp ts) ts) ∧ utD ts = hyp ts / Nat.gcd (hyp ts) (wrk (hyp ts) ts) := by simp [utN, utD, h]
theorem wrk_take_le {ts : List (Int × Int × Int)} (h : svB ts = true) (H k : Nat) : wrk H (ts.take k) ≤ 5 * H := by
  obtain ⟨h1, h2⟩ := sv_all h
  refine Nat.le_trans (wrk_le H (ts.take k) (all_take h1 k)) (Nat.mul_le_mul_right _ ?_)
  rw [List.length_take]
  omega
theorem wrk_step {ts : List (Int × Int × Int)} {k H S c q : Nat} {t : Int × Int × Int} (hlt : k < ts.length) (ht : t = ts[k]) (hc : c = cst t) (hq : q = per t) (hS : S = wrk H (ts.take k)) :
    Value.int .i64 ((S : Int) + c * ((H : Int) / q)) = .int .i64 (wrk H (ts.take (k + 1)) : Nat) := by
  rw [take_succ hlt ht, wrk_snoc, ← hS, ← hc, ← hq]
  simp

end Go.Proofs.Ytnhbmegglpgkoaa
