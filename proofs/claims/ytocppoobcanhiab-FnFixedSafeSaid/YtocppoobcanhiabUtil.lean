/- Contracts of the functions that compute the utilization: impl.Fraction.reduced, impl.Fraction.plus, impl.Task.utilization, impl.Utilization, spec.Utilization, laws.eqFraction. Conditions: numbers of moderate size; the slice's cells hold tasks; its length is at most 2^40. -/
import Derived.Test.YtocppoobcanhiabHyper
namespace Go.Proofs.Ytocppoobcanhiab
open Go.RowKit

theorem quo_nat (x g : Nat) (hx : x ≤ 1099511627776) : wrap64 ((x : Int) / g) = ((x / g : Nat) : Int) := by
  have h1 : x / g ≤ x := Nat.div_le_self _ _
  rw [← Int.natCast_ediv]
  generalize x / g = z at *
  exact IntWalk.wrap64_in _ (by omega)
theorem below_drewN' {B : Nat} {a w : World} (h : Below B a w) (n : Nat) : Below B a (w.drewN n) := ⟨h.os, h.tape, h.output, h.size, h.block⟩
theorem mul_bd (a b : Nat) (ha : a ≤ 200000) (hb : b ≤ 200000) : (0 : Int) ≤ (a : Int) * b ∧ (a : Int) * b ≤ 40000000000 ∧ a * b ≤ 40000000000 := by
  have h : a * b ≤ 200000 * 200000 := Nat.mul_le_mul ha hb
  have e : (a : Int) * b = ((a * b : Nat) : Int) := by simp
  rw [e]
  omega

/-- impl.Fraction.reduced. -/
theorem reduced_any (x y : Nat) (w : World) (hx : x ≤ 1099511627776) (hy : y ≤ 1099511627776) (hy1 : 1 ≤ y) :
    Calls Try.prog 121 #[.agg #[.int .i64 x, .int .i64 y]] w fun e w' =>
      e = .returned (.agg #[.int .i64 (rn x y : Nat), .int .i64 (rd x y : Nat)]) ∧ Below w.heap.size w w' := by
  obtain ⟨g, hg⟩ : ∃ g, g = Nat.gcd x y := ⟨_, rfl⟩
  have hg1 : 1 ≤ g := by rw [hg]; exact Nat.gcd_pos_of_pos_right _ hy1
  have hg1' : (1 : Int) ≤ g := by omega
  have hne : ((g : Int) == 0) = false := by simp; omega
  have C := Lib.hid (fun W => gcd_any x y W hx hy)
  rw [← hg] at C
  have HG := Lib.hid hg
  clear hg
  go_enter Try.func121, Try.ntmps121
  go_wp2_with fail
  refine (C.out _).mono ?_
  rintro e w' ⟨rfl, n, rfl⟩
  go_wp2
  go_region
  go_wp2
  simp [bodyPost, results, Try.results121, go_sem]
  refine ⟨⟨?_, ?_⟩, ((below_drewN' (((below_box _ _).alloc (by simp) _)) _).setCell (by simp) _).setCell (by simp) _⟩
  · rw [quo_nat _ _ hx]; simp only [rn]; rw [HG.out]
  · rw [quo_nat _ _ hy]; simp only [rd]; rw [HG.out]

/-- impl.Task.utilization. -/
theorem utilization1_any (c p : Nat) (d : Int) (w : World) (hc : c ≤ 1099511627776) (hp : p ≤ 1099511627776) (hp1 : 1 ≤ p) :
    Calls Try.prog 96 #[.agg #[.int .i64 c, .int .i64 d, .int .i64 p]] w fun e w' =>
      e = .returned (.agg #[.int .i64 (rn c p : Nat), .int .i64 (rd c p : Nat)]) ∧ Below w.heap.size w w' := by
  have C := Lib.hid (fun W => reduced_any c p W hc hp hp1)
  go_enter Try.func96, Try.ntmps96
  go_wp2_with fail
  refine (C.out _).mono ?_
  rintro e w1 ⟨rfl, hb⟩
  have x0 : w1.cell? ⟨w.heap.size + 1, 0, none⟩ = some (.int .i64 0) := by rw [hb.cell (p := ⟨w.heap.size + 1, 0, none⟩) (by simp)]; go_simp
  have x1 : w1.cell? ⟨w.heap.size + 1, 1, none⟩ = some (.int .i64 0) := by rw [hb.cell (p := ⟨w.heap.size + 1, 1, none⟩) (by simp)]; go_simp
  have f0 : w1.frozen? ⟨w.heap.size + 1, 0, none⟩ = false := by rw [hb.frozen (p := ⟨w.heap.size + 1, 0, none⟩) (by simp)]; go_simp
  have f1 : w1.frozen? ⟨w.heap.size + 1, 1, none⟩ = false := by rw [hb.frozen (p := ⟨w.heap.size + 1, 1, none⟩) (by simp)]; go_simp
  go_wp2
  simp [bodyPost, results, Try.results96, go_sem, x0, x1]
  exact ((((below_box _ _).alloc (by simp) _).trans (hb.mono (by simp; omega))).setCell (by simp) _).setCell (by simp) _

/-- impl.Fraction.plus. -/
theorem plus_any (a b c d : Nat) (w : World) (ha : a ≤ 200000) (hb : b ≤ 200000) (hb1 : 1 ≤ b) (hc : c ≤ 200000) (hd : d ≤ 200000) (hd1 : 1 ≤ d) :
    Calls Try.prog 95 #[.agg #[.int .i64 a, .int .i64 b], .agg #[.int .i64 c, .int .i64 d]] w fun e w' =>
      e = .returned (.agg #[.int .i64 (rn (a * d + c * b) (b * d) : Nat), .int .i64 (rd (a * d + c * b) (b * d) : Nat)]) ∧ Below w.heap.size w w' := by
  have m1 := mul_bd a d ha hd
  have m2 := mul_bd c b hc hb
  have m3 := mul_bd b d hb hd
  have m4 : 1 ≤ b * d := Nat.mul_pos hb1 hd1
  have C := Lib.hid (fun W => reduced_any (a * d + c * b) (b * d) W (by have := m1.2.2; have := m2.2.2; omega) (by have := m3.2.2; omega) m4)
  simp only [Int.natCast_add, Int.natCast_mul] at C
  obtain ⟨p1, p2, _⟩ := m1
  obtain ⟨p3, p4, _⟩ := m2
  obtain ⟨p5, p6, _⟩ := m3
  clear m4
  go_enter Try.func95, Try.ntmps95
  go_wp2_with fail
  refine (C.out _).mono ?_
  rintro e w1 ⟨rfl, hbw⟩
  have x0 : w1.cell? ⟨w.heap.size + 1 + 1, 0, none⟩ = some (.int .i64 0) := by rw [hbw.cell (p := ⟨w.heap.size + 1 + 1, 0, none⟩) (by simp)]; go_simp
  have x1 : w1.cell? ⟨w.heap.size + 1 + 1, 1, none⟩ = some (.int .i64 0) := by rw [hbw.cell (p := ⟨w.heap.size + 1 + 1, 1, none⟩) (by simp)]; go_simp
  have f0 : w1.frozen? ⟨w.heap.size + 1 + 1, 0, none⟩ = false := by rw [hbw.frozen (p := ⟨w.heap.size + 1 + 1, 0, none⟩) (by simp)]; go_simp
  have f1 : w1.frozen? ⟨w.heap.size + 1 + 1, 1, none⟩ = false := by rw [hbw.frozen (p := ⟨w.heap.size + 1 + 1, 1, none⟩) (by simp)]; go_simp
  go_wp2
  simp [bodyPost, results, Try.results95, go_sem, x0, x1]
  exact (((((below_box _ _).alloc (by simp) _).alloc (by simp; omega) _).trans (hbw.mono (by simp; omega))).setCell (by simp; omega) _).setCell (by simp; omega) _

theorem ut_no {ts : List (Int × Int × Int)} (h : svB ts = false) : utN ts = 0 ∧ utD ts = 0 := by simp [utN, utD, h]
theorem ut_yes {ts : List (Int × Int × Int)} (h : svB ts = true) : utN ts = wrk (hyp ts) ts / Nat.gcd (hyp ts) (wrk (hyp ts) ts) ∧ utD ts = hyp ts / Nat.gcd (hyp ts) (wrk (hyp ts) ts) := by simp [utN, utD, h]
theorem wrk_take_le {ts : List (Int × Int × Int)} (h : svB ts = true) (H k : Nat) : wrk H (ts.take k) ≤ 5 * H := by
  obtain ⟨h1, h2⟩ := sv_all h
  refine Nat.le_trans (wrk_le H (ts.take k) (all_take h1 k)) (Nat.mul_le_mul_right _ ?_)
  rw [List.length_take]
  omega
theorem wrk_step {ts : List (Int × Int × Int)} {k H S c q : Nat} {t : Int × Int × Int} (hlt : k < ts.length) (ht : t = ts[k]) (hc : c = cst t) (hq : q = per t) (hS : S = wrk H (ts.take k)) :
    Value.int .i64 ((S : Int) + c * ((H : Int) / q)) = .int .i64 (wrk H (ts.take (k + 1)) : Nat) := by
  rw [take_succ hlt ht, wrk_snoc, ← hS, ← hc, ← hq]
  simp

/-- spec.Utilization. -/
theorem specUtilization_any (a : Option Addr) (cap : Nat) (ts : List (Int × Int × Int)) (w : World) (hr : Row w a ts) (hn : ts.length ≤ 1099511627776) :
    Calls Try.prog 92 #[.slice a ts.length cap] w fun e w' =>
      e = .returned (.agg #[.int .i64 (utN ts : Nat), .int .i64 (utD ts : Nat)]) ∧ Below w.heap.size w w' := by
  have HR := Lib.hid (hr.below (below_box w (.cells #[.int .i64 0, .int .i64 0] 64)))
  clear hr
  by_cases hv : svB ts = true
  · go_enter Try.func92, Try.ntmps92
    go_wp2_with fail
    refine (specSetValid_any _ _ _ _ HR.out hn).mono ?_
    rintro e w1 ⟨rfl, b1⟩
    have HV := Lib.hid (sv_all hv).1
    have HSV := Lib.hid hv
    go_wp2_with fail
    refine (l1Hyper_any _ _ _ _ (HR.out.below b1) hn HV.out).mono ?_
    rintro e w2 ⟨rfl, n2, hw2⟩
    have b2 : Below w.heap.size w w2 := by rw [hw2]; exact below_drewN' ((below_box _ _).trans (b1.mono (by simp))) _
    have hR2 := Lib.hid ((HR.out.below b1).below (w' := w2) (by rw [hw2]; exact below_drewN _ _))
    have x0 : w2.cell? ⟨w.heap.size, 0, none⟩ = some (.int .i64 0) := by rw [hw2]; show w1.cell? _ = _; rw [b1.cell (p := ⟨w.heap.size, 0, none⟩) (by simp)]; go_simp
    have x1 : w2.cell? ⟨w.heap.size, 1, none⟩ = some (.int .i64 0) := by rw [hw2]; show w1.cell? _ = _; rw [b1.cell (p := ⟨w.heap.size, 1, none⟩) (by simp)]; go_simp
    have f0 : w2.frozen? ⟨w.heap.size, 0, none⟩ = false := by rw [hw2]; show w1.frozen? _ = _; rw [b1.frozen (p := ⟨w.heap.size, 0, none⟩) (by simp)]; go_simp
    have f1 : w2.frozen? ⟨w.heap.size, 1, none⟩ = false := by rw [hw2]; show w1.frozen? _ = _; rw [b1.frozen (p := ⟨w.heap.size, 1, none⟩) (by simp)]; go_simp
    clear hw2 b1 HR hv
    obtain ⟨H, hH⟩ : ∃ H, H = hyp ts := ⟨_, rfl⟩
    have hbd := hyp_bd ts HV.out
    rw [← hH] at hbd ⊢
    have HH := Lib.hid hH
    clear hH
    obtain ⟨hb1, hb2⟩ := hbd
    go_wp2
    go_loopg [4, 5] ts.length (fun n h i wr => ∃ k : Nat, n + k = ts.length ∧ i = .int .i64 k ∧ h = .int .i64 (wrk H (ts.take k) : Nat) ∧ ∃ m, wr = w2.drewN m)
    case atStart => exact ⟨0, rfl, rfl, rfl, 0, rfl⟩
    case round =>
      obtain ⟨k, hk, rfl, rfl, m, hwr⟩ := hrel
      have HW := Lib.hid hwr
      have HK := Lib.hid hk
      have hk' : k ≤ ts.length := by omega
      clear hk
      obtain ⟨S, hS⟩ : ∃ S, S = wrk H (ts.take k) := ⟨_, rfl⟩
      have hsb := wrk_take_le HSV.out H k
      rw [← hS] at hsb ⊢
      have HS := Lib.hid hS
      clear hS
      by_cases hlt : k < ts.length
      · obtain ⟨b, off, rfl, hbs, hc0, _, hc2⟩ := hR2.out k _ (List.getElem?_eq_getElem hlt)
        obtain ⟨t, ht⟩ : ∃ t, t = ts[k] := ⟨_, rfl⟩
        rw [← ht] at hc0 hc2
        have htv := all_at HV.out hlt ht
        obtain ⟨q, hq⟩ : ∃ q, q = per t := ⟨_, rfl⟩
        obtain ⟨c, hc⟩ : ∃ c, c = cst t := ⟨_, rfl⟩
        have hp := per_dvd htv
        have hcs := cst_le htv
        rw [← hq] at hp hcs
        rw [← hc] at hcs
        obtain ⟨_, hp1, hp2, hp3⟩ := hp
        obtain ⟨hcs1, hcs2, hcs3⟩ := hcs
        rw [← hp3] at hc2
        rw [← hcs3] at hc0
        have g0 : wr.cell? ⟨b, off + k * 3, none⟩ = some (.int .i64 c) := by rw [hwr]; exact hc0
        have g2 : wr.cell? ⟨b, off + k * 3 + 2, none⟩ = some (.int .i64 q) := by rw [hwr]; exact hc2
        have HT := Lib.hid ht
        have HQ := Lib.hid hq
        have HC := Lib.hid hc
        clear ht hq hc hp3 hcs3 hc0 hc2 htv hwr x0 x1 f0 f1
        have hne : ((q : Int) == 0) = false := by simp; omega
        have hq0 : (0 : Int) ≤ (H : Int) / q := Int.ediv_nonneg (by omega) (by omega)
        have hq1 : (H : Int) / q ≤ 27720 := Int.le_trans (Int.ediv_le_self _ (by omega)) (by omega)
        have hm0 : (0 : Int) ≤ (c : Int) * ((H : Int) / q) := Int.mul_nonneg (by omega) hq0
        have hm1 : (c : Int) * ((H : Int) / q) ≤ 332640 := Int.le_trans (Int.mul_le_mul (show (c : Int) ≤ 12 by omega) hq1 hq0 (by omega)) (by omega)
        have hk0 : (0 : Int) ≤ k := by omega
        have hk1 : (k : Int) < ts.length := by omega
        go_wp2
        go_quiet (fail)
        go_wp2
        go_roundg (gk - 1)
        case measure => have := HK.out; omega
        case rel => exact ⟨k + 1, by have := HK.out; omega, by go_num, wrk_step hlt HT.out HC.out HQ.out HS.out, m + nq, by rw [HW.out, World.drewN_drewN]⟩
      · obtain rfl : k = ts.length := by omega
        have y0 : wr.cell? ⟨w.heap.size, 0, none⟩ = some (.int .i64 0) := by rw [hwr]; exact x0
        have y1 : wr.cell? ⟨w.heap.size, 1, none⟩ = some (.int .i64 0) := by rw [hwr]; exact x1
        have z0 : wr.frozen? ⟨w.heap.size, 0, none⟩ = false := by rw [hwr]; exact f0
        have z1 : wr.frozen? ⟨w.heap.size, 1, none⟩ = false := by rw [hwr]; exact f1
        clear hwr x0 x1 f0 f1
        obtain ⟨g, hg⟩ : ∃ g, g = Nat.gcd H S := ⟨_, rfl⟩
        have hg1 : 1 ≤ g := by rw [hg]; exact Nat.gcd_pos_of_pos_left _ hb1
        have C := Lib.hid (fun W => l1Gcd_any H S W (by omega) (by omega))
        rw [← hg] at C
        have HG := Lib.hid hg
        clear hg
        have hg1' : (1 : Int) ≤ g := by omega
        have hne : ((g : Int) == 0) = false := by simp; omega
        go_wp2_with fail
        refine (C.out _).mono ?_
        rintro e w' ⟨rfl, rfl⟩
        go_wp2
        go_region
        go_wp2
        simp [bodyPost, results, Try.results92, go_sem, y0, y1]
        have hbw : Below w.heap.size w wr := by rw [HW.out]; exact below_drewN' b2 _
        refine ⟨⟨?_, ?_⟩, ((hbw.setCell (Nat.le_refl _) _).setCell (Nat.le_refl _) _).drew⟩
        · rw [quo_nat _ _ (by omega), (ut_yes HSV.out).1, HG.out, HS.out, HH.out, List.take_length]
        · rw [quo_nat _ _ (by omega), (ut_yes HSV.out).2, HG.out, HS.out, HH.out, List.take_length]
  · have hv' : svB ts = false := by simpa using hv
    clear hv
    go_enter Try.func92, Try.ntmps92
    go_wp2_with fail
    refine (specSetValid_any _ _ _ _ HR.out hn).mono ?_
    rintro e w1 ⟨rfl, b1⟩
    have x0 : w1.cell? ⟨w.heap.size, 0, none⟩ = some (.int .i64 0) := by rw [b1.cell (p := ⟨w.heap.size, 0, none⟩) (by simp)]; go_simp
    have x1 : w1.cell? ⟨w.heap.size, 1, none⟩ = some (.int .i64 0) := by rw [b1.cell (p := ⟨w.heap.size, 1, none⟩) (by simp)]; go_simp
    have f0 : w1.frozen? ⟨w.heap.size, 0, none⟩ = false := by rw [b1.frozen (p := ⟨w.heap.size, 0, none⟩) (by simp)]; go_simp
    have f1 : w1.frozen? ⟨w.heap.size, 1, none⟩ = false := by rw [b1.frozen (p := ⟨w.heap.size, 1, none⟩) (by simp)]; go_simp
    go_wp2
    simp [bodyPost, results, Try.results92, go_sem, x0, x1]
    refine ⟨⟨?_, ?_⟩, (((below_box _ _).trans (b1.mono (by simp))).setCell (Nat.le_refl _) _).setCell (Nat.le_refl _) _⟩
    · rw [(ut_no hv').1]; rfl
    · rw [(ut_no hv').2]; rfl
end Go.Proofs.Ytocppoobcanhiab
