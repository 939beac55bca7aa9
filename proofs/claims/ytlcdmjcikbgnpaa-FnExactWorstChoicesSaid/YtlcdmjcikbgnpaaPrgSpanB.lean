/- Contracts of the program's branchSpan and loopSpan. Conditions: the slice holds what is said; the node's children are in it; no span is greater than 2^50. -/
import Derived.Test.YtlcdmjcikbgnpaaPrgSpan
import Derived.BigRegion
namespace Go.Proofs.Ytlcdmjcikbgnpaa
open Go.RowKit Go.Deep

set_option maxRecDepth 100000 in
set_option maxHeartbeats 2000000 in
/-- (impl.Node).branchSpan. -/
theorem branchSpan_any (q m : Int) (c x y : Nat) (a : Option Addr) (cap : Nat) (ss : List T3) (w : World) (hr : Row w a ss) (hx : x < ss.length) (hy : y < ss.length) (X1 X2 X3 Y1 Y2 Y3 : Nat) (ex : tk ss x = ((X1 : Int), (X2 : Int), (X3 : Int))) (ey : tk ss y = ((Y1 : Int), (Y2 : Int), (Y3 : Int))) (b1 : X1 + Y1 + c ≤ 1125899906842624) (b2 : X2 + Y2 + c ≤ 1125899906842624) :
    Calls Try.prog 65 #[nv5 q (c : Int) (x : Int) (y : Int) m, .slice a ss.length cap] w fun e w' => e = .returned (.agg #[.int .i64 ((c + max X1 Y1 : Nat) : Int), .int .i64 ((c + min X2 Y2 : Nat) : Int), .int .i64 ((if X1 < Y1 then 1 else 0 : Nat) : Int)]) ∧ Below w.heap.size w w' := by
  obtain ⟨bb, off, rfl, hb, x0, x1, x2⟩ := hr.at hx
  obtain ⟨bb', off', e', -, y0, y1, y2⟩ := hr.at hy
  simp only [Option.some.injEq, Addr.mk.injEq, and_true] at e'
  obtain ⟨rfl, rfl⟩ := e'
  rw [ex] at x0 x1 x2
  rw [ey] at y0 y1 y2
  have hx0 : (0 : Int) ≤ x := by omega
  have hy0 : (0 : Int) ≤ y := by omega
  have hx1 : (x : Int) < ss.length := by omega
  have hy1 : (y : Int) < ss.length := by omega
  clear hr ex ey
  go_enter Try.func65, Try.ntmps65
  go_wp2
  obtain ⟨W0, hW0⟩ : ∃ W0, W0 = (w.alloc (.cells #[.int .i64 q, .int .i64 (c : Int), .int .i64 x, .int .i64 y, .int .i64 m] 28)).alloc (.cells #[.int .i64 0, .int .i64 0, .int .i64 0] 64) := ⟨_, rfl⟩
  have hz : W0.heap.size = w.heap.size + 2 := by rw [hW0]; simp
  have HZ := Lib.hid hz
  have HB := Lib.hid (show Below w.heap.size w W0 by rw [hW0]; exact (below_box _ _).trans ((below_box _ _).mono (by simp)))
  have n1 : W0.cell? ⟨w.heap.size, 1, none⟩ = some (.int .i64 (c : Int)) := by rw [hW0]; go_simp
  have n2 : W0.cell? ⟨w.heap.size, 2, none⟩ = some (.int .i64 x) := by rw [hW0]; go_simp
  have n3 : W0.cell? ⟨w.heap.size, 3, none⟩ = some (.int .i64 y) := by rw [hW0]; go_simp
  have r0 : W0.cell? ⟨w.heap.size + 1, 0, none⟩ = some (.int .i64 0) := by rw [hW0]; go_simp
  have r1 : W0.cell? ⟨w.heap.size + 1, 1, none⟩ = some (.int .i64 0) := by rw [hW0]; go_simp
  have r2 : W0.cell? ⟨w.heap.size + 1, 2, none⟩ = some (.int .i64 0) := by rw [hW0]; go_simp
  have f0 : W0.frozen? ⟨w.heap.size + 1, 0, none⟩ = false := by rw [hW0]; go_simp
  have f1 : W0.frozen? ⟨w.heap.size + 1, 1, none⟩ = false := by rw [hW0]; go_simp
  have f2 : W0.frozen? ⟨w.heap.size + 1, 2, none⟩ = false := by rw [hW0]; go_simp
  replace x0 := (HB.out.cell (p := ⟨bb, off + x * 3, none⟩) hb).trans x0
  replace x1 := (HB.out.cell (p := ⟨bb, off + x * 3 + 1, none⟩) hb).trans x1
  replace x2 := (HB.out.cell (p := ⟨bb, off + x * 3 + 2, none⟩) hb).trans x2
  replace y0 := (HB.out.cell (p := ⟨bb, off + y * 3, none⟩) hb).trans y0
  replace y1 := (HB.out.cell (p := ⟨bb, off + y * 3 + 1, none⟩) hb).trans y1
  replace y2 := (HB.out.cell (p := ⟨bb, off + y * 3 + 2, none⟩) hb).trans y2
  rw [← hW0]
  have hb0 : bb < W0.heap.size := by omega
  have hs0 : w.heap.size < W0.heap.size := by omega
  have hs1 : w.heap.size + 1 < W0.heap.size := by omega
  clear hW0 hz hb
  go_region
  all_goals
    have hz := HZ.out
    by_cases h1 : X1 < Y1
    · by_cases h2 : Y2 < X2
      · go_wp2
        refine bodyPost_ret (v := .agg #[.int .i64 ((c : Int) + Y1), .int .i64 ((c : Int) + Y2), .int .i64 1]) (by simp [results, Try.results65]; go_simp) rfl ⟨by rw [Nat.max_eq_right (by omega), Nat.min_eq_right (by omega)], ?_⟩
        repeat (first | exact HB.out | refine Below.drew ?_ | refine Below.setCell ?_ (by first | (dsimp only; omega) | (simp; omega)) _ | refine Below.alloc ?_ (by simp; omega) _)
      · go_wp2
        refine bodyPost_ret (v := .agg #[.int .i64 ((c : Int) + Y1), .int .i64 ((c : Int) + X2), .int .i64 1]) (by simp [results, Try.results65]; go_simp) rfl ⟨by rw [Nat.max_eq_right (by omega), Nat.min_eq_left (by omega)], ?_⟩
        repeat (first | exact HB.out | refine Below.drew ?_ | refine Below.setCell ?_ (by first | (dsimp only; omega) | (simp; omega)) _ | refine Below.alloc ?_ (by simp; omega) _)
    · by_cases h2 : Y2 < X2
      · go_wp2
        refine bodyPost_ret (v := .agg #[.int .i64 ((c : Int) + X1), .int .i64 ((c : Int) + Y2), .int .i64 0]) (by simp [results, Try.results65]; go_simp) rfl ⟨by rw [Nat.max_eq_left (by omega), Nat.min_eq_right (by omega)], ?_⟩
        repeat (first | exact HB.out | refine Below.drew ?_ | refine Below.setCell ?_ (by first | (dsimp only; omega) | (simp; omega)) _ | refine Below.alloc ?_ (by simp; omega) _)
      · go_wp2
        refine bodyPost_ret (v := .agg #[.int .i64 ((c : Int) + X1), .int .i64 ((c : Int) + X2), .int .i64 0]) (by simp [results, Try.results65]; go_simp) rfl ⟨by rw [Nat.max_eq_left (by omega), Nat.min_eq_left (by omega)], ?_⟩
        repeat (first | exact HB.out | refine Below.drew ?_ | refine Below.setCell ?_ (by first | (dsimp only; omega) | (simp; omega)) _ | refine Below.alloc ?_ (by simp; omega) _)

end Go.Proofs.Ytlcdmjcikbgnpaa
