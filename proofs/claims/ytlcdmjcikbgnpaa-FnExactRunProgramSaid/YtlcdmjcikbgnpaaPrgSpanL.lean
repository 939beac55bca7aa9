/- Contract of the program's loopSpan. Conditions: the slice holds what is said; the node's child is in it; no span is greater than 2^50. -/
import Derived.Test.YtlcdmjcikbgnpaaPrgSpan
import Derived.BigRegion
namespace Go.Proofs.Ytlcdmjcikbgnpaa
open Go.RowKit Go.Deep

set_option maxRecDepth 100000 in
set_option maxHeartbeats 2000000 in
/-- (impl.Node).loopSpan. -/
theorem loopSpan_any (q b : Int) (c x m : Nat) (a : Option Addr) (cap : Nat) (ss : List T3) (w : World) (hr : Row w a ss) (hx : x < ss.length) (X1 X2 X3 : Nat) (ex : tk ss x = ((X1 : Int), (X2 : Int), (X3 : Int))) (hm : m ≤ 4) (b1 : X1 + c ≤ 140737488355328) :
    Calls Try.prog 68 #[nv5 q (c : Int) (x : Int) b (m : Int), .slice a ss.length cap] w fun e w' => e = .returned (.agg #[.int .i64 ((c + m * (c + X1) : Nat) : Int), .int .i64 (c : Int), .int .i64 (m : Int)]) ∧ Below w.heap.size w w' := by
  obtain ⟨bb, off, rfl, hb, x0, x1, x2⟩ := hr.at hx
  rw [ex] at x0 x1 x2
  have hx0 : (0 : Int) ≤ x := by omega
  have hx1 : (x : Int) < ss.length := by omega
  obtain ⟨S, hS⟩ : ∃ S : Nat, S = c + X1 := ⟨_, rfl⟩
  obtain ⟨M, hM⟩ : ∃ M : Nat, M = m * S := ⟨_, rfl⟩
  have hMb : M ≤ 4 * 140737488355328 := by rw [hM]; exact Nat.mul_le_mul hm (by omega)
  have w1 : IntKind.i64.wrap ((c : Int) + X1) = (S : Int) := by rw [IntWalk.i64_in _ (by omega)]; omega
  have w2 : IntKind.i64.wrap ((m : Int) * S) = (M : Int) := by rw [show (m : Int) * S = M by rw [hM, Int.natCast_mul]]; exact IntWalk.i64_in _ (by omega)
  have w3 : IntKind.i64.wrap ((c : Int) + M) = (c : Int) + M := IntWalk.i64_in _ (by omega)
  have HM := Lib.hid hM
  have HS := Lib.hid hS
  clear hr ex hM hS
  go_enter Try.func68, Try.ntmps68
  go_wp2
  obtain ⟨W0, hW0⟩ : ∃ W0, W0 = (w.alloc (.cells #[.int .i64 q, .int .i64 (c : Int), .int .i64 x, .int .i64 b, .int .i64 (m : Int)] 28)).alloc (.cells #[.int .i64 0, .int .i64 0, .int .i64 0] 64) := ⟨_, rfl⟩
  have hz : W0.heap.size = w.heap.size + 2 := by rw [hW0]; simp
  have HZ := Lib.hid hz
  have HB := Lib.hid (show Below w.heap.size w W0 by rw [hW0]; exact (below_box _ _).trans ((below_box _ _).mono (by simp)))
  have n1 : W0.cell? ⟨w.heap.size, 1, none⟩ = some (.int .i64 (c : Int)) := by rw [hW0]; go_simp
  have n2 : W0.cell? ⟨w.heap.size, 2, none⟩ = some (.int .i64 x) := by rw [hW0]; go_simp
  have n4 : W0.cell? ⟨w.heap.size, 4, none⟩ = some (.int .i64 (m : Int)) := by rw [hW0]; go_simp
  have r0 : W0.cell? ⟨w.heap.size + 1, 0, none⟩ = some (.int .i64 0) := by rw [hW0]; go_simp
  have r1 : W0.cell? ⟨w.heap.size + 1, 1, none⟩ = some (.int .i64 0) := by rw [hW0]; go_simp
  have r2 : W0.cell? ⟨w.heap.size + 1, 2, none⟩ = some (.int .i64 0) := by rw [hW0]; go_simp
  have f0 : W0.frozen? ⟨w.heap.size + 1, 0, none⟩ = false := by rw [hW0]; go_simp
  have f1 : W0.frozen? ⟨w.heap.size + 1, 1, none⟩ = false := by rw [hW0]; go_simp
  have f2 : W0.frozen? ⟨w.heap.size + 1, 2, none⟩ = false := by rw [hW0]; go_simp
  replace x0 := (HB.out.cell (p := ⟨bb, off + x * 3, none⟩) hb).trans x0
  replace x1 := (HB.out.cell (p := ⟨bb, off + x * 3 + 1, none⟩) hb).trans x1
  replace x2 := (HB.out.cell (p := ⟨bb, off + x * 3 + 2, none⟩) hb).trans x2
  rw [← hW0]
  have hb0 : bb < W0.heap.size := by omega
  have hs0 : w.heap.size < W0.heap.size := by omega
  have hs1 : w.heap.size + 1 < W0.heap.size := by omega
  clear hW0 hz hb b1 hMb
  go_region
  go_wp2
  have hz := HZ.out
  refine bodyPost_ret (v := .agg #[.int .i64 ((c : Int) + M), .int .i64 (c : Int), .int .i64 (m : Int)]) (by simp [results, Try.results68]; go_simp) rfl ⟨by rw [← HS.out, ← HM.out, Int.natCast_add], ?_⟩
  repeat (first | exact HB.out | refine Below.drew ?_ | refine Below.setCell ?_ (by dsimp only; omega) _ | refine Below.alloc ?_ (by simp; omega) _)

end Go.Proofs.Ytlcdmjcikbgnpaa
