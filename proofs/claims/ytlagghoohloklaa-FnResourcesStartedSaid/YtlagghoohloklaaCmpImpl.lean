/- Contracts of impl.compareReleases and of the comparison that impl.earlierDeadline hands out. Conditions: the cells hold what is said. -/
import Derived.Test.YtlagghoohloklaaRunSpec
import Derived.Test.YtlagghoohloklaaCmpBase
import Derived.StillTailTactics
namespace Go.Proofs.Ytlagghoohloklaa
open Go.RowKit Go.Deep

/-- Job x comes before job y. -/
def befB (js : List J4) (x y : Nat) : Bool := decide ((jb js x).2.2.1 < (jb js y).2.2.1 ∨ ((jb js x).2.2.1 = (jb js y).2.2.1 ∧ x < y))

set_option maxRecDepth 100000 in
/-- The comparison of impl.earlierDeadline: job x comes before job y. -/
theorem before_any (cb : Nat) (ja : Option Addr) (jcap : Nat) (js : List J4) (x y : Nat) (w : World) (hc : w.cell? ⟨cb, 0, none⟩ = some (.slice ja js.length jcap)) (hj : RowJ w ja js) (hx : x < js.length) (hy : y < js.length) :
    Calls Try.prog 108 #[.int .i64 (x : Int), .int .i64 (y : Int), .pointer (some ⟨cb, 0, none⟩)] w fun e w' =>
      e = .returned (.bool (befB js x y)) ∧ Below w.heap.size w w' := by
  obtain ⟨bj, oj, rfl, hbj, _, _, x2, _⟩ := hj x hx
  obtain ⟨bj', oj', e, _, _, _, y2, _⟩ := hj y hy
  simp only [Option.some.injEq, Addr.mk.injEq, and_true] at e
  obtain ⟨rfl, rfl⟩ := e
  clear hj
  have hx0 : (0 : Int) ≤ x := by omega
  have hx1 : (x : Int) < js.length := by omega
  have hy0 : (0 : Int) ≤ y := by omega
  have hy1 : (y : Int) < js.length := by omega
  go_enter Try.func108, Try.ntmps108
  go_wp2
  refine wp_region_still_tail 14 (by kernel_rfl) (by kernel_rfl) ?_
  simp only [List.take_succ_cons, List.take_zero, List.drop_succ_cons, List.drop_zero]
  change wpStill _ _ w.drew (fun a' => wpList _ _ _ _ a' w.drew) _ _
  iterate 10 still_step
  still_call (compare_any _ _ _)
  iterate 2 still_step
  still_call (compare_any _ _ _)
  refine wpStill_nil ?_
  generalize hW : w.drew = W
  have HW := Lib.hid hW
  clear hW
  obtain ⟨c1, hc1⟩ : ∃ c, c = cmpI (jb js x).2.2.1 (jb js y).2.2.1 := ⟨_, rfl⟩
  obtain ⟨c2, hc2⟩ : ∃ c, c = cmpI (x : Int) y := ⟨_, rfl⟩
  rw [← hc1, ← hc2]
  have HC := Lib.hid (And.intro hc1 hc2)
  clear hc1 hc2
  go_wp2_with fail
  refine (or_new _ _ _).mono ?_
  rintro e w' ⟨rfl, rfl⟩
  obtain ⟨c3, hc3⟩ : ∃ c, c = orI c1 c2 := ⟨_, rfl⟩
  rw [← hc3]
  have HC3 := Lib.hid hc3
  clear hc3
  go_wp2
  go_ret
  refine ⟨ret_bool ?_, ?_⟩
  · rw [HC3.out, HC.out.1, HC.out.2]
    exact decide_eq_decide.2 ((orI_lt _ _ _ _).trans (by omega))
  · rw [← HW.out]
    exact (Below.refl _ _).drew.alloc (Nat.le_refl _) _

/-- impl.earlierDeadline: the comparison by deadlines of these jobs. -/
theorem earlierDeadline_any (ja : Option Addr) (jcap : Nat) (js : List J4) (w : World) :
    Calls Try.prog 63 #[.slice ja js.length jcap] w fun e w' =>
      e = .returned (.func (.func 108) #[] #[.pointer (some ⟨w.heap.size, 0, none⟩)]) ∧ w'.cell? ⟨w.heap.size, 0, none⟩ = some (.slice ja js.length jcap) ∧ w.heap.size < w'.heap.size ∧ Below w.heap.size w w' := by
  go_enter Try.func63, Try.ntmps63
  go_wp2
  go_ret
  exact ⟨rfl, by simp [go_sem], by simp, below_box _ _⟩

set_option maxRecDepth 100000 in
/-- impl.compareReleases. -/
theorem compareReleases_any (i r d e i' r' d' e' : Int) (w : World) :
    Calls Try.prog 88 #[.agg #[.int .i64 i, .int .i64 r, .int .i64 d, .int .i64 e], .agg #[.int .i64 i', .int .i64 r', .int .i64 d', .int .i64 e']] w fun en w' =>
      en = .returned (.int .i64 (orI (cmpI r r') (cmpI i i'))) ∧ Below w.heap.size w w' := by
  go_enter Try.func88, Try.ntmps88
  go_wp2
  generalize hW0 : (w.alloc (.cells #[.int .i64 i, .int .i64 r, .int .i64 d, .int .i64 e] 41)).alloc (.cells #[.int .i64 i', .int .i64 r', .int .i64 d', .int .i64 e'] 41) = W0
  have a0 : W0.cell? ⟨w.heap.size, 0, none⟩ = some (.int .i64 i) := by rw [← hW0]; simp [go_sem]
  have a1 : W0.cell? ⟨w.heap.size, 1, none⟩ = some (.int .i64 r) := by rw [← hW0]; simp [go_sem]
  have b0 : W0.cell? ⟨w.heap.size + 1, 0, none⟩ = some (.int .i64 i') := by rw [← hW0]; simp [go_sem]
  have b1 : W0.cell? ⟨w.heap.size + 1, 1, none⟩ = some (.int .i64 r') := by rw [← hW0]; simp [go_sem]
  have BB := Lib.hid (show Below w.heap.size w W0 by rw [← hW0]; exact (below_box _ _).alloc (by simp) _)
  clear hW0
  refine wp_region_still_tail 10 (by kernel_rfl) (by kernel_rfl) ?_
  simp only [List.take_succ_cons, List.take_zero, List.drop_succ_cons, List.drop_zero]
  change wpStill _ _ W0.drew (fun a' => wpList _ _ _ _ a' W0.drew) _ _
  iterate 4 still_step
  still_call (compare_any _ _ _)
  iterate 4 still_step
  still_call (compare_any _ _ _)
  refine wpStill_nil ?_
  generalize hW : W0.drew = W
  have HW := Lib.hid hW
  clear hW
  go_wp2_with fail
  refine (or_new _ _ _).mono ?_
  rintro e w' ⟨rfl, rfl⟩
  go_wp2
  go_ret
  refine ⟨rfl, ?_⟩
  rw [← HW.out]
  exact BB.out.drew.alloc BB.out.size _

end Go.Proofs.Ytlagghoohloklaa
