/- Contracts of cmp.Compare[int], cmp.Or[int] (of two), impl.compareReleases and of the comparison that impl.RunEdf hands on. Conditions: the cells hold what is said. -/
import Derived.Test.YtpnfbgbbmpacfaaRunSpec
import Derived.StillTailTactics
namespace Go.Proofs.Ytpnfbgbbmpacfaa
open Go.RowKit Go.Deep

/-- -1, 0 or 1. -/
def cmpI (x y : Int) : Int := if x < y then -1 else if y < x then 1 else 0
/-- The first that is not 0. -/
def orI (x y : Int) : Int := if x = 0 then y else x
theorem cmpI_bd (x y : Int) : -1 ≤ cmpI x y ∧ cmpI x y ≤ 1 := by
  unfold cmpI
  split
  · omega
  · split <;> omega
theorem orI_lt (x y x' y' : Int) : orI (cmpI x y) (cmpI x' y') < 0 ↔ x < y ∨ (x = y ∧ x' < y') := by
  unfold orI cmpI
  by_cases h1 : x < y
  · simp [h1]
  · by_cases h2 : y < x
    · simp [h1, h2]; omega
    · by_cases h3 : x' < y'
      · simp [h1, h2, h3]; omega
      · by_cases h4 : y' < x'
        · simp [h1, h2, h3, h4]
        · simp [h1, h2, h3, h4]

/-- cmp.Compare[int]. -/
theorem compare_any (x y : Int) (w : World) :
    Calls Try.prog 70 #[.int .i64 x, .int .i64 y] w fun e w' => e = .returned (.int .i64 (cmpI x y)) ∧ w' = w := by
  by_cases h1 : x < y
  · go_enter Try.func70, Try.ntmps70
    go_wp2
    go_ret
    exact ⟨by simp [cmpI, h1], rfl⟩
  · by_cases h2 : y < x
    · go_enter Try.func70, Try.ntmps70
      go_wp2
      go_ret
      exact ⟨by simp [cmpI, h1, h2], rfl⟩
    · go_enter Try.func70, Try.ntmps70
      go_wp2
      go_ret
      exact ⟨ret_int (show (0 : Int) = _ by rw [cmpI, if_neg (by omega), if_neg (by omega)]), rfl⟩

/-- cmp.Or[int] of two. -/
theorem or_any (b : Nat) (x y : Int) (w : World) (h0 : w.cell? ⟨b, 0, none⟩ = some (.int .i64 x)) (h1 : w.cell? ⟨b, 1, none⟩ = some (.int .i64 y)) :
    Calls Try.prog 69 #[.slice (some ⟨b, 0, none⟩) 2 2] w fun e w' => e = .returned (.int .i64 (orI x y)) ∧ w' = w := by
  go_enter Try.func69, Try.ntmps69
  go_wp2
  go_loop [8] (fun i => ∃ k : Nat, i = .int .i64 k ∧ k ≤ 2 ∧ (1 ≤ k → x = 0) ∧ (2 ≤ k → y = 0)) (fun i => 2 - (intOf i).toNat)
  case atStart => exact ⟨0, rfl, by omega, by omega, by omega⟩
  case round =>
    obtain ⟨k, rfl, hk, hx, hy⟩ := hrel
    by_cases hk0 : k = 0
    · subst hk0
      clear hx hy
      by_cases hz : x = 0
      · subst hz
        go_wp2
        go_round
        case rel => exact ⟨1, rfl, by omega, by simp, by omega⟩
        case measure => simp [intOf]
      · have hz' : (x != 0) = true := by simpa using hz
        have hz'' : (x == 0) = false := by simpa using hz
        go_wp2
        go_ret
        exact ⟨by simp [orI, hz], rfl⟩
    · by_cases hk1 : k = 1
      · subst hk1
        obtain rfl := hx (Nat.le_refl _)
        clear hx hy
        by_cases hz : y = 0
        · subst hz
          go_wp2
          go_round
          case rel => exact ⟨2, rfl, by omega, by simp, by simp⟩
          case measure => simp [intOf]
        · have hz' : (y != 0) = true := by simpa using hz
          have hz'' : (y == 0) = false := by simpa using hz
          go_wp2
          go_ret
          exact ⟨by simp [orI], rfl⟩
      · obtain rfl : k = 2 := by omega
        obtain rfl := hx (by omega)
        obtain rfl := hy (by omega)
        clear hx hy
        go_wp2
        go_ret
        exact ⟨by simp [orI], rfl⟩

theorem or_new (x y : Int) (w : World) :
    Calls Try.prog 69 #[.slice (some ⟨w.heap.size, 0, none⟩) 2 2] (w.alloc (.cells #[.int .i64 x, .int .i64 y] 3)) fun e w' => e = .returned (.int .i64 (orI x y)) ∧ w.alloc (.cells #[.int .i64 x, .int .i64 y] 3) = w' :=
  (or_any _ x y _ (by simp [go_sem]) (by simp [go_sem])).mono fun _ _ ⟨a, b⟩ => ⟨a, b.symm⟩
/-- Job x comes before job y. -/
def befB (js : List J4) (x y : Nat) : Bool := decide ((jb js x).2.2.1 < (jb js y).2.2.1 ∨ ((jb js x).2.2.1 = (jb js y).2.2.1 ∧ x < y))

set_option maxRecDepth 100000 in
/-- The comparison of impl.RunEdf: job x comes before job y. -/
theorem before_any (cb : Nat) (ja : Option Addr) (jcap : Nat) (js : List J4) (x y : Nat) (w : World) (hc : w.cell? ⟨cb, 0, none⟩ = some (.slice ja js.length jcap)) (hj : RowJ w ja js) (hx : x < js.length) (hy : y < js.length) :
    Calls Try.prog 68 #[.int .i64 (x : Int), .int .i64 (y : Int), .pointer (some ⟨cb, 0, none⟩)] w fun e w' =>
      e = .returned (.bool (befB js x y)) ∧ Below w.heap.size w w' := by
  obtain ⟨bj, oj, rfl, hbj, _, _, x2, _⟩ := hj x hx
  obtain ⟨bj', oj', e, _, _, _, y2, _⟩ := hj y hy
  simp only [Option.some.injEq, Addr.mk.injEq, and_true] at e
  obtain ⟨rfl, rfl⟩ := e
  clear hj
  have hx0 : (0 : Int) ≤ x := by omega
  have hx1 : (x : Int) < js.length := by omega
  have hy0 : (0 : Int) ≤ y := by omega
  have hy1 : (y : Int) < js.length := by omega
  go_enter Try.func68, Try.ntmps68
  go_wp2
  refine wp_region_still_tail 14 (by kernel_rfl) (by kernel_rfl) ?_
  simp only [List.take_succ_cons, List.take_zero, List.drop_succ_cons, List.drop_zero]
  change wpStill _ _ w.drew (fun a' => wpList _ _ _ _ a' w.drew) _ _
  iterate 10 still_step
  still_call (compare_any _ _ _)
  iterate 2 still_step
  still_call (compare_any _ _ _)
  refine wpStill_nil ?_
  generalize hW : w.drew = W
  have HW := Lib.hid hW
  clear hW
  obtain ⟨c1, hc1⟩ : ∃ c, c = cmpI (jb js x).2.2.1 (jb js y).2.2.1 := ⟨_, rfl⟩
  obtain ⟨c2, hc2⟩ : ∃ c, c = cmpI (x : Int) y := ⟨_, rfl⟩
  rw [← hc1, ← hc2]
  have HC := Lib.hid (And.intro hc1 hc2)
  clear hc1 hc2
  go_wp2_with fail
  refine (or_new _ _ _).mono ?_
  rintro e w' ⟨rfl, rfl⟩
  obtain ⟨c3, hc3⟩ : ∃ c, c = orI c1 c2 := ⟨_, rfl⟩
  rw [← hc3]
  have HC3 := Lib.hid hc3
  clear hc3
  go_wp2
  go_ret
  refine ⟨ret_bool ?_, ?_⟩
  · rw [HC3.out, HC.out.1, HC.out.2]
    exact decide_eq_decide.2 ((orI_lt _ _ _ _).trans (by omega))
  · rw [← HW.out]
    exact (Below.refl _ _).drew.alloc (Nat.le_refl _) _

set_option maxRecDepth 100000 in
/-- impl.compareReleases. -/
theorem compareReleases_any (i r d e i' r' d' e' : Int) (w : World) :
    Calls Try.prog 58 #[.agg #[.int .i64 i, .int .i64 r, .int .i64 d, .int .i64 e], .agg #[.int .i64 i', .int .i64 r', .int .i64 d', .int .i64 e']] w fun en w' =>
      en = .returned (.int .i64 (orI (cmpI r r') (cmpI i i'))) ∧ Below w.heap.size w w' := by
  go_enter Try.func58, Try.ntmps58
  go_wp2
  generalize hW0 : (w.alloc (.cells #[.int .i64 i, .int .i64 r, .int .i64 d, .int .i64 e] 30)).alloc (.cells #[.int .i64 i', .int .i64 r', .int .i64 d', .int .i64 e'] 30) = W0
  have a0 : W0.cell? ⟨w.heap.size, 0, none⟩ = some (.int .i64 i) := by rw [← hW0]; simp [go_sem]
  have a1 : W0.cell? ⟨w.heap.size, 1, none⟩ = some (.int .i64 r) := by rw [← hW0]; simp [go_sem]
  have b0 : W0.cell? ⟨w.heap.size + 1, 0, none⟩ = some (.int .i64 i') := by rw [← hW0]; simp [go_sem]
  have b1 : W0.cell? ⟨w.heap.size + 1, 1, none⟩ = some (.int .i64 r') := by rw [← hW0]; simp [go_sem]
  have BB := Lib.hid (show Below w.heap.size w W0 by rw [← hW0]; exact (below_box _ _).alloc (by simp) _)
  clear hW0
  refine wp_region_still_tail 10 (by kernel_rfl) (by kernel_rfl) ?_
  simp only [List.take_succ_cons, List.take_zero, List.drop_succ_cons, List.drop_zero]
  change wpStill _ _ W0.drew (fun a' => wpList _ _ _ _ a' W0.drew) _ _
  iterate 4 still_step
  still_call (compare_any _ _ _)
  iterate 4 still_step
  still_call (compare_any _ _ _)
  refine wpStill_nil ?_
  generalize hW : W0.drew = W
  have HW := Lib.hid hW
  clear hW
  go_wp2_with fail
  refine (or_new _ _ _).mono ?_
  rintro e w' ⟨rfl, rfl⟩
  go_wp2
  go_ret
  refine ⟨rfl, ?_⟩
  rw [← HW.out]
  exact BB.out.drew.alloc BB.out.size _

end Go.Proofs.Ytpnfbgbbmpacfaa
