/- Contracts of cmp.Compare[int] and cmp.Or[int] (of two). Conditions: the cells hold what is said. -/
import Derived.Test.YtdgihkmiolnglaaGreatDoorMem
import Derived.StillTailTactics
namespace Go.Proofs.YtdgihkmiolnglaaGreatDoor
open Go.RowKit Go.Deep

/-- -1, 0 or 1. -/
def cmpI (x y : Int) : Int := if x < y then -1 else if y < x then 1 else 0
/-- The first that is not 0. -/
def orI (x y : Int) : Int := if x = 0 then y else x
theorem cmpI_bd (x y : Int) : -1 ≤ cmpI x y ∧ cmpI x y ≤ 1 := by
  unfold cmpI
  split
  · omega
  · split <;> omega
theorem orI_lt (x y x' y' : Int) : orI (cmpI x y) (cmpI x' y') < 0 ↔ x < y ∨ (x = y ∧ x' < y') := by
  unfold orI cmpI
  by_cases h1 : x < y
  · simp [h1]
  · by_cases h2 : y < x
    · simp [h1, h2]; omega
    · by_cases h3 : x' < y'
      · simp [h1, h2, h3]; omega
      · by_cases h4 : y' < x'
        · simp [h1, h2, h3, h4]
        · simp [h1, h2, h3, h4]

/-- cmp.Compare[int]. -/
theorem compare_any (x y : Int) (w : World) :
    Calls Tryz.prog 90 #[.int .i64 x, .int .i64 y] w fun e w' => e = .returned (.int .i64 (cmpI x y)) ∧ w' = w := by
  by_cases h1 : x < y
  · go_enter Tryz.func90, Tryz.ntmps90
    go_wp2
    go_ret
    exact ⟨by simp [cmpI, h1], rfl⟩
  · by_cases h2 : y < x
    · go_enter Tryz.func90, Tryz.ntmps90
      go_wp2
      go_ret
      exact ⟨by simp [cmpI, h1, h2], rfl⟩
    · go_enter Tryz.func90, Tryz.ntmps90
      go_wp2
      go_ret
      exact ⟨ret_int (show (0 : Int) = _ by rw [cmpI, if_neg (by omega), if_neg (by omega)]), rfl⟩

/-- cmp.Or[int] of two. -/
theorem or_any (b : Nat) (x y : Int) (w : World) (h0 : w.cell? ⟨b, 0, none⟩ = some (.int .i64 x)) (h1 : w.cell? ⟨b, 1, none⟩ = some (.int .i64 y)) :
    Calls Tryz.prog 89 #[.slice (some ⟨b, 0, none⟩) 2 2] w fun e w' => e = .returned (.int .i64 (orI x y)) ∧ w' = w := by
  go_enter Tryz.func89, Tryz.ntmps89
  go_wp2
  go_loop [8] (fun i => ∃ k : Nat, i = .int .i64 k ∧ k ≤ 2 ∧ (1 ≤ k → x = 0) ∧ (2 ≤ k → y = 0)) (fun i => 2 - (intOf i).toNat)
  case atStart => exact ⟨0, rfl, by omega, by omega, by omega⟩
  case round =>
    obtain ⟨k, rfl, hk, hx, hy⟩ := hrel
    by_cases hk0 : k = 0
    · subst hk0
      clear hx hy
      by_cases hz : x = 0
      · subst hz
        go_wp2
        go_round
        case rel => exact ⟨1, rfl, by omega, by simp, by omega⟩
        case measure => simp [intOf]
      · have hz' : (x != 0) = true := by simpa using hz
        have hz'' : (x == 0) = false := by simpa using hz
        go_wp2
        go_ret
        exact ⟨by simp [orI, hz], rfl⟩
    · by_cases hk1 : k = 1
      · subst hk1
        obtain rfl := hx (Nat.le_refl _)
        clear hx hy
        by_cases hz : y = 0
        · subst hz
          go_wp2
          go_round
          case rel => exact ⟨2, rfl, by omega, by simp, by simp⟩
          case measure => simp [intOf]
        · have hz' : (y != 0) = true := by simpa using hz
          have hz'' : (y == 0) = false := by simpa using hz
          go_wp2
          go_ret
          exact ⟨by simp [orI], rfl⟩
      · obtain rfl : k = 2 := by omega
        obtain rfl := hx (by omega)
        obtain rfl := hy (by omega)
        clear hx hy
        go_wp2
        go_ret
        exact ⟨by simp [orI], rfl⟩

theorem or_new (x y : Int) (w : World) :
    Calls Tryz.prog 89 #[.slice (some ⟨w.heap.size, 0, none⟩) 2 2] (w.alloc (.cells #[.int .i64 x, .int .i64 y] 3)) fun e w' => e = .returned (.int .i64 (orI x y)) ∧ w.alloc (.cells #[.int .i64 x, .int .i64 y] 3) = w' :=
  (or_any _ x y _ (by simp [go_sem]) (by simp [go_sem])).mono fun _ _ ⟨a, b⟩ => ⟨a, b.symm⟩

/-- A call that only draws, in a quiet region. -/
theorem quiet_drew {P : Program} {f : FuncId} {args : Array Value} {w : World} {n : Nat} {v : Value}
    (h : Calls P f args (w.drewN n) fun e w' => e = .returned v ∧ ∃ m, w' = (w.drewN n).drewN m) : Calls P f args (w.drewN n) fun e w'' => e = .returned v ∧ ∃ m, w'' = w.drewN m :=
  h.mono fun _ _ hh => ⟨hh.1, by obtain ⟨m, hm⟩ := hh.2; exact ⟨n + m, by rw [hm, World.drewN_drewN]⟩⟩

end Go.Proofs.YtdgihkmiolnglaaGreatDoor
