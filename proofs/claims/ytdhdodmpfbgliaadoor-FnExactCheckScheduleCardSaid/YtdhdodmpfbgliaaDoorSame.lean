/- Contracts of the small functions of the laws of chapter 3: laws.sameInts, sameJobs, sameSchedule (of equal arguments), ticks, contains. Conditions: the slices hold what is said; at most 2^20 elements. -/
import Derived.Test.YtdhdodmpfbgliaaDoorMem
import Derived.Test.YtdhdodmpfbgliaaDoorBase
namespace Go.Proofs.YtdhdodmpfbgliaaDoor
open Go.RowKit Go.Deep

/-- laws.sameInts, of two slices that hold the same. -/
theorem sameInts_same (a a' : Option Addr) (cap cap' n : Nat) (f : Nat → Int) (w : World) (h : IntF w a n f) (h' : IntF w a' n f) (hn : n ≤ 1048576) :
    Calls Tryd.prog 34 #[.slice a n cap, .slice a' n cap'] w fun e w' =>
      e = .returned (.bool true) ∧ ∃ m, w' = w.drewN m := by
  go_enter Tryd.func34, Tryd.ntmps34
  go_wp2
  go_loopg [5] n (fun m i wr => ∃ k : Nat, m + k = n ∧ i = .int .i64 k ∧ ∃ l, wr = w.drewN l)
  case atStart => exact ⟨0, rfl, rfl, 0, rfl⟩
  case round =>
    obtain ⟨k, hk, rfl, l, hwr⟩ := hrel
    have HK := Lib.hid hk
    have HW := Lib.hid hwr
    have hkk : k ≤ n := by omega
    clear hk
    by_cases hlt : k < n
    · obtain ⟨b, off, rfl, _, x0⟩ := h k hlt
      obtain ⟨b', off', rfl, _, y0⟩ := h' k hlt
      have g0 : wr.cell? ⟨b, off + k, none⟩ = some (.int .i64 (f k)) := by rw [hwr]; exact x0
      have g1 : wr.cell? ⟨b', off' + k, none⟩ = some (.int .i64 (f k)) := by rw [hwr]; exact y0
      obtain ⟨c, hc⟩ : ∃ c, c = f k := ⟨_, rfl⟩
      rw [← hc] at g0 g1
      have hk0 : (0 : Int) ≤ k := by omega
      have hk1 : (k : Int) < n := by omega
      clear x0 y0 h h' hwr hc
      go_wp2
      go_quiet (fail)
      go_wp2
      go_roundg (gk - 1)
      case measure => have := HK.out; omega
      case rel => exact ⟨k + 1, by have := HK.out; omega, by go_num, l + nq, by rw [HW.out, World.drewN_drewN]⟩
    · obtain rfl : k = n := by omega
      clear hwr
      go_wp2
      go_ret
      exact ⟨rfl, l, HW.out⟩

/-- laws.sameSchedule, of two schedules that hold the same. -/
theorem sameSchedule_same (r f r' f' : Option Addr) (c1 c2 c3 c4 n m : Nat) (fr ff : Nat → Int) (w : World) (h1 : IntF w r n fr) (h2 : IntF w f m ff) (h3 : IntF w r' n fr) (h4 : IntF w f' m ff) (hn : n ≤ 1048576) (hm : m ≤ 1048576) :
    Calls Tryd.prog 10 #[.agg #[.slice r n c1, .slice f m c2], .agg #[.slice r' n c3, .slice f' m c4]] w fun e w' =>
      e = .returned (.bool true) ∧ Below w.heap.size w w' := by
  have b0 : ∀ o1 o2, Below w.heap.size w ((w.alloc o1).alloc o2) := fun o1 o2 => (below_box _ _).alloc (by simp) _
  have H1 := Lib.hid fun o1 o2 => h1.below (b0 o1 o2)
  have H2 := Lib.hid fun o1 o2 => h2.below (b0 o1 o2)
  have H3 := Lib.hid fun o1 o2 => h3.below (b0 o1 o2)
  have H4 := Lib.hid fun o1 o2 => h4.below (b0 o1 o2)
  have B0 := Lib.hid b0
  clear h1 h2 h3 h4 b0
  go_enter Tryd.func10, Tryd.ntmps10
  go_wp2_with fail
  refine (sameInts_same _ _ _ _ _ fr _ (H1.out _ _) (H3.out _ _) hn).mono ?_
  rintro e w1 ⟨rfl, m1, rfl⟩
  go_wp2_with fail
  refine (sameInts_same _ _ _ _ _ ff _ ((H2.out _ _).below (below_drewN _ _)) ((H4.out _ _).below (below_drewN _ _)) hm).mono ?_
  rintro e w2 ⟨rfl, m2, rfl⟩
  go_wp2
  go_ret
  exact ⟨rfl, below_drewN' (B0.out _ _) _⟩

end Go.Proofs.YtdhdodmpfbgliaaDoor
