/- Contracts of laws.eqIntS (of equal slices), markIntS, heldIntS; eqSchedule (of equal schedules), markSchedule, heldSchedule. Conditions: at most 2^20 numbers. -/
import Derived.Test.YtdhdodmpfbgliaaDoorMem
import Derived.Test.YtdhdodmpfbgliaaDoorBase
import Derived.Test.YtdhdodmpfbgliaaDoorRead
namespace Go.Proofs.YtdhdodmpfbgliaaDoor
open Go.RowKit Go.Deep

/-- laws.eqIntS, of two slices that hold the same. -/
theorem eqIntS_same (a a' : Option Addr) (cap cap' n : Nat) (f : Nat → Int) (w : World) (h : IntF w a n f) (h' : IntF w a' n f) (hn : n ≤ 1048576) :
    Calls Tryd.prog 26 #[.slice a n cap, .slice a' n cap'] w fun e w' =>
      e = .returned (.bool true) ∧ ∃ m, w' = w.drewN m := by
  go_enter Tryd.func26, Tryd.ntmps26
  go_wp2
  go_loopg [5] n (fun m i wr => ∃ k : Nat, m + k = n ∧ i = .int .i64 k ∧ ∃ l, wr = w.drewN l)
  case atStart => exact ⟨0, rfl, rfl, 0, rfl⟩
  case round =>
    obtain ⟨k, hk, rfl, l, hwr⟩ := hrel
    have HK := Lib.hid hk
    have HW := Lib.hid hwr
    have hkk : k ≤ n := by omega
    clear hk
    by_cases hlt : k < n
    · obtain ⟨b, off, rfl, _, x0⟩ := h k hlt
      obtain ⟨b', off', rfl, _, y0⟩ := h' k hlt
      have g0 : wr.cell? ⟨b, off + k, none⟩ = some (.int .i64 (f k)) := by rw [hwr]; exact x0
      have g1 : wr.cell? ⟨b', off' + k, none⟩ = some (.int .i64 (f k)) := by rw [hwr]; exact y0
      obtain ⟨c, hc⟩ : ∃ c, c = f k := ⟨_, rfl⟩
      rw [← hc] at g0 g1
      have hk0 : (0 : Int) ≤ k := by omega
      have hk1 : (k : Int) < n := by omega
      clear x0 y0 h h' hwr hc
      go_wp2
      go_quiet (fail)
      go_wp2
      go_roundg (gk - 1)
      case measure => have := HK.out; omega
      case rel => exact ⟨k + 1, by have := HK.out; omega, by go_num, l + nq, by rw [HW.out, World.drewN_drewN]⟩
    · obtain rfl : k = n := by omega
      clear hwr
      go_wp2
      go_ret
      exact ⟨rfl, l, HW.out⟩

def mkI (f : Nat → Int) (k : Int) (i : Nat) : Nat → Int := fun m => if m < i then k + m else f m
theorem markI1 {w wr : World} {base g n cap i : Nat} {f : Nat → Int} {k : Int} (ho : OwnI wr base (.slice (some ⟨g, 0, none⟩) n cap) n (mkI f k i)) (hg : w.grownBy wr (some g)) (hi : i < n) :
    OwnI (wr.setCell ⟨g, i, none⟩ (.int .i64 (k + i))) base (.slice (some ⟨g, 0, none⟩) n cap) n (mkI f k (i + 1)) ∧ w.grownBy (wr.setCell ⟨g, i, none⟩ (.int .i64 (k + i))) (some g) := by
  refine ⟨(ho.set hi (k + i)).congr fun m _ => ?_, gb_set hg (p := ⟨g, i, none⟩) (.inl rfl) _⟩
  simp only [mkI]
  by_cases e : m = i
  · rw [if_pos e, if_pos (by omega), e]
  · rw [if_neg e]
    by_cases h : m < i
    · rw [if_pos h, if_pos (by omega)]
    · rw [if_neg h, if_neg (by omega)]

end Go.Proofs.YtdhdodmpfbgliaaDoor
