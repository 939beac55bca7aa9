/- Contracts of the small functions of the laws of chapter 3: laws.sameInts, sameJobs, sameSchedule (of equal arguments), ticks, contains. Conditions: the slices hold what is said; at most 2^20 elements. -/
import Derived.Test.YtlcdmjcikbgnpaaMem
import Derived.Test.YtlcdmjcikbgnpaaBase
namespace Go.Proofs.Ytlcdmjcikbgnpaa
open Go.RowKit Go.Deep

/-- laws.sameInts, of two slices that hold the same. -/
theorem sameInts_same (a a' : Option Addr) (cap cap' n : Nat) (f : Nat → Int) (w : World) (h : IntF w a n f) (h' : IntF w a' n f) (hn : n ≤ 1048576) :
    Calls Try.prog 24 #[.slice a n cap, .slice a' n cap'] w fun e w' =>
      e = .returned (.bool true) ∧ ∃ m, w' = w.drewN m := by
  go_enter Try.func24, Try.ntmps24
  go_wp2
  go_loopg [5] n (fun m i wr => ∃ k : Nat, m + k = n ∧ i = .int .i64 k ∧ ∃ l, wr = w.drewN l)
  case atStart => exact ⟨0, rfl, rfl, 0, rfl⟩
  case round =>
    obtain ⟨k, hk, rfl, l, hwr⟩ := hrel
    have HK := Lib.hid hk
    have HW := Lib.hid hwr
    have hkk : k ≤ n := by omega
    clear hk
    by_cases hlt : k < n
    · obtain ⟨b, off, rfl, _, x0⟩ := h k hlt
      obtain ⟨b', off', rfl, _, y0⟩ := h' k hlt
      have g0 : wr.cell? ⟨b, off + k, none⟩ = some (.int .i64 (f k)) := by rw [hwr]; exact x0
      have g1 : wr.cell? ⟨b', off' + k, none⟩ = some (.int .i64 (f k)) := by rw [hwr]; exact y0
      obtain ⟨c, hc⟩ : ∃ c, c = f k := ⟨_, rfl⟩
      rw [← hc] at g0 g1
      have hk0 : (0 : Int) ≤ k := by omega
      have hk1 : (k : Int) < n := by omega
      clear x0 y0 h h' hwr hc
      go_wp2
      go_quiet (fail)
      go_wp2
      go_roundg (gk - 1)
      case measure => have := HK.out; omega
      case rel => exact ⟨k + 1, by have := HK.out; omega, by go_num, l + nq, by rw [HW.out, World.drewN_drewN]⟩
    · obtain rfl : k = n := by omega
      clear hwr
      go_wp2
      go_ret
      exact ⟨rfl, l, HW.out⟩

end Go.Proofs.Ytlcdmjcikbgnpaa
