/- What the program's CheckSchedule is asked to do, as one condition that the walks of the laws take; contract of laws.executed. Conditions: those of each theorem. -/
import Derived.Test.YtdhdodmpfbgliaaDoorChkSpec
namespace Go.Proofs.YtdhdodmpfbgliaaDoor
open Go.RowKit Go.Deep

/-- The program's CheckSchedule answers as the reference does, in a world that meets G (what a package's variables hold); a function that leaves all elder blocks alone keeps G. -/
structure Impl9 (G : World → Prop) : Prop where
  keep : ∀ {w w' : World}, G w → Below w.heap.size w w' → G w'
  check : ∀ (a ja ra : Option Addr) (cap jcap rcap n : Nat) (ts : List T3) (js : List J4) (r : Nat → Int) (w : World), G w → Row w a ts → RowJ w ja js → IntF w ra n r → ts.length ≤ 1099511627776 → js.length ≤ 1099511627776 → n ≤ 1099511627776 →
    Calls Tryd.prog 12 #[.slice a ts.length cap, .slice ja js.length jcap, .slice ra n rcap] w (ChkAns w (ck9 ts js n r))

set_option maxHeartbeats 1000000 in
/-- laws.executed. -/
theorem executed9_any (ra : Option Addr) (rcap n : Nat) (r : Nat → Int) (k T : Nat) (w : World) (h : IntF w ra n r) (hT : T ≤ n) (hn : n ≤ 1048576) :
    Calls Tryd.prog 18 #[.slice ra n rcap, .int .i64 (k : Int), .int .i64 (T : Int)] w fun e w' => e = .returned (.int .i64 (ckN r k T : Nat)) ∧ w = w' := by
  have HX := Lib.hid h
  clear h
  go_enter Tryd.func18, Tryd.ntmps18
  go_wp2
  go_loopg [7, 8] T (fun q s z wr => ∃ i : Nat, q + i = T ∧ z = .int .i64 i ∧ s = .int .i64 (ckN r k i : Nat) ∧ ckN r k i ≤ i ∧ w = wr)
  case atStart => exact ⟨0, by simp, rfl, rfl, Nat.le_refl _, rfl⟩
  case round =>
    obtain ⟨i, hq, rfl, rfl, hle, rfl⟩ := hrel
    have HQ := Lib.hid hq
    have hiT : i ≤ T := by omega
    clear hq
    obtain ⟨c, hc⟩ : ∃ c, c = ckN r k i := ⟨_, rfl⟩
    rw [← hc] at hle ⊢
    have HC := Lib.hid hc
    clear hc
    by_cases hlt : i < T
    · obtain ⟨b, off, e, hb, c0⟩ := HX.out i (by omega)
      have HS := Lib.hid (show ckN r k (i + 1) = c + if r i = (k : Int) then 1 else 0 by rw [HC.out]; rfl)
      obtain ⟨x, hx⟩ : ∃ x, x = r i := ⟨_, rfl⟩
      rw [← hx] at c0
      have HXX := Lib.hid hx
      have hi0 : (0 : Int) ≤ i := by omega
      have hi1 : (i : Int) < n := by omega
      have hi2 : (i : Int) < T := by omega
      clear hx
      subst e
      by_cases hk : x = (k : Int)
      · have hS2 := HS.out
        rw [← HXX.out, if_pos hk] at hS2
        have HS2 := Lib.hid hS2
        have hxb : (x == (k : Int)) = true := by simp; exact hk
        clear hS2 hk
        go_wp2
        go_roundg (gk - 1)
        case measure => have := HQ.out; omega
        case rel => exact ⟨i + 1, by have := HQ.out; omega, by go_num, by rw [HS2.out]; go_num, by rw [HS2.out]; omega, rfl⟩
      · have hS2 := HS.out
        rw [← HXX.out, if_neg hk] at hS2
        have HS2 := Lib.hid hS2
        have hxb : (x == (k : Int)) = false := by simp; exact hk
        clear hS2 hk
        go_wp2
        go_roundg (gk - 1)
        case measure => have := HQ.out; omega
        case rel => exact ⟨i + 1, by have := HQ.out; omega, by go_num, by rw [HS2.out]; rfl, by rw [HS2.out]; omega, rfl⟩
    · obtain rfl : i = T := by omega
      go_wp2
      go_ret
      exact ⟨by rw [HC.out]; rfl, rfl⟩

end Go.Proofs.YtdhdodmpfbgliaaDoor
