/- laws.FnExactBcet: for every program (a slice of whatever length, nil too, of nodes of whatever values) the program's Bcet answers as the reference does and changes no node; the law returns true and leaves its argument as it was. No condition. -/
import Derived.Test.YtlcdmjcikbgnpaaPrgTop
import Derived.Test.YtlcdmjcikbgnpaaCopyN
namespace Go.Proofs.Ytlcdmjcikbgnpaa
open Go.RowKit Go.Deep

set_option maxRecDepth 100000 in
set_option maxHeartbeats 2000000 in
theorem fnExactBcet_any (a : Option Addr) (cap : Nat) (ts : List N5) (w : World) (hr : RowN w a ts) (hm : ts.length ≤ maxLen) :
    Calls Try.prog 10 #[.slice a ts.length cap] w fun e w' =>
      e = .returned (.bool true) ∧ Below w.heap.size w w' := by
  have HR := Lib.hid hr
  clear hr
  by_cases hn : ts.length ≤ 1048576
  · have hn' : ts.length ≤ 1099511627776 := by omega
    have h' : ¬ (1048576 - (ts.length : Int) < 0) := by omega
    obtain ⟨r, hrr⟩ : ∃ r, r = bd8 false ts := ⟨_, rfl⟩
    have HRR := Lib.hid hrr
    clear hrr
    go_enter Try.func10, Try.ntmps10
    go_wp2_with (go_at_call 29; refine (szNodeS_small _ _ _ _ hn).mono ?_; rintro e w' ⟨rfl, rfl⟩)
    refine (toNodeS_any _ _ _ _ HR.out hn').mono ?_
    rintro e w1 ⟨rfl, r1, b1⟩
    have R1 := Lib.hid r1
    clear r1
    go_wp2_with fail
    refine (specBcet_any _ _ _ _ R1.out hn').mono ?_
    rintro e w2 ⟨rfl, b2⟩
    rw [← HRR.out]
    have b12 := b1.trans (b2.mono b1.size)
    go_wp2_with fail
    refine (toNodeS_any _ _ _ _ (HR.out.below b12) hn').mono ?_
    rintro e w3 ⟨rfl, r3, b3⟩
    have R3 := Lib.hid r3
    clear r3
    have b13 := b12.trans (b3.mono b12.size)
    go_wp2_with fail
    refine (implBcet_any _ _ _ _ R3.out hn').mono ?_
    rintro e w4 ⟨rfl, b4⟩
    rw [← HRR.out]
    have b14 := b13.trans (b4.mono b13.size)
    go_wp2_with fail
    refine (toNodeS_any _ _ _ _ (HR.out.below b14) hn').mono ?_
    rintro e w5 ⟨rfl, r5, b5⟩
    have R5 := Lib.hid r5
    clear r5
    have b15 := b14.trans (b5.mono b14.size)
    go_wp2_with fail
    refine (eqNodeS_same _ _ _ _ _ _ ((R3.out.below b4).below b5) R5.out hn').mono ?_
    rintro e w6 ⟨rfl, b6⟩
    go_wp2
    go_ret
    exact ⟨rfl, b15.trans (b6.mono b15.size)⟩
  · have hn' : 1048576 < ts.length := by omega
    go_enter Try.func10, Try.ntmps10
    go_wp2_with (go_at_call 29; refine (szNodeS_big _ _ _ _ hn' hm).mono ?_; rintro e w' ⟨rfl, rfl⟩)
    go_ret
    exact ⟨rfl, Below.refl _ _⟩

end Go.Proofs.Ytlcdmjcikbgnpaa
