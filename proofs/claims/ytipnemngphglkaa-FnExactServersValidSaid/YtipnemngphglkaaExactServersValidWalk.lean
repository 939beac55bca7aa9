/- laws.FnExactServersValid: for every slice of servers (of whatever length, nil too, of whatever values) the program's ServersValid answers as the reference does and changes nothing. Condition: the argument holds what is said. -/
import Derived.Test.YtipnemngphglkaaCopyS
import Derived.Test.YtipnemngphglkaaSvImpl
namespace Go.Proofs.Ytipnemngphglkaa
open Go.RowKit Go.Deep

theorem fnExactServersValid_walk (a : Option Addr) (cap : Nat) (l : List A2) (w : World) (hr : Row2 w a l) (hm : l.length ≤ maxLen) :
    Calls Try.prog 10 #[.slice a l.length cap] w fun e w' => e = .returned (.bool true) ∧ Below w.heap.size w w' := by
  have HR := Lib.hid hr
  clear hr
  by_cases hn : l.length ≤ 1048576
  · have hn' : l.length ≤ 1099511627776 := by omega
    have h' : ¬ (1048576 - (l.length : Int) < 0) := by omega
    go_enter Try.func10, Try.ntmps10
    go_wp2_with (go_at_call 34; refine (szServerS_small _ _ _ _ _ (by omega) (by omega)).mono ?_; rintro e w' ⟨rfl, rfl⟩)
    refine (toServerS_any _ _ _ _ HR.out hn').mono ?_
    rintro e w1 ⟨rfl, r1, b1⟩
    have R1 := Lib.hid r1.row2
    clear r1
    go_wp2_with fail
    refine (specServersValid_any _ _ _ _ R1.out hn').mono ?_
    rintro e w2 ⟨rfl, b2⟩
    have b12 := b1.trans (b2.mono b1.size)
    go_wp2_with fail
    refine (toServerS_any _ _ _ _ (HR.out.below b12) hn').mono ?_
    rintro e w3 ⟨rfl, r3, b3⟩
    have R3 := Lib.hid r3.row2
    clear r3
    have b13 := b12.trans (b3.mono b12.size)
    go_wp2_with fail
    refine (serversValid_any _ _ _ _ R3.out hn').mono ?_
    rintro e w4 ⟨rfl, b4⟩
    have b14 := b13.trans (b4.mono b13.size)
    go_wp2_with fail
    refine (toServerS_any _ _ _ _ (HR.out.below b14) hn').mono ?_
    rintro e w5 ⟨rfl, r5, b5⟩
    have R5 := Lib.hid r5.row2
    clear r5
    have b15 := b14.trans (b5.mono b14.size)
    go_wp2_with fail
    refine (eqServerS_same _ _ _ _ _ _ ((R3.out.below b4).below b5) R5.out hn').mono ?_
    rintro e w6 ⟨rfl, b6⟩
    go_wp2
    go_ret
    exact ⟨rfl, b15.trans (b6.mono b15.size)⟩
  · have hn' : 1048576 < l.length := by omega
    go_enter Try.func10, Try.ntmps10
    go_wp2_with (go_at_call 34; refine (szServerS_big _ _ _ _ _ (by omega) (by omega) (by omega) hm).mono ?_; rintro e w' ⟨rfl, rfl⟩)
    go_ret
    exact ⟨rfl, Below.refl _ _⟩

end Go.Proofs.Ytipnemngphglkaa
