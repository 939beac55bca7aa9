/- laws.FnExactAssignmentValid: for every task set, every number of processors and every assignment (slices of whatever length, nil too, of whatever values) the program's AssignmentValid answers as the reference does and changes neither slice; the law returns true and leaves its arguments as they were. No condition. -/
import Derived.Test.YtilfmfhbdafogaaPartImpl
import Derived.Test.YtilfmfhbdafogaaCopyI
import Derived.Test.YtilfmfhbdafogaaCopy
import Derived.Test.YtilfmfhbdafogaaMarkI
namespace Go.Proofs.Ytilfmfhbdafogaa
open Go.RowKit Go.Deep

set_option maxRecDepth 100000 in
set_option maxHeartbeats 4000000 in
/-- laws.FnExactAssignmentValid. -/
theorem fnExactAssignmentValid_any (a : Option Addr) (cap : Nat) (ts : List T3) (n : Int) (oa : Option Addr) (ocap : Nat) (os : List Int) (w : World) (hr : Row w a ts) (hm : ts.length ≤ maxLen) (_ : -9223372036854775808 ≤ n ∧ n ≤ 9223372036854775807) (ho : IntF w oa os.length fun k => os.getD k 0) (_ : os.length ≤ maxLen) :
    Calls Try.prog 3 #[.slice a ts.length cap, .int .i64 n, .slice oa os.length ocap] w fun e w' =>
      e = .returned (.bool true) ∧ Below w.heap.size w w' := by
  have HR := Lib.hid hr
  clear hr
  have HO := Lib.hid ho
  clear ho
  by_cases hol : 1048576 < os.length
  · have hol' : (1048576 : Int) < os.length := by omega
    go_enter Try.func3, Try.ntmps3
    go_wp2
    go_ret
    exact ⟨rfl, Below.refl _ _⟩
  have hol' : ¬ (1048576 : Int) < os.length := by omega
  have hon : os.length ≤ 1048576 := by omega
  clear hol
  by_cases hn : ts.length ≤ 1048576
  · have hn' : ts.length ≤ 1099511627776 := by omega
    have h' : ¬ (1048576 - (ts.length : Int) < 0) := by omega
    go_enter Try.func3, Try.ntmps3
    go_wp2_with (go_at_call 9; refine (szTaskS_small _ _ _ _ hn).mono ?_; rintro e w' ⟨rfl, rfl⟩)
    refine (toTaskS_any _ _ _ _ HR.out hn').mono ?_
    rintro e w1 ⟨rfl, r1, b1⟩
    have R1 := Lib.hid r1
    clear r1
    go_wp2_with fail
    refine (toIntS_any _ _ _ _ _ (HO.out.below b1) (by omega)).mono ?_
    rintro e w2 ⟨rfl, i2, b2⟩
    have I2 := Lib.hid i2.intF'
    have R2 := Lib.hid (R1.out.below b2)
    have b02 := b1.trans (b2.mono b1.size)
    clear i2 b1 R1
    go_wp2_with fail
    refine (specAssignmentValid_any _ _ _ _ ts n os _ R2.out I2.out hn' (by omega)).mono ?_
    rintro e w3 ⟨rfl, b3⟩
    have b03 := b02.trans (b3.mono b02.size)
    clear b2 b02 b3 I2 R2
    go_wp2_with fail
    refine (toTaskS_any _ _ _ _ (HR.out.below b03) hn').mono ?_
    rintro e w4 ⟨rfl, r4, b4⟩
    have R4 := Lib.hid r4
    have b04 := b03.trans (b4.mono b03.size)
    clear r4 b03 b4
    go_wp2_with fail
    refine (toIntS_any _ _ _ _ _ (HO.out.below b04) (by omega)).mono ?_
    rintro e w5 ⟨rfl, i5, b5⟩
    have I5 := Lib.hid i5.intF'
    have R5 := Lib.hid (R4.out.below b5)
    have b05 := b04.trans (b5.mono b04.size)
    clear i5 b5 b04 R4
    go_wp2_with fail
    refine (assignmentValid_any _ _ _ _ ts n os _ R5.out I5.out hn' (by omega)).mono ?_
    rintro e w6 ⟨rfl, b6⟩
    have I6 := Lib.hid (I5.out.below b6)
    have R6 := Lib.hid (R5.out.below b6)
    have b06 := b05.trans (b6.mono b05.size)
    clear b6 b05 R5 I5
    go_wp2_with fail
    refine (toTaskS_any _ _ _ _ (HR.out.below b06) hn').mono ?_
    rintro e w7 ⟨rfl, r7, b7⟩
    have T7 := Lib.hid r7
    have I7 := Lib.hid (I6.out.below b7)
    have R7 := Lib.hid (R6.out.below b7)
    have b07 := b06.trans (b7.mono b06.size)
    clear r7 b7 b06 R6 I6
    go_wp2_with fail
    refine (eqTaskS_same _ _ _ _ _ _ R7.out T7.out hn').mono ?_
    rintro e w8 ⟨rfl, b8⟩
    have I8 := Lib.hid (I7.out.below b8)
    have b08 := b07.trans (b8.mono b07.size)
    clear b8 b07 R7 I7 T7
    go_wp2_with fail
    refine (toIntS_any _ _ _ _ _ (HO.out.below b08) (by omega)).mono ?_
    rintro e w9 ⟨rfl, i9, b9⟩
    have T9 := Lib.hid i9.intF'
    have I9 := Lib.hid (I8.out.below b9)
    have b09 := b08.trans (b9.mono b08.size)
    clear i9 b9 b08 I8
    go_wp2_with fail
    refine (eqIntS_same _ _ _ _ _ _ _ I9.out T9.out (by omega)).mono ?_
    rintro e wA ⟨rfl, nA, rfl⟩
    go_wp2
    go_ret
    exact ⟨rfl, below_drewN' b09 _⟩
  · have hn' : 1048576 < ts.length := by omega
    go_enter Try.func3, Try.ntmps3
    go_wp2_with (go_at_call 9; refine (szTaskS_big _ _ _ _ hn' hm).mono ?_; rintro e w' ⟨rfl, rfl⟩)
    go_ret
    exact ⟨rfl, Below.refl _ _⟩

end Go.Proofs.Ytilfmfhbdafogaa
