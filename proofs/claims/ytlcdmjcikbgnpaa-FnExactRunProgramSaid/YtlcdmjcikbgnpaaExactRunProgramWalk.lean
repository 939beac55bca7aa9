/- laws.FnExactRunProgram: for every program and every list of choices (slices of whatever length, nil too, of whatever values) the program's RunProgram answers as the reference does and changes neither slice; the law returns true and leaves its arguments as they were. No condition. -/
import Derived.Test.YtlcdmjcikbgnpaaPrgRunP
import Derived.Test.YtlcdmjcikbgnpaaCopyI
import Derived.Test.YtlcdmjcikbgnpaaCopyN
import Derived.Test.YtlcdmjcikbgnpaaMarkI
namespace Go.Proofs.Ytlcdmjcikbgnpaa
open Go.RowKit Go.Deep

set_option maxRecDepth 100000 in
set_option maxHeartbeats 4000000 in
/-- laws.FnExactRunProgram. -/
theorem fnExactRunProgram_any (a : Option Addr) (cap : Nat) (ts : List N5) (oa : Option Addr) (ocap : Nat) (os : List Int) (w : World) (hr : RowN w a ts) (hm : ts.length ≤ maxLen) (ho : IntF w oa os.length fun k => os.getD k 0) (_ : os.length ≤ maxLen) :
    Calls Try.prog 11 #[.slice a ts.length cap, .slice oa os.length ocap] w fun e w' =>
      e = .returned (.bool true) ∧ Below w.heap.size w w' := by
  have HR := Lib.hid hr
  clear hr
  have HO := Lib.hid ho
  clear ho
  by_cases hol : 1048576 < os.length
  · have hol' : (1048576 : Int) < os.length := by omega
    go_enter Try.func11, Try.ntmps11
    go_wp2
    go_ret
    exact ⟨rfl, Below.refl _ _⟩
  have hol' : ¬ (1048576 : Int) < os.length := by omega
  have hon : os.length ≤ 1048576 := by omega
  clear hol
  by_cases hn : ts.length ≤ 1048576
  · have hn' : ts.length ≤ 1099511627776 := by omega
    have h' : ¬ (1048576 - (ts.length : Int) < 0) := by omega
    obtain ⟨r, hrr⟩ : ∃ r, r = ex8 ts os := ⟨_, rfl⟩
    have HRR := Lib.hid hrr
    clear hrr
    go_enter Try.func11, Try.ntmps11
    go_wp2_with (go_at_call 29; refine (szNodeS_small _ _ _ _ hn).mono ?_; rintro e w' ⟨rfl, rfl⟩)
    refine (toNodeS_any _ _ _ _ HR.out hn').mono ?_
    rintro e w1 ⟨rfl, r1, b1⟩
    have R1 := Lib.hid r1
    clear r1
    go_wp2_with fail
    refine (toIntS_any _ _ _ _ _ (HO.out.below b1) (by omega)).mono ?_
    rintro e w2 ⟨rfl, i2, b2⟩
    have I2 := Lib.hid i2.intF'
    have R2 := Lib.hid (R1.out.below b2)
    have b02 := b1.trans (b2.mono b1.size)
    clear i2 b1 R1
    go_wp2_with fail
    refine (specRunProgram_any _ _ ts _ os _ R2.out ⟨_, _, rfl, Nat.le_refl _, I2.out⟩ hn').mono ?_
    rintro e w3 ⟨rfl, b3⟩
    rw [← HRR.out]
    have b03 := b02.trans (b3.mono b02.size)
    clear b2 b02 b3 I2 R2
    go_wp2_with fail
    refine (toNodeS_any _ _ _ _ (HR.out.below b03) hn').mono ?_
    rintro e w4 ⟨rfl, r4, b4⟩
    have R4 := Lib.hid r4
    have b04 := b03.trans (b4.mono b03.size)
    clear r4 b03 b4
    go_wp2_with fail
    refine (toIntS_any _ _ _ _ _ (HO.out.below b04) (by omega)).mono ?_
    rintro e w5 ⟨rfl, i5, b5⟩
    have I5 := Lib.hid i5.intF'
    have R5 := Lib.hid (R4.out.below b5)
    have b05 := b04.trans (b5.mono b04.size)
    clear i5 b5 b04 R4
    go_wp2_with fail
    refine (implRunProgram_any _ _ ts _ os _ R5.out ⟨_, _, rfl, Nat.le_refl _, I5.out⟩ hn' (by omega)).mono ?_
    rintro e w6 ⟨rfl, b6⟩
    rw [← HRR.out]
    have I6 := Lib.hid (I5.out.below b6)
    have R6 := Lib.hid (R5.out.below b6)
    have b06 := b05.trans (b6.mono b05.size)
    clear b6 b05 R5 I5
    go_wp2_with fail
    refine (toNodeS_any _ _ _ _ (HR.out.below b06) hn').mono ?_
    rintro e w7 ⟨rfl, r7, b7⟩
    have T7 := Lib.hid r7
    have I7 := Lib.hid (I6.out.below b7)
    have R7 := Lib.hid (R6.out.below b7)
    have b07 := b06.trans (b7.mono b06.size)
    clear r7 b7 b06 R6 I6
    go_wp2_with fail
    refine (eqNodeS_same _ _ _ _ _ _ R7.out T7.out hn').mono ?_
    rintro e w8 ⟨rfl, b8⟩
    have I8 := Lib.hid (I7.out.below b8)
    have b08 := b07.trans (b8.mono b07.size)
    clear b8 b07 R7 I7 T7
    go_wp2_with fail
    refine (toIntS_any _ _ _ _ _ (HO.out.below b08) (by omega)).mono ?_
    rintro e w9 ⟨rfl, i9, b9⟩
    have T9 := Lib.hid i9.intF'
    have I9 := Lib.hid (I8.out.below b9)
    have b09 := b08.trans (b9.mono b08.size)
    clear i9 b9 b08 I8
    go_wp2_with fail
    refine (eqIntS_same _ _ _ _ _ _ _ I9.out T9.out (by omega)).mono ?_
    rintro e wA ⟨rfl, nA, rfl⟩
    go_wp2
    go_ret
    exact ⟨rfl, below_drewN' b09 _⟩
  · have hn' : 1048576 < ts.length := by omega
    go_enter Try.func11, Try.ntmps11
    go_wp2_with (go_at_call 29; refine (szNodeS_big _ _ _ _ hn' hm).mono ?_; rintro e w' ⟨rfl, rfl⟩)
    go_ret
    exact ⟨rfl, Below.refl _ _⟩

end Go.Proofs.Ytlcdmjcikbgnpaa
