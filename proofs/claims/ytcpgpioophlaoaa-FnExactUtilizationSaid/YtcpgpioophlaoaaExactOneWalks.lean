/- laws.FnExactSetValid, FnExactHyperperiod, FnExactUtilization: for every task set (a slice of whatever length, nil too, of tasks of whatever values) the program's SetValid (Hyperperiod, Utilization) answers as the reference does and changes no task; the law returns true and leaves its argument as it was. No condition. -/
import Derived.Test.YtcpgpioophlaoaaCopy
import Derived.Test.YtcpgpioophlaoaaUtil2
namespace Go.Proofs.Ytcpgpioophlaoaa
open Go.RowKit

theorem fnExactSetValid_any (a : Option Addr) (cap : Nat) (ts : List (Int × Int × Int)) (w : World) (hr : Row w a ts) (hm : ts.length ≤ maxLen) :
    Calls Try.prog 9 #[.slice a ts.length cap] w fun e w' =>
      e = .returned (.bool true) ∧ Below w.heap.size w w' := by
  have HR := Lib.hid hr
  clear hr
  by_cases hn : ts.length ≤ 1048576
  · have hn' : ts.length ≤ 1099511627776 := by omega
    have h' : ¬ (1048576 - (ts.length : Int) < 0) := by omega
    go_enter Try.func9, Try.ntmps9
    go_wp2_with (go_at_call 27; refine (szTaskS_small _ _ _ _ hn).mono ?_; rintro e w' ⟨rfl, rfl⟩)
    refine (toTaskS_any _ _ _ _ HR.out hn').mono ?_
    rintro e w1 ⟨rfl, r1, b1⟩
    have R1 := Lib.hid r1
    clear r1
    go_wp2_with fail
    refine (specSetValid_any _ _ _ _ R1.out hn').mono ?_
    rintro e w2 ⟨rfl, b2⟩
    have b12 := b1.trans (b2.mono b1.size)
    go_wp2_with fail
    refine (toTaskS_any _ _ _ _ (HR.out.below b12) hn').mono ?_
    rintro e w3 ⟨rfl, r3, b3⟩
    have R3 := Lib.hid r3
    clear r3
    have b13 := b12.trans (b3.mono b12.size)
    go_wp2_with fail
    refine (setValid_any _ _ _ _ R3.out hn').mono ?_
    rintro e w4 ⟨rfl, b4⟩
    have b14 := b13.trans (b4.mono b13.size)
    go_wp2_with fail
    refine (toTaskS_any _ _ _ _ (HR.out.below b14) hn').mono ?_
    rintro e w5 ⟨rfl, r5, b5⟩
    have R5 := Lib.hid r5
    clear r5
    have b15 := b14.trans (b5.mono b14.size)
    go_wp2_with fail
    refine (eqTaskS_same _ _ _ _ _ _ ((R3.out.below b4).below b5) R5.out hn').mono ?_
    rintro e w6 ⟨rfl, b6⟩
    go_wp2
    go_ret
    exact ⟨rfl, b15.trans (b6.mono b15.size)⟩
  · have hn' : 1048576 < ts.length := by omega
    go_enter Try.func9, Try.ntmps9
    go_wp2_with (go_at_call 27; refine (szTaskS_big _ _ _ _ hn' hm).mono ?_; rintro e w' ⟨rfl, rfl⟩)
    go_ret
    exact ⟨rfl, Below.refl _ _⟩

theorem fnExactHyperperiod_any (a : Option Addr) (cap : Nat) (ts : List (Int × Int × Int)) (w : World) (hr : Row w a ts) (hm : ts.length ≤ maxLen) :
    Calls Try.prog 10 #[.slice a ts.length cap] w fun e w' =>
      e = .returned (.bool true) ∧ Below w.heap.size w w' := by
  have HR := Lib.hid hr
  clear hr
  by_cases hn : ts.length ≤ 1048576
  · have hn' : ts.length ≤ 1099511627776 := by omega
    have h' : ¬ (1048576 - (ts.length : Int) < 0) := by omega
    go_enter Try.func10, Try.ntmps10
    go_wp2_with (go_at_call 27; refine (szTaskS_small _ _ _ _ hn).mono ?_; rintro e w' ⟨rfl, rfl⟩)
    refine (toTaskS_any _ _ _ _ HR.out hn').mono ?_
    rintro e w1 ⟨rfl, r1, b1⟩
    have R1 := Lib.hid r1
    clear r1
    go_wp2_with fail
    refine (specHyperperiod_any _ _ _ _ R1.out hn').mono ?_
    rintro e w2 ⟨rfl, b2⟩
    have b12 := b1.trans (b2.mono b1.size)
    go_wp2_with fail
    refine (toTaskS_any _ _ _ _ (HR.out.below b12) hn').mono ?_
    rintro e w3 ⟨rfl, r3, b3⟩
    have R3 := Lib.hid r3
    clear r3
    have b13 := b12.trans (b3.mono b12.size)
    go_wp2_with fail
    refine (hyperperiod_any _ _ _ _ R3.out hn').mono ?_
    rintro e w4 ⟨rfl, b4⟩
    have b14 := b13.trans (b4.mono b13.size)
    go_wp2_with fail
    refine (toTaskS_any _ _ _ _ (HR.out.below b14) hn').mono ?_
    rintro e w5 ⟨rfl, r5, b5⟩
    have R5 := Lib.hid r5
    clear r5
    have b15 := b14.trans (b5.mono b14.size)
    go_wp2_with fail
    refine (eqTaskS_same _ _ _ _ _ _ ((R3.out.below b4).below b5) R5.out hn').mono ?_
    rintro e w6 ⟨rfl, b6⟩
    go_wp2
    go_ret
    exact ⟨rfl, b15.trans (b6.mono b15.size)⟩
  · have hn' : 1048576 < ts.length := by omega
    go_enter Try.func10, Try.ntmps10
    go_wp2_with (go_at_call 27; refine (szTaskS_big _ _ _ _ hn' hm).mono ?_; rintro e w' ⟨rfl, rfl⟩)
    go_ret
    exact ⟨rfl, Below.refl _ _⟩

theorem fnExactUtilization_any (a : Option Addr) (cap : Nat) (ts : List (Int × Int × Int)) (w : World) (hr : Row w a ts) (hm : ts.length ≤ maxLen) :
    Calls Try.prog 11 #[.slice a ts.length cap] w fun e w' =>
      e = .returned (.bool true) ∧ Below w.heap.size w w' := by
  have HR := Lib.hid hr
  clear hr
  by_cases hn : ts.length ≤ 1048576
  · have hn' : ts.length ≤ 1099511627776 := by omega
    have h' : ¬ (1048576 - (ts.length : Int) < 0) := by omega
    go_enter Try.func11, Try.ntmps11
    go_wp2_with (go_at_call 27; refine (szTaskS_small _ _ _ _ hn).mono ?_; rintro e w' ⟨rfl, rfl⟩)
    refine (toTaskS_any _ _ _ _ HR.out hn').mono ?_
    rintro e w1 ⟨rfl, r1, b1⟩
    have R1 := Lib.hid r1
    clear r1
    go_wp2_with fail
    refine (specUtilization_any _ _ _ _ R1.out hn').mono ?_
    rintro e w2 ⟨rfl, b2⟩
    have b12 := (b1.trans (b2.mono b1.size)).alloc (Nat.le_trans b1.size b2.size) (.cells #[.int .i64 (utN ts : Nat), .int .i64 (utD ts : Nat)] 35)
    have s12 := b12.size
    go_wp2_with fail
    refine (toTaskS_any _ _ _ _ (HR.out.below b12) hn').mono ?_
    rintro e w3 ⟨rfl, r3, b3⟩
    rw [World.size_alloc] at r3
    have R3 := Lib.hid r3
    clear r3
    have b13 := b12.trans (b3.mono s12)
    go_wp2_with fail
    refine (utilization_any _ _ _ _ R3.out hn').mono ?_
    rintro e w4 ⟨rfl, b4⟩
    have b34 := b3.trans (b4.mono b3.size)
    have k0 : w4.cell? ⟨w2.heap.size, 0, none⟩ = some (.int .i64 (utN ts : Nat)) := by rw [b34.cell (p := ⟨w2.heap.size, 0, none⟩) (by simp)]; go_simp
    have k1 : w4.cell? ⟨w2.heap.size, 1, none⟩ = some (.int .i64 (utD ts : Nat)) := by rw [b34.cell (p := ⟨w2.heap.size, 1, none⟩) (by simp)]; go_simp
    have b14 := (b13.trans (b4.mono b13.size)).alloc (Nat.le_trans b13.size b4.size) (.cells #[.int .i64 (utN ts : Nat), .int .i64 (utD ts : Nat)] 35)
    have s4 : w2.heap.size < w4.heap.size := by have := b34.size; simp at this; omega
    have R4 := Lib.hid ((R3.out.below b4).below (below_box w4 (.cells #[.int .i64 (utN ts : Nat), .int .i64 (utD ts : Nat)] 35)))
    go_wp2_with fail
    refine (eqFraction_same _ _ _).mono ?_
    rintro e w4b ⟨rfl, b4b⟩
    have b14b := b14.trans (b4b.mono b14.size)
    go_wp2_with fail
    refine (toTaskS_any _ _ _ _ (HR.out.below b14b) hn').mono ?_
    rintro e w5 ⟨rfl, r5, b5⟩
    have R5 := Lib.hid r5
    clear r5
    have b15 := b14b.trans (b5.mono b14b.size)
    go_wp2_with fail
    refine (eqTaskS_same _ _ _ _ _ _ ((R4.out.below b4b).below b5) R5.out hn').mono ?_
    rintro e w6 ⟨rfl, b6⟩
    go_wp2
    go_ret
    exact ⟨rfl, b15.trans (b6.mono b15.size)⟩
  · have hn' : 1048576 < ts.length := by omega
    go_enter Try.func11, Try.ntmps11
    go_wp2_with (go_at_call 27; refine (szTaskS_big _ _ _ _ hn' hm).mono ?_; rintro e w' ⟨rfl, rfl⟩)
    go_ret
    exact ⟨rfl, Below.refl _ _⟩
end Go.Proofs.Ytcpgpioophlaoaa
