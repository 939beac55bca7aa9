/- The walk of laws.FnWcet, for whatever code. Conditions: the argument is a slice of bytes; Impl8. -/
import Derived.Test.YtlcdmjcikbgnpaaPrgCon
import Derived.BigQuiet
namespace Go.Proofs.Ytlcdmjcikbgnpaa
open Go.RowKit Go.Deep

set_option maxRecDepth 100000 in
set_option maxHeartbeats 4000000 in
/-- laws.FnWcet. -/
theorem fnWcet_walk (I8 : Impl8) (a : Option Addr) (len cap : Nat) (w : World) (hb : Byts w a len cap) :
    Calls Try.prog 4 #[.slice a len cap] w fun e w' => e = .returned (.bool true) ∧ Below w.heap.size w w' := by
  have hm : cap ≤ maxLen := hb.2.2
  have hlc : len ≤ cap := hb.2.1
  unfold maxLen at hm
  have HB := Lib.hid hb
  clear hb
  by_cases hl : 1048576 < len
  · have hl' : (1048576 : Int) < len := by omega
    go_enter Try.func4, Try.ntmps4
    go_wp2
    go_ret
    exact ⟨rfl, Below.refl _ _⟩
  have hl' : ¬ (1048576 : Int) < len := by omega
  go_enter Try.func4, Try.ntmps4
  go_wp2_with fail
  refine (drawRunProgram_any _ _ _ _ HB.out).mono ?_
  rintro e w1 ⟨s, v, ps, cs, rfl, hn, hcl, -, ho1, hc1, b1⟩
  obtain ⟨pa, pc, rfl, hr1, -, -⟩ := ho1.row
  have R1 := Lib.hid hr1
  have C1 := Lib.hid hc1.ch
  obtain ⟨n, hN⟩ : ∃ n, n = ex8 ps cs := ⟨_, rfl⟩
  have HN := Lib.hid hN
  have HI := Lib.hid I8
  clear hr1 ho1 hc1 I8 hN HB
  go_wp2_with fail
  refine (HI.out.run _ _ ps _ cs _ R1.out C1.out (by omega) (by omega)).mono ?_
  rintro e w2 ⟨rfl, b2⟩
  rw [← HN.out]
  have B2 := b1.trans (b2.mono b1.size)
  have R2 := Lib.hid (R1.out.below b2)
  have C2 := Lib.hid (C1.out.below b2)
  clear b1 b2 R1 C1
  go_wp2_with fail
  refine (specRunProgram_any _ _ ps _ cs _ R2.out C2.out (by omega)).mono ?_
  rintro e w3 ⟨rfl, b3⟩
  rw [← HN.out]
  have B3 := B2.trans (b3.mono B2.size)
  have R3 := Lib.hid (R2.out.below b3)
  clear b3 R2 C2 B2
  go_wp2_with fail
  refine (specProgramValid_any _ _ ps _ R3.out (by omega)).mono ?_
  rintro e w4 ⟨rfl, b4⟩
  have B4 := B3.trans (b4.mono B3.size)
  have R4 := Lib.hid (R3.out.below b4)
  clear b4 R3 B3
  cases hv : pvB ps with
  | false =>
    have hW : bd8 true ps = -1 := if_neg (by rw [hv]; simp)
    have hB : bd8 false ps = -1 := if_neg (by rw [hv]; simp)
    obtain rfl : n = -1 := by rw [HN.out]; exact if_neg (by rw [hv]; simp)
    have HW := Lib.hid hW
    have HBc := Lib.hid hB
    clear hv hW hB HN
    go_wp2_with fail
    refine (HI.out.wcet _ _ ps _ R4.out (by omega)).mono ?_
    rintro e w5 ⟨rfl, b5⟩
    rw [HW.out]
    have B5 := B4.trans (b5.mono B4.size)
    have R5 := Lib.hid (R4.out.below b5)
    clear b5 R4 B4
    go_wp2_with fail
    refine (HI.out.bcet _ _ ps _ R5.out (by omega)).mono ?_
    rintro e w6 ⟨rfl, b6⟩
    rw [HBc.out]
    have B6 := B5.trans (b6.mono B5.size)
    clear b6 R5 B5
    go_wp2_with fail
    refine (alive_any _).mono ?_
    rintro e w7 ⟨rfl, b7⟩
    have B7 := B6.trans (b7.mono B6.size)
    clear b7 B6
    go_wp2
    go_ret
    exact ⟨rfl, B7⟩
  | true =>
    obtain ⟨q1, q2, q3, q4⟩ := ex8_le hv cs
    rw [← HN.out] at q1 q2
    obtain ⟨L, hL⟩ : ∃ L, L = bd8 false ps := ⟨_, rfl⟩
    obtain ⟨U, hU⟩ : ∃ U, U = bd8 true ps := ⟨_, rfl⟩
    rw [← hL] at q1 q3
    rw [← hU] at q2 q4
    have HL := Lib.hid hL
    have HU := Lib.hid hU
    clear hv hL hU HN
    go_wp2_with fail
    refine (HI.out.bcet _ _ ps _ R4.out (by omega)).mono ?_
    rintro e w5 ⟨rfl, b5⟩
    rw [← HL.out]
    have B5 := B4.trans (b5.mono B4.size)
    have R5 := Lib.hid (R4.out.below b5)
    clear b5 R4 B4
    go_wp2_with fail
    refine (HI.out.wcet _ _ ps _ R5.out (by omega)).mono ?_
    rintro e w6 ⟨rfl, b6⟩
    rw [← HU.out]
    have B6 := B5.trans (b6.mono B5.size)
    have R6 := Lib.hid (R5.out.below b6)
    clear b6 R5 B5
    go_wp2_with fail
    refine (HI.out.bcet _ _ ps _ R6.out (by omega)).mono ?_
    rintro e w7 ⟨rfl, b7⟩
    rw [← HL.out]
    have B7 := B6.trans (b7.mono B6.size)
    have R7 := Lib.hid (R6.out.below b7)
    clear b7 R6 B6
    go_wp2_with fail
    refine (HI.out.wcet _ _ ps _ R7.out (by omega)).mono ?_
    rintro e w8 ⟨rfl, b8⟩
    rw [← HU.out]
    have B8 := B7.trans (b8.mono B7.size)
    have R8 := Lib.hid (R7.out.below b8)
    clear b8 R7 B7
    go_wp2
    go_ret
    exact ⟨rfl, B8⟩

end Go.Proofs.Ytlcdmjcikbgnpaa
