/- The walk of laws.FnWcetTight, for whatever code. Conditions: the argument is a slice of bytes; Impl8. -/
import Derived.Test.YtlcdmjcikbgnpaaPrgCon
import Derived.Test.YtlcdmjcikbgnpaaSame
import Derived.BigQuiet
namespace Go.Proofs.Ytlcdmjcikbgnpaa
open Go.RowKit Go.Deep

set_option maxRecDepth 100000 in
set_option maxHeartbeats 4000000 in
/-- laws.FnWcetTight. -/
theorem fnWcetTight_walk (I8 : Impl8) (a : Option Addr) (len cap : Nat) (w : World) (hb : Byts w a len cap) :
    Calls Try.prog 5 #[.slice a len cap] w fun e w' => e = .returned (.bool true) ∧ Below w.heap.size w w' := by
  have hm : cap ≤ maxLen := hb.2.2
  have hlc : len ≤ cap := hb.2.1
  unfold maxLen at hm
  have HB := Lib.hid hb
  clear hb
  by_cases hl : 1048576 < len
  · have hl' : (1048576 : Int) < len := by omega
    go_enter Try.func5, Try.ntmps5
    go_wp2
    go_ret
    exact ⟨rfl, Below.refl _ _⟩
  have hl' : ¬ (1048576 : Int) < len := by omega
  go_enter Try.func5, Try.ntmps5
  go_wp2_with fail
  refine (drawWorstChoices_any _ _ _ _ HB.out).mono ?_
  rintro e w1 ⟨s, ps, rfl, hn, ho1, b1⟩
  obtain ⟨pa, pc, rfl, hr1, -, -⟩ := ho1.row
  have R1 := Lib.hid hr1
  obtain ⟨C, hC⟩ : ∃ C, C = wh8 ps := ⟨_, rfl⟩
  have hcl : C.length ≤ 600 := by rw [hC]; exact wh8_len ps
  have HC := Lib.hid hC
  have HI := Lib.hid I8
  clear hr1 ho1 I8 hC HB
  go_wp2_with fail
  refine (HI.out.worst _ _ ps _ R1.out (by omega)).mono ?_
  rintro e w2 ⟨v2, rfl, o2, b2⟩
  rw [← HC.out] at o2
  obtain ⟨ca, cc, rfl, hi2, hcc, -⟩ := o2.intF
  have B2 := b1.trans (b2.mono b1.size)
  have R2 := Lib.hid (R1.out.below b2)
  have C2 := Lib.hid (show ChF w2 (.slice ca C.length cc) C from ⟨ca, cc, rfl, hcc, hi2⟩)
  have D2 := Lib.hid hi2
  clear b1 b2 R1 o2 hi2 hcc
  go_wp2_with fail
  refine (specWorstChoices_any _ _ ps _ R2.out (by omega)).mono ?_
  rintro e w3 ⟨v3, rfl, o3, b3⟩
  rw [← HC.out] at o3
  obtain ⟨da, dc, rfl, hi3, hdc, -⟩ := o3.1.intF
  have B3 := B2.trans (b3.mono B2.size)
  have R3 := Lib.hid (R2.out.below b3)
  have C3 := Lib.hid (C2.out.below b3)
  have D3 := Lib.hid (D2.out.below b3)
  have E3 := Lib.hid hi3
  clear b3 R2 C2 D2 B2 o3 hi3 hdc
  go_wp2_with fail
  refine (sameInts_same _ _ _ _ _ _ _ D3.out E3.out (by omega)).mono ?_
  rintro e w4 ⟨rfl, m4, hw4⟩
  have b4 : Below w3.heap.size w3 w4 := by rw [hw4]; exact below_drewN' (Below.refl _ _) _
  have B4 := B3.trans (b4.mono B3.size)
  have R4 := Lib.hid (R3.out.below b4)
  have C4 := Lib.hid (C3.out.below b4)
  clear b4 R3 C3 D3 E3 B3 hw4
  go_wp2_with fail
  refine (specProgramValid_any _ _ ps _ R4.out (by omega)).mono ?_
  rintro e w5 ⟨rfl, b5⟩
  have B5 := B4.trans (b5.mono B4.size)
  have R5 := Lib.hid (R4.out.below b5)
  have C5 := Lib.hid (C4.out.below b5)
  clear b5 R4 C4 B4
  cases hv : pvB ps with
  | false =>
    obtain rfl : C = [] := by rw [HC.out]; exact if_neg (by rw [hv]; simp)
    simp only [List.length_nil]
    clear hv HC
    go_wp2_with fail
    refine (alive_any _).mono ?_
    rintro e w7 ⟨rfl, b7⟩
    have B7 := B5.trans (b7.mono B5.size)
    clear b7 B5
    go_wp2
    go_ret
    exact ⟨rfl, B7⟩
  | true =>
    have hx := ex8_worst hv
    rw [← HC.out] at hx
    obtain ⟨L, hL⟩ : ∃ L, L = bd8 false ps := ⟨_, rfl⟩
    obtain ⟨U, hU⟩ : ∃ U, U = bd8 true ps := ⟨_, rfl⟩
    rw [← hU] at hx
    have HX := Lib.hid hx.symm
    have HL := Lib.hid hL
    have HU := Lib.hid hU
    have hcl : C.length ≤ 600 := by rw [HC.out]; exact wh8_len ps
    clear hv hL hU HC hx
    go_wp2_with fail
    refine (HI.out.run _ _ ps _ C _ R5.out C5.out (by omega) (by omega)).mono ?_
    rintro e w6 ⟨rfl, b6⟩
    rw [← HX.out]
    have B6 := B5.trans (b6.mono B5.size)
    have R6 := Lib.hid (R5.out.below b6)
    have C6 := Lib.hid (C5.out.below b6)
    clear b6 R5 C5 B5
    go_wp2_with fail
    refine (HI.out.wcet _ _ ps _ R6.out (by omega)).mono ?_
    rintro e w7 ⟨rfl, b7⟩
    rw [← HU.out]
    have B7 := B6.trans (b7.mono B6.size)
    have R7 := Lib.hid (R6.out.below b7)
    have C7 := Lib.hid (C6.out.below b7)
    clear b7 R6 C6 B6
    go_wp2_with fail
    refine (HI.out.wcet _ _ ps _ R7.out (by omega)).mono ?_
    rintro e w8 ⟨rfl, b8⟩
    rw [← HU.out]
    have B8 := B7.trans (b8.mono B7.size)
    have R8 := Lib.hid (R7.out.below b8)
    have C8 := Lib.hid (C7.out.below b8)
    clear b8 R7 C7 B7
    go_wp2_with fail
    refine (specWcet_any _ _ ps _ R8.out (by omega)).mono ?_
    rintro e w9 ⟨rfl, b9⟩
    rw [← HU.out]
    have B9 := B8.trans (b9.mono B8.size)
    have R9 := Lib.hid (R8.out.below b9)
    have C9 := Lib.hid (C8.out.below b9)
    clear b9 R8 C8 B8
    go_wp2_with fail
    refine (HI.out.bcet _ _ ps _ R9.out (by omega)).mono ?_
    rintro e w10 ⟨rfl, b10⟩
    rw [← HL.out]
    have B10 := B9.trans (b10.mono B9.size)
    have R10 := Lib.hid (R9.out.below b10)
    have C10 := Lib.hid (C9.out.below b10)
    clear b10 R9 C9 B9
    go_wp2_with fail
    refine (specBcet_any _ _ ps _ R10.out (by omega)).mono ?_
    rintro e w11 ⟨rfl, b11⟩
    rw [← HL.out]
    have B11 := B10.trans (b11.mono B10.size)
    have R11 := Lib.hid (R10.out.below b11)
    have C11 := Lib.hid (C10.out.below b11)
    clear b11 R10 C10 B10
    go_wp2
    go_ret
    exact ⟨rfl, B11⟩

end Go.Proofs.Ytlcdmjcikbgnpaa
