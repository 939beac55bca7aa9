/- laws.FnExactBlocking: for every task set and every slice of sections the program's Blocking answers as the reference does and changes nothing. Condition: the arguments hold what is said. -/
import Derived.Test.YtfacohicfcdamaaCopyC
import Derived.Test.YtfacohicfcdamaaSecImpl2
import Derived.Test.YtfacohicfcdamaaDrawSec
namespace Go.Proofs.Ytfacohicfcdamaa
open Go.RowKit Go.Deep

set_option maxRecDepth 100000 in
set_option maxHeartbeats 4000000 in
theorem fnExactBlocking_walk (a : Option Addr) (cap : Nat) (ts : List T3) (sa : Option Addr) (scap : Nat) (ss : List T3) (t : Int) (w : World) (hr : Row w a ts) (hm : ts.length ≤ maxLen) (hs : Row w sa ss) (hsm : ss.length ≤ maxLen) (hb : StB ss) (_ : -9223372036854775808 ≤ t ∧ t ≤ 9223372036854775807) :
    Calls Try.prog 5 #[.slice a ts.length cap, .slice sa ss.length scap, .int .i64 t] w fun e w' => e = .returned (.bool true) ∧ Below w.heap.size w w' := by
  have HR := Lib.hid hr
  have HS := Lib.hid hs
  have HSB := Lib.hid hb
  clear hr hs hb
  by_cases hn : ts.length ≤ 1048576
  · have hn' : ts.length ≤ 1099511627776 := by omega
    have h' : ¬ (1048576 - (ts.length : Int) < 0) := by omega
    have h0 : (0 : Int) ≤ 1048576 - (ts.length : Int) := by omega
    obtain ⟨room, hroom⟩ : ∃ room : Nat, (1048576 : Int) - (ts.length : Int) = (room : Int) := ⟨1048576 - ts.length, by omega⟩
    have hrm : room ≤ 1048576 := by omega
    by_cases hk : ss.length ≤ room
    · have hk' : ss.length ≤ 1099511627776 := by omega
      have h2 : ¬ ((room : Int) - (ss.length : Int) < 0) := by omega
      go_enter Try.func5, Try.ntmps5
      go_wp2_with fail
      refine (szTaskS_small _ _ _ _ hn).mono ?_
      rintro e w' ⟨rfl, rfl⟩
      rw [hroom]
      clear hroom h' h0
      have h' : ¬ (room : Int) < 0 := by omega
      go_wp2_with fail
      refine (szSectionS_small _ _ _ _ _ hk hrm).mono ?_
      rintro e w' ⟨rfl, rfl⟩
      go_wp2_with fail
      refine (toTaskS_any _ _ _ _ HR.out hn').mono ?_
      rintro e w1 ⟨rfl, r1, b1⟩
      have R1 := Lib.hid r1
      clear r1
      go_wp2_with fail
      refine (toSectionS_any _ _ _ _ (HS.out.below b1) hk').mono ?_
      rintro e w2 ⟨rfl, r2, b2⟩
      have R2 := Lib.hid r2
      clear r2
      have b12 := b1.trans (b2.mono b1.size)
      go_wp2_with fail
      refine (specBlocking_any _ _ _ _ t ts ss _ (R1.out.below b2) R2.out hn' hk').mono ?_
      rintro e w3 ⟨rfl, b3⟩
      have b13 := b12.trans (b3.mono b12.size)
      go_wp2_with fail
      refine (toTaskS_any _ _ _ _ (HR.out.below b13) hn').mono ?_
      rintro e w4 ⟨rfl, r4, b4⟩
      have R4 := Lib.hid r4
      clear r4
      have b14 := b13.trans (b4.mono b13.size)
      go_wp2_with fail
      refine (toSectionS_any _ _ _ _ (HS.out.below b14) hk').mono ?_
      rintro e w5 ⟨rfl, r5, b5⟩
      have R5 := Lib.hid r5
      clear r5
      have b15 := b14.trans (b5.mono b14.size)
      go_wp2_with fail
      refine (blocking_any _ _ _ _ t ts ss _ (R4.out.below b5) R5.out HSB.out hn' hk').mono ?_
      rintro e w6 ⟨rfl, b6⟩
      have b16 := b15.trans (b6.mono b15.size)
      have R46 := Lib.hid ((R4.out.below b5).below b6)
      have R56 := Lib.hid (R5.out.below b6)
      have HB := Lib.hid b16
      clear R1 R2 R4 R5 b1 b2 b3 b4 b5 b6 b12 b13 b14 b15 b16
      obtain ⟨ok, hok⟩ : ∃ ok, ok = blV ts ss t := ⟨_, rfl⟩
      rw [← hok]
      have hbb : (ok != ok) = false := by simp
      clear hok
      go_wp2_with fail
      refine (toTaskS_any _ _ _ _ (HR.out.below HB.out) hn').mono ?_
      rintro e w7 ⟨rfl, r7, b7⟩
      have R7 := Lib.hid r7
      have HB7 := Lib.hid (HB.out.trans (b7.mono HB.out.size))
      clear r7
      go_wp2_with fail
      refine (eqTaskS_same _ _ _ _ _ _ (R46.out.below b7) R7.out hn').mono ?_
      rintro e w8 ⟨rfl, b8⟩
      have HB8 := Lib.hid (HB7.out.trans (b8.mono HB7.out.size))
      have R58 := Lib.hid ((R56.out.below b7).below b8)
      clear R7 b7 b8 R56 R46
      go_wp2_with fail
      refine (toSectionS_any _ _ _ _ (HS.out.below HB8.out) hk').mono ?_
      rintro e w9 ⟨rfl, r9, b9⟩
      have R9 := Lib.hid r9
      have HB9 := Lib.hid (HB8.out.trans (b9.mono HB8.out.size))
      clear r9
      go_wp2_with fail
      refine (eqSectionS_same _ _ _ _ _ _ (R58.out.below b9) R9.out hk').mono ?_
      rintro e w10 ⟨rfl, b10⟩
      go_wp2
      go_ret
      exact ⟨rfl, HB9.out.trans (b10.mono HB9.out.size)⟩
    · go_enter Try.func5, Try.ntmps5
      go_wp2_with fail
      refine (szTaskS_small _ _ _ _ hn).mono ?_
      rintro e w' ⟨rfl, rfl⟩
      rw [hroom]
      clear hroom h' h0
      have h' : ¬ (room : Int) < 0 := by omega
      go_wp2_with fail
      refine (szSectionS_big _ _ _ _ _ (by omega) hrm hsm).mono ?_
      rintro e w' ⟨rfl, rfl⟩
      go_wp2
      go_ret
      exact ⟨rfl, Below.refl _ _⟩
  · have hn' : 1048576 < ts.length := by omega
    go_enter Try.func5, Try.ntmps5
    go_wp2_with (go_at_call 11; refine (szTaskS_big _ _ _ _ hn' hm).mono ?_; rintro e w' ⟨rfl, rfl⟩)
    go_ret
    exact ⟨rfl, Below.refl _ _⟩

end Go.Proofs.Ytfacohicfcdamaa
