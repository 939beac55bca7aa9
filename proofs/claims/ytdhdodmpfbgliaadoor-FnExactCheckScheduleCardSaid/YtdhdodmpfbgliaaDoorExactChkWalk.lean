/- The walk of laws.FnExactCheckSchedule, for whatever program keeps Impl9: for every set, jobs and schedule (slices of whatever length, nil too, of whatever values). No other condition. -/
import Derived.Test.YtdhdodmpfbgliaaDoorChkCon
import Derived.Test.YtdhdodmpfbgliaaDoorCopy
import Derived.Test.YtdhdodmpfbgliaaDoorCopyJ
import Derived.Test.YtdhdodmpfbgliaaDoorCopyI
import Derived.Test.YtdhdodmpfbgliaaDoorMarkI
namespace Go.Proofs.YtdhdodmpfbgliaaDoor
open Go.RowKit Go.Deep

set_option maxRecDepth 100000 in
set_option maxHeartbeats 4000000 in
/-- laws.FnExactCheckSchedule. -/
theorem exactCheckSchedule_walk {G : World → Prop} (I9 : Impl9 G) (a ja ra : Option Addr) (cap jcap rcap n : Nat) (ts : List T3) (js : List J4) (r : Nat → Int) (w : World) (hG : G w) (hr : Row w a ts) (hj : RowJ w ja js) (hi : IntF w ra n r) (hm : ts.length ≤ maxLen) (hjm : js.length ≤ maxLen) :
    Calls Tryd.prog 7 #[.slice a ts.length cap, .slice ja js.length jcap, .slice ra n rcap] w fun e w' =>
      e = .returned (.bool true) ∧ Below w.heap.size w w' := by
  have HR := Lib.hid hr
  have HJ := Lib.hid hj
  have HN := Lib.hid hi
  have HI := Lib.hid I9
  clear hr hj hi I9
  by_cases hln : 1048576 < n
  · have hln' : (1048576 : Int) < n := by omega
    go_enter Tryd.func7, Tryd.ntmps7
    go_wp2
    go_ret
    exact ⟨rfl, Below.refl _ _⟩
  have hln' : ¬ (1048576 : Int) < n := by omega
  have hin : n ≤ 1099511627776 := by omega
  have hin2 : n ≤ 1048576 := by omega
  by_cases hn : ts.length ≤ 1048576
  · have hn' : ts.length ≤ 1099511627776 := by omega
    have h' : ¬ (1048576 - (ts.length : Int) < 0) := by omega
    obtain ⟨L, hL⟩ : ∃ L : Nat, (1048576 : Int) - (ts.length : Int) = (L : Int) := ⟨1048576 - ts.length, by omega⟩
    have hL2 : L ≤ 1048576 := by omega
    by_cases hjn : js.length ≤ L
    · have hjn' : js.length ≤ 1099511627776 := by omega
      have h2 : ¬ ((L : Int) - (js.length : Int) < 0) := by omega
      obtain ⟨c, hc⟩ : ∃ c, c = (ck9 ts js n r).1 := ⟨_, rfl⟩
      obtain ⟨t, ht⟩ : ∃ t, t = (ck9 ts js n r).2 := ⟨_, rfl⟩
      have HC := Lib.hid hc
      have HT := Lib.hid ht
      clear hc ht
      go_enter Tryd.func7, Tryd.ntmps7
      go_wp2_with fail
      refine (szTaskS_small _ _ _ _ hn).mono ?_
      rintro e w' ⟨rfl, rfl⟩
      rw [hL]
      clear h' hL
      go_wp2_with fail
      refine (szJobS_small _ _ _ L _ hjn hL2).mono ?_
      rintro e w' ⟨rfl, rfl⟩
      go_wp2_with fail
      refine (toTaskS_any _ _ _ _ HR.out hn').mono ?_
      rintro e w1 ⟨rfl, r1, b1⟩
      have R1 := Lib.hid r1
      clear r1
      go_wp2_with fail
      refine (toJobS_any _ _ _ _ (HJ.out.below b1) hjn').mono ?_
      rintro e w2 ⟨rfl, o2, b2⟩
      have J2 := Lib.hid o2.rowJ
      have R2 := Lib.hid (R1.out.below b2)
      have b12 := b1.trans (b2.mono b1.size)
      clear o2 R1 b1 b2
      go_wp2_with fail
      refine (toIntS_any _ _ n r _ (HN.out.below b12) hin).mono ?_
      rintro e w3 ⟨rfl, o3, b3⟩
      have N3 := Lib.hid o3.intF'
      have R3 := Lib.hid (R2.out.below b3)
      have J3 := Lib.hid (J2.out.below b3)
      have b13 := b12.trans (b3.mono b12.size)
      clear o3 R2 J2 b12 b3
      go_wp2_with fail
      refine (specCheckSchedule_any _ _ _ _ _ _ n ts js r _ R3.out J3.out N3.out hn' hjn' hin).mono ?_
      rintro e w4 ⟨rfl, b4⟩
      rw [← HC.out, ← HT.out]
      have b14 := b13.trans (b4.mono b13.size)
      clear R3 J3 N3 b13 b4
      go_wp2_with fail
      refine (toTaskS_any _ _ _ _ (HR.out.below b14) hn').mono ?_
      rintro e w5 ⟨rfl, r5, b5⟩
      have R5 := Lib.hid r5
      have b15 := b14.trans (b5.mono b14.size)
      clear r5 b14 b5
      go_wp2_with fail
      refine (toJobS_any _ _ _ _ (HJ.out.below b15) hjn').mono ?_
      rintro e w6 ⟨rfl, o6, b6⟩
      have J6 := Lib.hid o6.rowJ
      have R6 := Lib.hid (R5.out.below b6)
      have b16 := b15.trans (b6.mono b15.size)
      clear o6 R5 b15 b6
      go_wp2_with fail
      refine (toIntS_any _ _ n r _ (HN.out.below b16) hin).mono ?_
      rintro e w7 ⟨rfl, o7, b7⟩
      have N7 := Lib.hid o7.intF'
      have R7 := Lib.hid (R6.out.below b7)
      have J7 := Lib.hid (J6.out.below b7)
      have b17 := b16.trans (b7.mono b16.size)
      clear o7 R6 J6 b16 b7
      go_wp2_with fail
      refine (HI.out.check _ _ _ _ _ _ n ts js r _ (HI.out.keep hG b17) R7.out J7.out N7.out hn' hjn' hin).mono ?_
      rintro e w8 ⟨rfl, b8⟩
      rw [← HC.out, ← HT.out]
      have R8 := Lib.hid (R7.out.below b8)
      have J8 := Lib.hid (J7.out.below b8)
      have N8 := Lib.hid (N7.out.below b8)
      have b18 := b17.trans (b8.mono b17.size)
      clear R7 J7 N7 b17 b8
      go_wp2_with fail
      refine (toTaskS_any _ _ _ _ (HR.out.below b18) hn').mono ?_
      rintro e w9 ⟨rfl, r9, b9⟩
      have RR := Lib.hid r9
      have R9 := Lib.hid (R8.out.below b9)
      have J9 := Lib.hid (J8.out.below b9)
      have N9 := Lib.hid (N8.out.below b9)
      have b19 := b18.trans (b9.mono b18.size)
      clear r9 R8 J8 N8 b18 b9
      go_wp2_with fail
      refine (eqTaskS_same _ _ _ _ ts _ R9.out RR.out hn').mono ?_
      rintro e w10 ⟨rfl, b10⟩
      have J10 := Lib.hid (J9.out.below b10)
      have N10 := Lib.hid (N9.out.below b10)
      have b110 := b19.trans (b10.mono b19.size)
      clear R9 RR J9 N9 b19 b10
      go_wp2_with fail
      refine (toJobS_any _ _ _ _ (HJ.out.below b110) hjn').mono ?_
      rintro e w11 ⟨rfl, o11, b11⟩
      have JJ := Lib.hid o11.rowJ
      have J11 := Lib.hid (J10.out.below b11)
      have N11 := Lib.hid (N10.out.below b11)
      have b111 := b110.trans (b11.mono b110.size)
      clear o11 J10 N10 b110 b11
      go_wp2_with fail
      refine (eqJobS_same _ _ _ _ js _ J11.out JJ.out hjn').mono ?_
      rintro e w12 ⟨rfl, b12⟩
      have N12 := Lib.hid (N11.out.below b12)
      have b112 := b111.trans (b12.mono b111.size)
      clear J11 JJ N11 b111 b12
      go_wp2_with fail
      refine (toIntS_any _ _ n r _ (HN.out.below b112) hin).mono ?_
      rintro e w13 ⟨rfl, o13, b13⟩
      have NN := Lib.hid o13.intF'
      have N13 := Lib.hid (N12.out.below b13)
      have b113 := b112.trans (b13.mono b112.size)
      clear o13 N12 b112 b13
      go_wp2_with fail
      refine (eqIntS_same _ _ _ _ n r _ N13.out NN.out hin2).mono ?_
      rintro e w14 ⟨rfl, m, rfl⟩
      go_wp2
      go_ret
      exact ⟨rfl, below_drewN' b113 _⟩
    · have hjn' : L < js.length := by omega
      go_enter Tryd.func7, Tryd.ntmps7
      go_wp2_with fail
      refine (szTaskS_small _ _ _ _ hn).mono ?_
      rintro e w' ⟨rfl, rfl⟩
      rw [hL]
      clear h' hL
      go_wp2_with fail
      refine (szJobS_big _ _ _ L _ hjn' hjm hL2).mono ?_
      rintro e w' ⟨rfl, rfl⟩
      go_wp2
      go_ret
      exact ⟨rfl, Below.refl _ _⟩
  · have hn' : 1048576 < ts.length := by omega
    go_enter Tryd.func7, Tryd.ntmps7
    go_wp2_with (go_at_call 19; refine (szTaskS_big _ _ _ _ hn' hm).mono ?_; rintro e w' ⟨rfl, rfl⟩)
    go_ret
    exact ⟨rfl, Below.refl _ _⟩

end Go.Proofs.YtdhdodmpfbgliaaDoor
