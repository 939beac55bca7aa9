/- The walk of laws.FnCheckLength, for whatever program keeps Impl9. Condition: the argument is a slice of bytes. -/
import Derived.Test.YtdhdodmpfbgliaaDoorDrawChk
import Derived.Test.YtdhdodmpfbgliaaDoorChkCon
namespace Go.Proofs.YtdhdodmpfbgliaaDoor
open Go.RowKit Go.Deep

theorem ck9_illegal {ts : List T3} {js : List J4} {n : Nat} {r : Nat → Int} (h : legB ts js = false) : ck9 ts js n r = (1, 0) := by
  unfold ck9
  rw [h]
  rfl

theorem ck9_short {ts : List T3} {js : List J4} {n : Nat} {r : Nat → Int} (h : legB ts js = true) (hn : n ≠ 120) : ck9 ts js n r = (2, 0) := by
  unfold ck9
  rw [if_pos h, if_neg hn]

set_option maxRecDepth 100000 in
set_option maxHeartbeats 8000000 in
/-- laws.FnCheckLength. -/
theorem fnCheckLength_walk {G : World → Prop} (I9 : Impl9 G) (a : Option Addr) (len cap : Nat) (w : World) (hG : G w) (hb : Byts w a len cap) :
    Calls Tryd.prog 6 #[.slice a len cap] w fun e w' => e = .returned (.bool true) ∧ Below w.heap.size w w' := by
  have hm : cap ≤ maxLen := hb.2.2
  have hlc : len ≤ cap := hb.2.1
  unfold maxLen at hm
  have HB := Lib.hid hb
  clear hb
  by_cases hl : 1048576 < len
  · have hl' : (1048576 : Int) < len := by omega
    go_enter Tryd.func6, Tryd.ntmps6
    go_wp2
    go_ret
    exact ⟨rfl, Below.refl _ _⟩
  have hl' : ¬ (1048576 : Int) < len := by omega
  have HI := Lib.hid I9
  have HG := Lib.hid hG
  clear I9 hG
  go_enter Tryd.func6, Tryd.ntmps6
  go_wp2_with fail
  refine (drawCheckSchedule_any _ _ _ _ HB.out).mono ?_
  rintro e w1 ⟨g, cap1, jcap, rcap, n, ja, ra, ts, js, r, rfl, hn, hjn, hrn, hr1, hoj, hor, b1⟩
  have R1 := Lib.hid hr1
  have J1 := Lib.hid hoj.rowJ
  have N1 := Lib.hid hor
  have p := ck9_bd ts js n r
  obtain ⟨c, hc⟩ : ∃ c, c = (ck9 ts js n r).1 := ⟨_, rfl⟩
  obtain ⟨t, ht⟩ : ∃ t, t = (ck9 ts js n r).2 := ⟨_, rfl⟩
  rw [← hc, ← ht] at p
  have P := Lib.hid p
  clear p
  have HC := Lib.hid hc
  have HT := Lib.hid ht
  clear hr1 hoj hor HB hc ht
  go_wp2_with fail
  refine (HI.out.check _ _ _ _ _ _ n ts js r _ (HI.out.keep HG.out b1) R1.out J1.out N1.out.intF' (by omega) (by omega) (by omega)).mono ?_
  rintro e w2 ⟨rfl, b2⟩
  rw [← HC.out, ← HT.out]
  have B2 := b1.trans (b2.mono b1.size)
  have R2 := Lib.hid (R1.out.below b2)
  have J2 := Lib.hid (J1.out.below b2)
  have N2 := Lib.hid (N1.out.below b2)
  clear b1 b2 R1 J1 N1
  go_wp2_with fail
  refine (specCheckSchedule_any _ _ _ _ _ _ n ts js r _ R2.out J2.out N2.out.intF' (by omega) (by omega) (by omega)).mono ?_
  rintro e w3 ⟨rfl, b3⟩
  rw [← HC.out, ← HT.out]
  have B3 := B2.trans (b3.mono B2.size)
  have R3 := Lib.hid (R2.out.below b3)
  have J3 := Lib.hid (J2.out.below b3)
  have N3 := Lib.hid (N2.out.below b3)
  clear B2 b3 R2 J2 N2
  go_wp2_with fail
  refine (specJobsLegal_any _ _ _ _ ts js _ R3.out J3.out (by omega) (by omega)).mono ?_
  rintro e w4 ⟨rfl, b4⟩
  have B4 := B3.trans (b4.mono B3.size)
  have R4 := Lib.hid (R3.out.below b4)
  have J4' := Lib.hid (J3.out.below b4)
  have N4 := Lib.hid (N3.out.below b4)
  clear B3 b4 R3 J3 N3
  cases hlg : legB ts js with
  | false =>
    have hc := HC.out
    rw [ck9_illegal hlg] at hc
    subst hc
    clear hlg HC HT P
    go_wp2_with fail
    refine (alive_any _).mono ?_
    rintro e w5 ⟨rfl, b5⟩
    go_wp2
    go_ret
    exact ⟨rfl, B4.trans (b5.mono B4.size)⟩
  | true =>
    by_cases h9 : n = 120
    · subst h9
      obtain ⟨gr, rc', e8, -, -, hrc, -⟩ := N4.out.at (by omega)
      simp only [Value.slice.injEq, true_and] at e8
      obtain ⟨rfl, rfl⟩ := e8
      have HS := Lib.hid (ck9_short (n := 119) (r := r) hlg (by omega))
      have N5 := Lib.hid (ownI_take N4.out (show 119 ≤ 120 by omega)).intF'
      have h119 : 119 ≤ rcap := by omega
      clear N4 hlg HC HT P
      go_wp2_with fail
      refine (HI.out.check _ _ _ _ _ _ 119 ts js r _ (HI.out.keep HG.out B4) R4.out J4'.out N5.out (by omega) (by omega) (by omega)).mono ?_
      rintro e w5 ⟨rfl, b5⟩
      rw [HS.out]
      go_wp2
      go_ret
      exact ⟨rfl, B4.trans (b5.mono B4.size)⟩
    · have hc := HC.out
      rw [ck9_short hlg h9] at hc
      subst hc
      have h9' : ¬ (n : Int) = 120 := by omega
      clear hlg HC HT P
      go_wp2
      go_ret
      exact ⟨rfl, B4⟩

end Go.Proofs.YtdhdodmpfbgliaaDoor
