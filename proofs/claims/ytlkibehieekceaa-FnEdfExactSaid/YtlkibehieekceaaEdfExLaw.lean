/- The walk of laws.FnEdfExact, for whatever code. Condition: the argument is a slice of bytes. -/
import Derived.Test.YtlkibehieekceaaDemImpl
import Derived.Test.YtlkibehieekceaaDrawSet
import Derived.Test.YtlkibehieekceaaSyncImpl
import Derived.Test.YtlkibehieekceaaRunImpl
import Derived.Test.YtlkibehieekceaaMissImpl
import Derived.Test.YtlkibehieekceaaSortImpl
import Derived.Test.YtlkibehieekceaaFixRunImpl
import Derived.Test.YtlkibehieekceaaFixTh
import Derived.StillTailTactics
namespace Go.Proofs.Ytlkibehieekceaa
open Go.RowKit Go.Deep

set_option maxRecDepth 100000 in
set_option maxHeartbeats 8000000 in
/-- laws.FnEdfExact. -/
theorem fnEdfExact_walk (a : Option Addr) (len cap : Nat) (w : World) (hb : Byts w a len cap) :
    Calls Try.prog 8 #[.slice a len cap] w fun e w' => e = .returned (.bool true) ∧ Below w.heap.size w w' := by
  have hm : cap ≤ maxLen := hb.2.2
  have hlc : len ≤ cap := hb.2.1
  unfold maxLen at hm
  have HB := Lib.hid hb
  clear hb
  by_cases hl : 1048576 < len
  · have hl' : (1048576 : Int) < len := by omega
    go_enter Try.func8, Try.ntmps8
    go_wp2
    go_ret
    exact ⟨rfl, Below.refl _ _⟩
  have hl' : ¬ (1048576 : Int) < len := by omega
  go_enter Try.func8, Try.ntmps8
  go_wp2_with fail
  refine (drawFirstOverload_any _ _ _ _ HB.out).mono ?_
  rintro e w1 ⟨a1, cap1, ts, rfl, hn, hlc1, hcm1, hr1, b1⟩
  have R1 := Lib.hid hr1
  clear hr1 HB
  go_wp2_with fail
  refine (firstOverload_any _ _ _ _ R1.out (by omega)).mono ?_
  rintro e w2 ⟨rfl, b2⟩
  have B2 := b1.trans (b2.mono b1.size)
  have R2 := Lib.hid (R1.out.below b2)
  clear b1 b2 R1
  go_wp2_with fail
  refine (specFirstOverload_any _ _ _ _ R2.out (by omega)).mono ?_
  rintro e w3 ⟨rfl, b3⟩
  have B3 := B2.trans (b3.mono B2.size)
  have R3 := Lib.hid (R2.out.below b3)
  clear b3 R2 B2
  have hc : fo ts = -1 ∨ ∃ D : Nat, fo ts = (D : Int) ∧ 1 ≤ D ∧ svB ts = true ∧ D < dem ts D := by
    by_cases hv : svB ts = true
    · rcases fo_cases hv with ⟨h, _⟩ | ⟨x, h1, h2, _, h4, _⟩
      · exact .inl h
      · exact .inr ⟨x, h1, h2, hv, h4⟩
    · exact .inl (fo_no (by simpa using hv))
  rcases hc with h1 | ⟨D, h1, h2, hv, h4⟩
  · rw [h1]
    go_wp2_with fail
    refine (alive_any _).mono ?_
    rintro e w4 ⟨rfl, b4⟩
    go_wp2
    go_ret
    exact ⟨rfl, B3.trans (b4.mono B3.size)⟩
  rw [h1]
  have HV := Lib.hid hv
  have H4 := Lib.hid h4
  clear hv h4 h1
  have hD2 : ¬ ((D : Int) < 0) := by omega
  by_cases hD : D ≤ 120
  · have hD1 : ¬ (120 : Int) < D := by omega
    go_wp2_with fail
    refine (synchronous_any _ _ ts (D : Int) _ R3.out (by omega)).mono ?_
    rintro e w4 ⟨v, rfl, hoj, b4⟩
    have hsy : syB ts (D : Int) = sy ts D D := by rw [syB, if_pos ⟨HV.out, by omega, by omega⟩]; simp
    rw [hsy] at hoj
    obtain ⟨js, hjs⟩ : ∃ js, js = sy ts D D := ⟨_, rfl⟩
    rw [← hjs] at hoj
    obtain ⟨ja, jcap, rfl⟩ := hoj.shape
    have HL := Lib.hid (show legB ts js = true by rw [hjs]; exact sy_legal HV.out hD)
    have h60 : js.length ≤ 60 := (legB_iff.1 HL.out).2.1
    have HJS := Lib.hid hjs
    have B4 := B3.trans (b4.mono B3.size)
    have R4 := Lib.hid (R3.out.below b4)
    have RJ4 := Lib.hid hoj.rowJ
    clear hjs hsy hoj b4 R3 B3
    by_cases hfull : js.length = 60
    · have hb : ((js.length : Int) == 60) = true := beq_iff_eq.2 (by omega)
      have HFU := Lib.hid hfull
      clear hfull
      go_wp2_with fail
      refine (alive_any _).mono ?_
      rintro e w5 ⟨rfl, b5⟩
      go_wp2
      go_ret
      exact ⟨rfl, B4.trans (b5.mono B4.size)⟩
    · have hb : ((js.length : Int) == 60) = false := beq_eq_false_iff_ne.2 (by omega)
      have HLT := Lib.hid (show (sy ts D D).length < 60 by rw [← HJS.out]; omega)
      clear hfull
      go_wp2_with fail
      refine (runEdf_any _ _ _ _ ts js _ R4.out RJ4.out (by omega) (by omega)).mono ?_
      rintro e w5 ⟨⟨vr, vf, rfl, o1, o2, -⟩, b5⟩
      obtain ⟨ra5, rc5, rfl⟩ := own_shape o1
      obtain ⟨fa5, fc5, rfl⟩ := own_shape o2
      have e1 : lenR ts js = 120 := by rw [lenR, if_pos HL.out]
      have e2 : lenF ts js = js.length := by rw [lenF, if_pos HL.out]
      rw [e2] at o2
      rw [e1, e2]
      have B5 := B4.trans (b5.mono B4.size)
      have R5 := Lib.hid (R4.out.below b5)
      have RJ5 := Lib.hid (RJ4.out.below b5)
      have O5 := Lib.hid o2.intF'
      clear o1 o2 e1 e2 b5 R4 RJ4 B4
      go_wp2_with fail
      refine (missed_any _ _ _ _ js.length js (finF js) _ ⟨_, _, _, rfl⟩ _ RJ5.out O5.out (by omega) (by omega)).mono ?_
      rintro e w6 ⟨v, rfl, ho, b6⟩
      rw [if_pos rfl] at ho
      obtain ⟨a6, c6, rfl⟩ := own_shape ho
      have p6 : 0 < (lateL js (finF js) js.length).length := by
        have h := sy_some HV.out hD HLT.out H4.out (jdl (sy ts D D))
        rw [← HJS.out] at h
        exact h
      have l6 := lateL_len js (finF js) js.length
      generalize (lateL js (finF js) js.length).length = n6 at p6 l6 ⊢
      have B6 := B5.trans (b6.mono B5.size)
      have R6 := Lib.hid (R5.out.below b6)
      have RJ6 := Lib.hid (RJ5.out.below b6)
      clear ho b6 R5 RJ5 O5 B5
      go_wp2_with fail
      refine (deadlineMonotonic_any _ _ ts _ R6.out (by omega)).mono ?_
      rintro e w7 ⟨⟨v, rfl, hod⟩, b7⟩
      rw [show dmB' ts = dmO ts by rw [dmB', if_pos HV.out]] at hod
      obtain ⟨da, dcap, rfl⟩ := own_shape hod
      have HOR := Lib.hid (dm_ord HV.out)
      have hdl : (dmO ts).length = ts.length := (ordB_iff.1 HOR.out).2.1
      have B7 := B6.trans (b7.mono B6.size)
      have R7 := Lib.hid (R6.out.below b7)
      have RJ7 := Lib.hid (RJ6.out.below b7)
      have I7 := Lib.hid hod.intF'
      have HDL := Lib.hid hdl
      clear hod b7 R6 RJ6 B6 hdl
      go_wp2_with fail
      refine (runFixed_any _ _ _ _ _ _ ts (dmO ts) js _ R7.out I7.out RJ7.out (by omega) (by omega)).mono ?_
      rintro e w8 ⟨⟨vr, vf, rfl, o1, o2, -⟩, b8⟩
      obtain ⟨ra8, rc8, rfl⟩ := own_shape o1
      obtain ⟨fa8, fc8, rfl⟩ := own_shape o2
      have hk : okF ts (dmO ts) js = true := okF_iff.2 ⟨HOR.out, HL.out⟩
      have e1 : lenRF ts (dmO ts) js = 120 := by rw [lenRF, if_pos hk]
      have e2 : lenFF ts (dmO ts) js = js.length := by rw [lenFF, if_pos hk]
      rw [e2] at o2
      rw [e1, e2]
      have B8 := B7.trans (b8.mono B7.size)
      have R8 := Lib.hid (R7.out.below b8)
      have RJ8 := Lib.hid (RJ7.out.below b8)
      have O8 := Lib.hid o2.intF'
      clear o1 o2 e1 e2 b8 R7 RJ7 I7 B7 hk
      go_wp2_with fail
      refine (missed_any _ _ _ _ js.length js (finX (dmO ts) js) _ ⟨_, _, _, rfl⟩ _ RJ8.out O8.out (by omega) (by omega)).mono ?_
      rintro e w9 ⟨v, rfl, ho, b9⟩
      rw [if_pos rfl] at ho
      obtain ⟨a9, c9, rfl⟩ := own_shape ho
      have p9 : 0 < (lateL js (finX (dmO ts) js) js.length).length := by
        have h := sy_some HV.out hD HLT.out H4.out (fun k => rk (dmO ts) (jid (sy ts D D) k))
        rw [← HJS.out] at h
        exact h
      have l9 := lateL_len js (finX (dmO ts) js) js.length
      generalize (lateL js (finX (dmO ts) js) js.length).length = n9 at p9 l9 ⊢
      have B9 := B8.trans (b9.mono B8.size)
      have R9 := Lib.hid (R8.out.below b9)
      have RJ9 := Lib.hid (RJ8.out.below b9)
      have c6' : (0 : Int) < n6 := by omega
      have c9' : (0 : Int) < n9 := by omega
      clear ho b9 R8 RJ8 O8 B8
      go_wp2_with fail
      refine (jobsLegal_any _ _ _ _ ts js _ R9.out RJ9.out (by omega) (by omega)).mono ?_
      rintro e w10 ⟨rfl, b10⟩
      rw [HL.out]
      go_wp2
      go_ret
      exact ⟨rfl, B9.trans (b10.mono B9.size)⟩
  · have hD1 : (120 : Int) < D := by omega
    go_wp2_with fail
    refine (alive_any _).mono ?_
    rintro e w4 ⟨rfl, b4⟩
    go_wp2
    go_ret
    exact ⟨rfl, B3.trans (b4.mono B3.size)⟩

end Go.Proofs.Ytlkibehieekceaa
