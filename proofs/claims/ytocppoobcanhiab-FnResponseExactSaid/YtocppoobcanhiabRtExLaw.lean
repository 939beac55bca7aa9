/- The walk of laws.FnResponseExact, for whatever code. Condition: the argument is a slice of bytes. -/
import Derived.Test.YtocppoobcanhiabRtImpl
import Derived.Test.YtocppoobcanhiabFixImpl
import Derived.Test.YtocppoobcanhiabSyncImpl
import Derived.Test.YtocppoobcanhiabFixRunImpl
import Derived.Test.YtocppoobcanhiabFixTh
import Derived.Test.YtocppoobcanhiabDrawOrd
import Derived.Test.YtocppoobcanhiabSame
import Derived.BigQuiet
import Derived.StillTailTactics
namespace Go.Proofs.Ytocppoobcanhiab
open Go.RowKit Go.Deep

set_option maxRecDepth 100000 in
set_option maxHeartbeats 8000000 in
/-- laws.FnResponseExact. -/
theorem fnResponseExact_walk (a : Option Addr) (len cap : Nat) (w : World) (hb : Byts w a len cap) :
    Calls Try.prog 6 #[.slice a len cap] w fun e w' => e = .returned (.bool true) ∧ Below w.heap.size w w' := by
  have hm : cap ≤ maxLen := hb.2.2
  have hlc : len ≤ cap := hb.2.1
  unfold maxLen at hm
  have HB := Lib.hid hb
  clear hb
  by_cases hl : 1048576 < len
  · have hl' : (1048576 : Int) < len := by omega
    go_enter Try.func6, Try.ntmps6
    go_wp2
    go_ret
    exact ⟨rfl, Below.refl _ _⟩
  have hl' : ¬ (1048576 : Int) < len := by omega
  go_enter Try.func6, Try.ntmps6
  go_wp2_with fail
  refine (drawResponseTimes_any _ _ _ _ HB.out).mono ?_
  rintro e w1 ⟨g, cap1, og, ocap, ts, os, rfl, hn, hlc1, hcm1, hon, honc, hr1, ho1, b1⟩
  have R1 := Lib.hid hr1
  clear hr1 HB
  have O1 := Lib.hid ho1
  have I1 := Lib.hid ho1.intF'
  clear ho1
  go_wp2_with fail
  refine (responseTimes_any _ _ _ _ ts os _ R1.out I1.out (by omega) honc).mono ?_
  rintro e w2 ⟨⟨v, rfl, ho⟩, b2⟩
  obtain ⟨va, vc, rfl⟩ := own_shape ho
  have hrn : rtN ts os ≤ 12 := by unfold rtN; split <;> omega
  have V2 := Lib.hid ho
  have R2 := Lib.hid (R1.out.below b2)
  have I2 := Lib.hid (I1.out.below b2)
  have B2 := b1.trans (b2.mono b1.size)
  clear ho R1 I1 O1 b1 b2
  go_wp2_with fail
  refine (specResponseTimes_any _ _ _ _ ts os _ R2.out I2.out (by omega) honc).mono ?_
  rintro e w3 ⟨⟨v, rfl, ho⟩, b3⟩
  obtain ⟨ua, uc, rfl⟩ := own_shape ho
  have U3 := Lib.hid ho.intF'
  have V3 := Lib.hid (V2.out.below b3)
  have R3 := Lib.hid (R2.out.below b3)
  have I3 := Lib.hid (I2.out.below b3)
  have B3 := B2.trans (b3.mono B2.size)
  clear ho b3 R2 I2 V2 B2
  go_wp2_with fail
  refine (sameInts_same _ _ _ _ _ _ _ V3.out.intF' U3.out (by omega)).mono ?_
  rintro e w4 ⟨rfl, n4, hw4⟩
  have b4 : Below w3.heap.size w3 w4 := by rw [hw4]; exact below_drewN _ _
  have V4 := Lib.hid (V3.out.below b4)
  have R4 := Lib.hid (R3.out.below b4)
  have I4 := Lib.hid (I3.out.below b4)
  have B4 := B3.trans (b4.mono B3.size)
  clear hw4 b4 R3 I3 V3 B3 U3
  go_wp2_with fail
  refine (specOrderValid_any _ _ _ _ ts os _ R4.out I4.out (by omega) honc).mono ?_
  rintro e w5 ⟨rfl, b5⟩
  have V5 := Lib.hid (V4.out.below b5)
  have R5 := Lib.hid (R4.out.below b5)
  have I5 := Lib.hid (I4.out.below b5)
  have B5 := B4.trans (b5.mono B4.size)
  clear b5 R4 I4 V4 B4
  cases hv : ordB ts os with
  | false =>
    go_wp2_with fail
    refine (alive_any _).mono ?_
    rintro e w6 ⟨rfl, b6⟩
    go_wp2
    go_ret
    exact ⟨rfl, B5.trans (b6.mono B5.size)⟩
  | true =>
    have HV := Lib.hid hv
    have hz := rtN_yes hv
    rw [hz] at V5
    clear hv
    go_wp2_with fail
    refine (fixedFeasible_any _ _ _ _ ts os _ R5.out I5.out (by omega) honc).mono ?_
    rintro e w6 ⟨rfl, b6⟩
    have V6 := Lib.hid (V5.out.below b6)
    have R6 := Lib.hid (R5.out.below b6)
    have I6 := Lib.hid (I5.out.below b6)
    have B6 := B5.trans (b6.mono B5.size)
    clear b6 R5 I5 V5 B5
    cases hf : fixB ts os with
    | false =>
      go_wp2_with fail
      refine (alive_any _).mono ?_
      rintro e w7 ⟨rfl, b7⟩
      go_wp2
      go_ret
      exact ⟨rfl, B6.trans (b7.mono B6.size)⟩
    | true =>
      have HF := Lib.hid hf
      clear hf
      have HS := Lib.hid (ordB_iff.1 HV.out).1
      clear hz hrn
      go_wp2_with fail
      refine (synchronous_any _ _ ts 60 _ R6.out (by omega)).mono ?_
      rintro e w7 ⟨v, rfl, hoj, b7⟩
      have hsy : syB ts 60 = sy ts 60 60 := by rw [syB, if_pos ⟨HS.out, by omega, by omega⟩]; rfl
      rw [hsy] at hoj
      have HFIN := Lib.hid (fun k hk => crit_fin HF.out (k := k) hk)
      have HL := Lib.hid (sy_legal HS.out (show 60 ≤ 120 by omega))
      generalize sy ts 60 60 = js at hoj HFIN HL
      obtain ⟨ja, jcap, rfl⟩ := hoj.shape
      have h60 : js.length ≤ 60 := (legB_iff.1 HL.out).2.1
      have V7 := Lib.hid (V6.out.below b7)
      have R7 := Lib.hid (R6.out.below b7)
      have I7 := Lib.hid (I6.out.below b7)
      have RJ7 := Lib.hid hoj.rowJ
      have B7 := B6.trans (b7.mono B6.size)
      clear hsy hoj b7 R6 I6 V6 B6
      go_wp2_with fail
      refine (runFixed_any _ _ _ _ _ _ ts os js _ R7.out I7.out RJ7.out (by omega) (by omega)).mono ?_
      rintro e w8 ⟨⟨vr, vf, rfl, o1, o2, -⟩, b8⟩
      obtain ⟨ra, rc, rfl⟩ := own_shape o1
      obtain ⟨fa, fc, rfl⟩ := own_shape o2
      have hk : okF ts os js = true := okF_iff.2 ⟨HV.out, HL.out⟩
      have e1 : lenRF ts os js = 120 := by rw [lenRF, if_pos hk]
      have e2 : lenFF ts os js = js.length := by rw [lenFF, if_pos hk]
      rw [e2] at o2
      rw [e1, e2]
      obtain ⟨w9, hw9⟩ : ∃ w9, w9 = w8.alloc (.cells #[.slice ra 120 rc, .slice fa js.length fc] 28) := ⟨_, rfl⟩
      have b9 : Below w8.heap.size w8 w9 := by rw [hw9]; exact below_box _ _
      have s9 : w8.heap.size < w9.heap.size := by rw [hw9]; simp
      have c0 : w9.cell? ⟨w8.heap.size, 0, none⟩ = some (.slice ra 120 rc) := by rw [hw9]; simp [go_sem]
      have c1 : w9.cell? ⟨w8.heap.size, 1, none⟩ = some (.slice fa js.length fc) := by rw [hw9]; simp [go_sem]
      have b89 := b8.trans (b9.mono b8.size)
      have V9 := Lib.hid (V7.out.below b89)
      have RJ9 := Lib.hid (RJ7.out.below b89)
      have F9 := Lib.hid (o2.below b9)
      have B9 := B7.trans (b89.mono B7.size)
      have HW9 := Lib.hid hw9
      obtain ⟨sb, hsb⟩ : ∃ sb, sb = w8.heap.size := ⟨_, rfl⟩
      have HSB := Lib.hid hsb
      rw [← hsb] at s9 c0 c1
      clear o1 o2 e1 e2 b8 b9 b89 hk hw9 hsb R7 I7 RJ7 V7 B7
      go_wp2
      rw [← HW9.out, ← HSB.out]
      go_loopg [8] js.length (fun m z wr => ∃ k : Nat, m + k = js.length ∧ z = .int .i64 k ∧ Below w9.heap.size w9 wr)
      case atStart => exact ⟨0, by omega, rfl, Below.refl _ _⟩
      case round =>
        obtain ⟨k, hk, rfl, B⟩ := hrel
        have HK := Lib.hid hk
        have hkk : k ≤ js.length := by omega
        have d0 := (B.cell (p := ⟨sb, 0, none⟩) s9).trans c0
        have d1 := (B.cell (p := ⟨sb, 1, none⟩) s9).trans c1
        have RJ := Lib.hid (RJ9.out.below B)
        have OF := Lib.hid (F9.out.below B)
        have V := Lib.hid (V9.out.below B)
        clear hk c0 c1 RJ9 F9 V9
        by_cases hlt : k < js.length
        · have hk0 : (0 : Int) ≤ k := by omega
          have hk1 : (k : Int) < js.length := by omega
          obtain ⟨F, R, hF, hR, hFb, hRb, hle, heq⟩ := HFIN.out k hlt
          obtain ⟨hjl, hje⟩ := jid_at HL.out hlt
          have hrb := ((legB_iff.1 HL.out).2.2 k hlt).2.1
          obtain ⟨bj, oj, ej, hbj, x0, x1, -, -⟩ := RJ.out k hlt
          obtain ⟨bf, off, ef, hbf, y0⟩ := OF.out.intF' k hlt
          obtain ⟨bv, ov, ev, hbv, v0⟩ := V.out.intF' (jid js k) hjl
          simp only [hR] at v0
          simp only [hF] at y0
          rw [hje] at x0
          subst ej ef ev
          obtain ⟨y, hy⟩ : ∃ y, y = jid js k := ⟨_, rfl⟩
          obtain ⟨r, hr⟩ : ∃ r, r = (jb js k).2.1 := ⟨_, rfl⟩
          rw [← hy] at x0 v0 hjl
          rw [← hr] at x1 hrb hle heq
          have hy0 : (0 : Int) ≤ y := by omega
          have hy1 : (y : Int) < ts.length := by omega
          have hw : IntKind.i64.wrap ((F : Int) - r) = (F : Int) - r := IntWalk.i64_in _ (by omega)
          have HQ := Lib.hid (And.intro hle heq)
          clear hy hr hje hR hF hbj hbf hbv hle heq
          by_cases hr0 : r = 0
          · have hFR : F = R := HQ.out.2 hr0
            subst hr0
            subst hFR
            go_wp2
            go_quiet (fail)
            have hd0 : decide ((F : Int) < 0) = false := decide_eq_false (by omega)
            have hd1 : decide ((F : Int) < (F : Int) - 0) = false := decide_eq_false (by omega)
            go_wp2
            go_roundg (gk - 1)
            case measure => have := HK.out; omega
            case rel => exact ⟨k + 1, by have := HK.out; omega, by go_num, below_drewN' B _⟩
          · have hr0' : (r == 0) = false := beq_eq_false_iff_ne.2 hr0
            have HR0 := Lib.hid hr0
            clear hr0
            go_wp2
            go_quiet (fail)
            have hd0 : decide ((F : Int) < 0) = false := decide_eq_false (by omega)
            have hd1 : decide ((R : Int) < (F : Int) - r) = false := decide_eq_false (by have := HQ.out.1; omega)
            go_wp2
            go_roundg (gk - 1)
            case measure => have := HK.out; omega
            case rel => exact ⟨k + 1, by have := HK.out; omega, by go_num, below_drewN' B _⟩
        · go_wp2
          go_ret
          exact ⟨rfl, B9.trans (B.mono B9.size)⟩

end Go.Proofs.Ytocppoobcanhiab
