/- Contracts of the program's leastFixedPoint over the released work of a set, and of BusyPeriod. Conditions: the slice's cells hold tasks; its length is at most 2^40. -/
import Derived.Test.YtocppoobcanhiabRespImpl
namespace Go.Proofs.Ytocppoobcanhiab
open Go.RowKit Go.Deep

set_option maxHeartbeats 1000000 in
/-- impl.leastFixedPoint[int], from 1 to the hyperperiod, over the released work of all tasks. -/
theorem lfpBusy_any {lo : Nat} {v : Value} {ts : List T3} (w : World) (h : Summed 120 lo w v ts) (hv : svB ts = true) (hne : ts ≠ []) (hu : utN ts ≤ utD ts) :
    Calls Try.prog 90 #[.int .i64 1, .int .i64 (hyp ts : Nat), v] w fun e w' =>
      (∃ x : Nat, e = .returned (.tuple #[.int .i64 (x : Int), .bool true]) ∧ Bz ts x ∧ wk ts x = x) ∧ Below w.heap.size w w' := by
  have HS := Lib.hid h
  have HV := Lib.hid hv
  have HNE := Lib.hid hne
  have HU := Lib.hid hu
  obtain ⟨pb, rfl, -⟩ := summed1_released v ts 0 w h hv (by omega)
  have hH2 := (hyp_bd ts (all_of_sv hv)).2
  obtain ⟨H, hH⟩ : ∃ H, H = hyp ts := ⟨_, rfl⟩
  have HH := Lib.hid hH
  rw [← hH] at hH2 ⊢
  clear hH h hv hne hu
  go_enter Try.func90, Try.ntmps90
  go_wp2
  go_loopg [8] H (fun m s wr => ∃ x : Nat, m + x = H + 1 ∧ s = .int .i64 x ∧ Bz ts x ∧ Below w.heap.size w wr)
  case atStart => exact ⟨1, rfl, rfl, ⟨Nat.le_refl _, fun y a b => by omega⟩, Below.refl _ _⟩
  case round =>
    obtain ⟨x, hk, rfl, hbz, B⟩ := hrel
    have HK := Lib.hid hk
    have HBZ := Lib.hid hbz
    have hvle := bz_le HV.out HU.out hbz
    rw [← HH.out] at hvle
    have hge := hbz.ge (all_of_sv HV.out) HNE.out
    clear hk hbz
    have hlt' : (x : Int) ≤ H := by omega
    obtain ⟨pb', hpb, C⟩ := summed1_released _ ts x wr (HS.out.below B) HV.out (by omega)
    simp only [Value.func.injEq, true_and, Array.mk.injEq, List.cons.injEq, and_true, Value.pointer.injEq, Option.some.injEq, Addr.mk.injEq] at hpb
    subst hpb
    have HC := Lib.hid C
    have hst := HBZ.out.step (all_of_sv HV.out) HNE.out
    have HST := Lib.hid hst
    have hle2 := bz_le HV.out HU.out hst
    rw [← HH.out] at hle2
    clear C hst
    obtain ⟨S, hS⟩ : ∃ S, S = wk ts x := ⟨_, rfl⟩
    rw [← hS] at HC HST hge hle2
    have HSS := Lib.hid hS
    clear hS
    by_cases he : S = x
    · subst he
      go_wp2_with (go_at_call 110; refine HC.out.mono ?_; rintro e w5 ⟨rfl, n5, hw5⟩)
      go_ret2
      exact ⟨⟨S, rfl, HBZ.out, HSS.out.symm⟩, below_drewN' B _⟩
    · have he' : ((S : Int) == (x : Int)) = false := by simp; omega
      have HX := Lib.hid he
      clear he
      go_wp2_with (go_at_call 110; refine HC.out.mono ?_; rintro e w5 ⟨rfl, n5, hw5⟩)
      go_roundg (H + 1 - S)
      case measure => have h1 := HK.out; have h5 := HX.out; omega
      case rel => exact ⟨S, by omega, rfl, HST.out, below_drewN' B _⟩

set_option maxHeartbeats 1000000 in
/-- impl.BusyPeriod. -/
theorem busyPeriod_any (a : Option Addr) (cap : Nat) (ts : List T3) (w : World) (hr : Row w a ts) (hn : ts.length ≤ 1099511627776) :
    Calls Try.prog 48 #[.slice a ts.length cap] w fun e w' =>
      (∃ r, e = .returned (.int .i64 r) ∧ Bp ts r) ∧ Below w.heap.size w w' := by
  have HR := Lib.hid hr
  clear hr
  by_cases hv : svB ts = true
  · by_cases hne : ts = []
    · subst hne
      go_enter Try.func48, Try.ntmps48
      go_wp2_with fail
      refine (setValid_any _ _ _ _ HR.out hn).mono ?_
      rintro e w1 ⟨rfl, b1⟩
      go_wp2
      go_ret
      exact ⟨⟨-1, rfl, .inl ⟨fun h => h.2.1 rfl, rfl⟩⟩, b1⟩
    · have hlp : 0 < ts.length := List.length_pos_iff.2 hne
      have hlz : ((ts.length : Int) == 0) = false := by simp; omega
      have hub := ut_bd hv
      go_enter Try.func48, Try.ntmps48
      go_wp2_with fail
      refine (setValid_any _ _ _ _ HR.out hn).mono ?_
      rintro e w1 ⟨rfl, b1⟩
      have R1 := Lib.hid (HR.out.below b1)
      go_wp2_with fail
      refine (utilization_any _ _ _ _ R1.out hn).mono ?_
      rintro e w2 ⟨rfl, b2⟩
      have R2 := Lib.hid (R1.out.below b2)
      go_wp2_with fail
      refine (aboveOne_any _ _ _).mono ?_
      rintro e w3 ⟨rfl, b3⟩
      have R3 := Lib.hid (R2.out.below b3)
      have B3 := b1.trans ((b2.trans (b3.mono b2.size)).mono b1.size)
      clear b1 b2 b3 R1 R2
      have HNE := Lib.hid hne
      clear hne
      have HV := Lib.hid hv
      by_cases hu : utN ts ≤ utD ts
      · have hu' : decide (utD ts < utN ts) = false := decide_eq_false (by omega)
        rw [hu']
        have HU := Lib.hid hu
        clear hv hu' hu hub
        go_wp2_with fail
        refine (hyperperiod_any _ _ _ _ R3.out hn).mono ?_
        rintro e w4 ⟨rfl, b4⟩
        have R4 := Lib.hid (R3.out.below b4)
        have B4 := B3.trans (b4.mono B3.size)
        rw [hyB_yes HV.out]
        clear R3 b4
        go_wp2_with fail
        refine (summed_released _ _ _ _ R4.out (sv_all HV.out).2).mono ?_
        rintro e w5 ⟨v, rfl, hs, b5⟩
        have HS := Lib.hid hs
        have B5 := B4.trans (b5.mono B4.size)
        clear hs b5
        go_wp2_with fail
        refine (lfpBusy_any _ HS.out HV.out HNE.out HU.out).mono ?_
        rintro e w6 ⟨⟨x, rfl, hbz, hfx⟩, b6⟩
        have HB := Lib.hid hbz
        have HF := Lib.hid hfx
        clear hbz hfx
        go_wp2
        go_ret
        exact ⟨⟨x, rfl, .inr ⟨HV.out, HNE.out, HU.out, x, rfl, HB.out, HF.out⟩⟩, B5.trans (b6.mono B5.size)⟩
      · have hu' : decide (utD ts < utN ts) = true := decide_eq_true (by omega)
        rw [hu']
        clear hv hu'
        go_wp2
        go_ret
        exact ⟨⟨-1, rfl, .inl ⟨fun h => hu h.2.2, rfl⟩⟩, B3⟩
  · have hv' : svB ts = false := by simpa using hv
    go_enter Try.func48, Try.ntmps48
    go_wp2_with fail
    refine (setValid_any _ _ _ _ HR.out hn).mono ?_
    rintro e w1 ⟨rfl, b1⟩
    go_wp2
    go_ret
    exact ⟨⟨-1, rfl, .inl ⟨fun h => hv h.1, rfl⟩⟩, b1⟩
end Go.Proofs.Ytocppoobcanhiab
