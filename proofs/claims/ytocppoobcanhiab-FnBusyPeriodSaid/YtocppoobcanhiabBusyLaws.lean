/- Walks: laws.FnBusyEnough and laws.FnBusyPeriod. Conditions: the argument is a slice of bytes. -/
import Derived.Test.YtocppoobcanhiabWithout
import Derived.Test.YtocppoobcanhiabBusyImpl
namespace Go.Proofs.Ytocppoobcanhiab
open Go.RowKit

theorem bp_over {ts : List T3} {r : Int} (h : Bp ts r) (hr : ¬ r < 0) : fo ts ≤ r := by
  rcases h with ⟨_, rfl⟩ | ⟨a, _, _, w, rfl, hb, hw⟩
  · omega
  · exact busy_enough a hb hw

set_option maxHeartbeats 1000000 in
/-- laws.FnBusyEnough. -/
theorem fnBusyEnough_any (a : Option Addr) (len cap : Nat) (w : World) (hb : Byts w a len cap) :
    Calls Try.prog 11 #[.slice a len cap] w fun e w' => e = .returned (.bool true) ∧ Below w.heap.size w w' := by
  have hm : cap ≤ maxLen := hb.2.2
  have hlc : len ≤ cap := hb.2.1
  unfold maxLen at hm
  have HB := Lib.hid hb
  clear hb
  by_cases hl : 1048576 < len
  · have hl' : (1048576 : Int) < len := by omega
    go_enter Try.func11, Try.ntmps11
    go_wp2
    go_ret
    exact ⟨rfl, Below.refl _ _⟩
  have hl' : ¬ (1048576 : Int) < len := by omega
  go_enter Try.func11, Try.ntmps11
  go_wp2_with fail
  refine (drawBusyPeriod_any _ _ _ _ HB.out).mono ?_
  rintro e w1 ⟨a1, cap1, ts, rfl, hn, hlc1, hcm1, hr1, b1⟩
  have R1 := Lib.hid hr1
  clear hr1 HB
  go_wp2_with fail
  refine (busyPeriod_any _ _ _ _ R1.out (by omega)).mono ?_
  rintro e w2 ⟨⟨r, rfl, hbp⟩, b2⟩
  have B2 := b1.trans (b2.mono b1.size)
  have R2 := Lib.hid (R1.out.below b2)
  have HP := Lib.hid hbp
  clear b1 b2 R1 hbp
  go_wp2_with fail
  refine (specBusyPeriod_any _ _ _ _ R2.out (by omega)).mono ?_
  rintro e w3 ⟨⟨r', rfl, hbp'⟩, b3⟩
  obtain rfl := HP.out.unique hbp'
  have B3 := B2.trans (b3.mono B2.size)
  have R3 := Lib.hid (R2.out.below b3)
  clear b3 R2 hbp'
  go_wp2_with fail
  refine (firstOverload_any _ _ _ _ R3.out (by omega)).mono ?_
  rintro e w4 ⟨rfl, b4⟩
  have B4 := B3.trans (b4.mono B3.size)
  clear b4 R3
  by_cases hr : r < 0
  · go_wp2
    go_ret
    exact ⟨rfl, B4⟩
  · have hle := bp_over HP.out hr
    go_wp2_with fail
    refine (alive_any _).mono ?_
    rintro e w5 ⟨rfl, b5⟩
    go_wp2
    go_ret
    exact ⟨rfl, B4.trans (b5.mono B4.size)⟩

set_option maxRecDepth 100000 in
set_option maxHeartbeats 2000000 in
/-- laws.FnBusyPeriod. -/
theorem fnBusyPeriod_any (a : Option Addr) (len cap : Nat) (w : World) (hb : Byts w a len cap) :
    Calls Try.prog 10 #[.slice a len cap] w fun e w' => e = .returned (.bool true) ∧ Below w.heap.size w w' := by
  have hm : cap ≤ maxLen := hb.2.2
  have hlc : len ≤ cap := hb.2.1
  unfold maxLen at hm
  have HB := Lib.hid hb
  clear hb
  by_cases hl : 1048576 < len
  · have hl' : (1048576 : Int) < len := by omega
    go_enter Try.func10, Try.ntmps10
    go_wp2
    go_ret
    exact ⟨rfl, Below.refl _ _⟩
  have hl' : ¬ (1048576 : Int) < len := by omega
  go_enter Try.func10, Try.ntmps10
  go_wp2_with fail
  refine (drawBusyPeriod_any _ _ _ _ HB.out).mono ?_
  rintro e w1 ⟨a1, cap1, ts, rfl, hn, hlc1, hcm1, hr1, b1⟩
  have R1 := Lib.hid hr1
  clear hr1 HB
  go_wp2_with fail
  refine (busyPeriod_any _ _ _ _ R1.out (by omega)).mono ?_
  rintro e w2 ⟨⟨r, rfl, hbp⟩, b2⟩
  have B2 := b1.trans (b2.mono b1.size)
  have R2 := Lib.hid (R1.out.below b2)
  have HP := Lib.hid hbp
  clear b1 b2 R1 hbp
  go_wp2_with fail
  refine (specBusyPeriod_any _ _ _ _ R2.out (by omega)).mono ?_
  rintro e w3 ⟨⟨r', rfl, hbp'⟩, b3⟩
  obtain rfl := HP.out.unique hbp'
  have B3 := B2.trans (b3.mono B2.size)
  have R3 := Lib.hid (R2.out.below b3)
  clear b3 R2 hbp'
  go_wp2_with fail
  refine (specSetValid_any _ _ _ _ R3.out (by omega)).mono ?_
  rintro e w4 ⟨rfl, b4⟩
  have B4 := B3.trans (b4.mono B3.size)
  have R4 := Lib.hid (R3.out.below b4)
  clear b4 R3
  by_cases hv : svB ts = true
  · by_cases hne : ts = []
    · subst hne
      obtain rfl : r = -1 := by
        rcases HP.out with ⟨_, h⟩ | ⟨_, h, _⟩
        · exact h
        · exact absurd rfl h
      go_wp2_with fail
      refine (alive_any _).mono ?_
      rintro e w5 ⟨rfl, b5⟩
      go_wp2
      go_ret
      exact ⟨rfl, B4.trans (b5.mono B4.size)⟩
    · have hlp : 0 < ts.length := List.length_pos_iff.2 hne
      have hlz : ((ts.length : Int) == 0) = false := by simp; omega
      have hub := ut_bd hv
      go_wp2_with fail
      refine (utilization_any _ _ _ _ R4.out (by omega)).mono ?_
      rintro e w5 ⟨rfl, b5⟩
      have B5 := (B4.trans (b5.mono B4.size)).alloc (Nat.le_trans B4.size b5.size) (.cells #[.int .i64 (utN ts : Nat), .int .i64 (utD ts : Nat)] 64)
      have R5 := Lib.hid ((R4.out.below b5).below (below_box w5 (.cells #[.int .i64 (utN ts : Nat), .int .i64 (utD ts : Nat)] 64)))
      clear b5 R4 B4
      have HNE := Lib.hid hne
      have HV := Lib.hid hv
      clear hne
      by_cases hu : utN ts ≤ utD ts
      · obtain ⟨v, rfl, hbz, hwv⟩ : ∃ v : Nat, r = v ∧ Bz ts v ∧ wk ts v = v := by
          rcases HP.out with ⟨h, _⟩ | ⟨_, _, _, h⟩
          · exact absurd ⟨HV.out, HNE.out, hu⟩ h
          · exact h
        have hu' : ¬ ((utD ts : Nat) : Int) < (utN ts : Nat) := by omega
        have hu2 : decide (utD ts < utN ts) = false := by simp; omega
        have hvH := bz_le hv hu hbz
        have hH2 := (hyp_bd ts (all_of_sv hv)).2
        have HBZ := Lib.hid hbz
        have HWV := Lib.hid hwv
        have hv1 := hbz.1
        clear hbz hwv hu HP
        go_wp2
        clear hv hu' hu2
        go_loopg [6] v (fun m i wr => ∃ n : Nat, m + n = v + 1 ∧ 1 ≤ n ∧ i = .int .i64 n ∧ Below w.heap.size w wr ∧ Row wr a1 ts)
        case atStart => exact ⟨1, rfl, Nat.le_refl _, rfl, B5, R5.out⟩
        case round =>
          clear B5 R5
          obtain ⟨n, hk, hn1, rfl, B, hrow⟩ := hrel
          have HK := Lib.hid hk
          have hkb : n ≤ v + 1 := by omega
          have RW := Lib.hid hrow
          clear hk hrow
          by_cases hlt : n ≤ v
          · have hlt' : (n : Int) ≤ v := by omega
            go_wp2
            go_loopg [7, 8] ts.length (fun m s i wr => ∃ k : Nat, m + k = ts.length ∧ i = .int .i64 k ∧ s = .int .i64 (wk (ts.take k) n : Nat) ∧ Below w.heap.size w wr ∧ Row wr a1 ts)
            case atStart => exact ⟨0, rfl, rfl, rfl, B, RW.out⟩
            case round =>
              clear B RW
              obtain ⟨k, hk2, rfl, rfl, B, hrow⟩ := hrel
              have HK2 := Lib.hid hk2
              have hkk : k ≤ ts.length := by omega
              have RW := Lib.hid hrow
              clear hk2 hrow
              by_cases hk : k < ts.length
              · obtain ⟨S, hS⟩ : ∃ S, S = wk (ts.take k) n := ⟨_, rfl⟩
                have hsb := wk_take_le HV.out n k (by omega)
                rw [← hS] at hsb ⊢
                have HS := Lib.hid hS
                clear hS
                obtain ⟨b, off, rfl, hbs, g0, _, g2⟩ := RW.out k _ (List.getElem?_eq_getElem hk)
                obtain ⟨t, ht⟩ : ∃ t, t = ts[k] := ⟨_, rfl⟩
                rw [← ht] at g0 g2
                have htv := all_at (sv_all HV.out).1 hk ht
                obtain ⟨q, hq⟩ : ∃ q, q = per t := ⟨_, rfl⟩
                obtain ⟨c, hc⟩ : ∃ c, c = cst t := ⟨_, rfl⟩
                have hb := tv_bd htv
                rw [← hq, ← hc] at hb
                obtain ⟨p1, p2, p3, p4, p5, p6, _, p8⟩ := hb
                have p9 : 1 ≤ q := by omega
                rw [← p6] at g0
                rw [← p8] at g2
                have HT := Lib.hid ht
                have HQ := Lib.hid hq
                have HC := Lib.hid hc
                clear ht hq hc p2 p3 p6 p8 htv
                have hk0 : (0 : Int) ≤ k := by omega
                have hk1 : (k : Int) < ts.length := by omega
                have hqne : ((q : Int) == 0) = false := by simp; omega
                have hs0 : (0 : Int) ≤ (n : Int) + q - 1 := by omega
                have hq0 : (0 : Int) ≤ ((n : Int) + q - 1) / q := Int.ediv_nonneg (by omega) (by omega)
                have hq1 : ((n : Int) + q - 1) / q ≤ 100012 := Int.le_trans (Int.ediv_le_self _ hs0) (by omega)
                have hm0 : (0 : Int) ≤ ((n : Int) + q - 1) / q * c := Int.mul_nonneg hq0 (by omega)
                have hm1 : ((n : Int) + q - 1) / q * c ≤ 800096 := Int.le_trans (Int.mul_le_mul hq1 (show (c : Int) ≤ 8 by omega) (by omega) (by omega)) (by omega)
                go_wp2
                go_quiet (fail)
                go_wp2
                go_roundg (gk - 1)
                case measure => have := HK2.out; omega
                case rel => exact ⟨k + 1, by have := HK2.out; omega, by go_num, wk_step hk HT.out HC.out HQ.out p9 HS.out, below_drewN' B _, RW.out.below (below_drewN _ _)⟩
              · obtain rfl : k = ts.length := by omega
                rw [List.take_length]
                by_cases he : n < v
                · have he' : (n : Int) < v := by omega
                  have hgt := HBZ.out.2 n hn1 he
                  have hgt' : ¬ ((wk ts n : Nat) : Int) ≤ n := by omega
                  have heq : ((n : Int) == v) = false := by simp; omega
                  go_wp2
                  go_roundg (v - n)
                  case measure => have := HK.out; omega
                  case rel => exact ⟨n + 1, by omega, by omega, by go_num, B, RW.out⟩
                · obtain rfl : n = v := by omega
                  have he' : ¬ (n : Int) < n := by omega
                  have hwe : (((wk ts n : Nat) : Int) != n) = false := by simp [HWV.out]
                  go_wp2
                  go_roundg 0
                  case measure => have := HK.out; omega
                  case rel => exact ⟨n + 1, by omega, by omega, by go_num, B, RW.out⟩
          · have hlt' : ¬ (n : Int) ≤ v := by omega
            have hv1' : (1 : Int) ≤ v := by omega
            have CH := Lib.hid (fun W (hr : Row W a1 ts) => hyperperiod_any a1 cap1 ts W hr (by omega))
            rw [hyB_yes HV.out] at CH
            have hvH' : (v : Int) ≤ (hyp ts : Nat) := by omega
            go_wp2_with fail
            refine (CH.out _ RW.out).mono ?_
            rintro e w6 ⟨rfl, b6⟩
            have B6 := B.trans (b6.mono B.size)
            clear b6
            go_wp2_with fail
            refine (alive_any _).mono ?_
            rintro e w7 ⟨rfl, b7⟩
            go_wp2
            go_ret
            exact ⟨rfl, B6.trans (b7.mono B6.size)⟩
      · obtain rfl : r = -1 := by
          rcases HP.out with ⟨_, h⟩ | ⟨_, _, h, _⟩
          · exact h
          · exact absurd h hu
        have hu' : ((utD ts : Nat) : Int) < (utN ts : Nat) := by omega
        go_wp2
        go_ret
        exact ⟨rfl, B5⟩
  · have hv' : svB ts = false := by simpa using hv
    obtain rfl : r = -1 := by
      rcases HP.out with ⟨_, h⟩ | ⟨h, _⟩
      · exact h
      · exact absurd h hv
    clear hv
    go_wp2_with fail
    refine (alive_any _).mono ?_
    rintro e w5 ⟨rfl, b5⟩
    go_wp2
    go_ret
    exact ⟨rfl, B4.trans (b5.mono B4.size)⟩
end Go.Proofs.Ytocppoobcanhiab
