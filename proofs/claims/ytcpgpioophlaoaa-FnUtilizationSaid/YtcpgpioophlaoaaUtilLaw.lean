/- Walks: laws.FnUtilization. Conditions: the argument is a slice of bytes. -/
import Derived.Test.YtcpgpioophlaoaaWithout
import Derived.Test.YtcpgpioophlaoaaUtil2
import Derived.Test.YtcpgpioophlaoaaUtilNum
import Derived.Laws.StructEq
namespace Go.Proofs.Ytcpgpioophlaoaa
open Go.RowKit

/-- Block ub holds the fraction N/D; the slice a holds the tasks ts; since w only new memory has turned. -/
structure Ut (w : World) (a : Option Addr) (ts : List (Int × Int × Int)) (ub N D : Nat) (wr : World) : Prop where
  b : Below w.heap.size w wr
  r : Row wr a ts
  lt : ub < wr.heap.size
  c0 : wr.cell? ⟨ub, 0, none⟩ = some (.int .i64 N)
  c1 : wr.cell? ⟨ub, 1, none⟩ = some (.int .i64 D)
theorem Ut.below {w wr w' : World} {a : Option Addr} {ts : List (Int × Int × Int)} {ub N D : Nat} (h : Ut w a ts ub N D wr) (hb : Below wr.heap.size wr w') : Ut w a ts ub N D w' :=
  ⟨h.b.trans (hb.mono h.b.size), h.r.below hb, Nat.lt_of_lt_of_le h.lt hb.size, (hb.cell (p := ⟨ub, 0, none⟩) h.lt).trans h.c0, (hb.cell (p := ⟨ub, 1, none⟩) h.lt).trans h.c1⟩
theorem Ut.drewN {w wr : World} {a : Option Addr} {ts : List (Int × Int × Int)} {ub N D : Nat} (h : Ut w a ts ub N D wr) (n : Nat) : Ut w a ts ub N D (wr.drewN n) := h.below (below_drewN _ _)

theorem mod_yes {a n : Nat} (h : a % n = 0) : (((a : Int) % n) == 0) = true := by
  have e : (a : Int) % n = ((a % n : Nat) : Int) := by simp
  rw [e, h]; rfl
theorem mod_no {a n : Nat} (h : a % n ≠ 0) : (((a : Int) % n) == 0) = false := by
  have e : (a : Int) % n = ((a % n : Nat) : Int) := by simp
  rw [e, Bool.eq_false_iff, ne_eq, beq_iff_eq]
  omega

set_option maxRecDepth 100000 in
set_option maxHeartbeats 2000000 in
/-- laws.FnUtilization. -/
theorem fnUtilization_any (a : Option Addr) (len cap : Nat) (w : World) (hb : Byts w a len cap) :
    Calls Try.prog 6 #[.slice a len cap] w fun e w' => e = .returned (.bool true) ∧ Below w.heap.size w w' := by
  have hm : cap ≤ maxLen := hb.2.2
  have hlc : len ≤ cap := hb.2.1
  unfold maxLen at hm
  have HB := Lib.hid hb
  clear hb
  by_cases hl : 1048576 < len
  · have hl' : (1048576 : Int) < len := by omega
    go_enter Try.func6, Try.ntmps6
    go_wp2
    go_ret
    exact ⟨rfl, Below.refl _ _⟩
  have hl' : ¬ (1048576 : Int) < len := by omega
  go_enter Try.func6, Try.ntmps6
  go_wp2_with fail
  refine (drawUtilization_any _ _ _ _ HB.out).mono ?_
  rintro e w1 ⟨a1, cap1, ts, rfl, hn, hlc1, hcm1, hr1, b1⟩
  have R1 := Lib.hid hr1
  clear hr1
  go_wp2_with fail
  refine (utilization_any _ _ _ _ R1.out (by omega)).mono ?_
  rintro e w2 ⟨rfl, b2⟩
  obtain ⟨N, hN⟩ : ∃ N, N = utN ts := ⟨_, rfl⟩
  obtain ⟨D, hD⟩ : ∃ D, D = utD ts := ⟨_, rfl⟩
  have CU := Lib.hid (fun W hr => specUtilization_any a1 cap1 ts W hr (by omega))
  rw [← hN, ← hD] at CU ⊢
  have HND := Lib.hid (And.intro hN hD)
  clear hN hD
  have HU := Lib.hid (show Ut w a1 ts w2.heap.size N D (w2.alloc (.cells #[.int .i64 N, .int .i64 D] 35)) from
    ⟨(b1.trans (b2.mono b1.size)).alloc (Nat.le_trans b1.size b2.size) _, (R1.out.below b2).below (below_box _ _), by simp, by go_simp, by go_simp⟩)
  generalize hub : w2.heap.size = ub at *
  clear R1 b1 b2 HB
  go_upto_region 5 with fail
  generalize hwa : w2.alloc (.cells #[.int .i64 N, .int .i64 D] 35) = wa at *
  clear hwa
  have c0 := HU.out.c0
  have c1 := HU.out.c1
  go_region_held3 (fun w' => w'.cell? ⟨ub, 0, none⟩ = some (.int .i64 N) ∧ w'.cell? ⟨ub, 1, none⟩ = some (.int .i64 D)) (go_keep)
    (first | (go_at_call 25; refine (CU.out _ ?_).mono ?_; (exact (HU.out.drewN 1).r); rintro e w3 ⟨rfl, b3⟩; have HU3 := Lib.hid ((HU.out.drewN 1).below b3); have d0 := HU3.out.c0; have d1 := HU3.out.c1; clear b3))
  clear c0 c1
  by_cases hv : svB ts = true
  · go_wp2_with fail
    refine (specSetValid_any _ _ _ _ HU3.out.r (by omega)).mono ?_
    rintro e w4 ⟨rfl, b4⟩
    have HU4 := Lib.hid (HU3.out.below b4)
    clear b4 d0 d1 HU3 HU
    have HV := Lib.hid hv
    go_wp2_with fail
    refine (hyperperiod_any _ _ _ _ HU4.out.r (by omega)).mono ?_
    rintro e w5 ⟨rfl, b5⟩
    have HU5 := Lib.hid (HU4.out.below b5)
    clear b5 HU4
    obtain ⟨H, hH⟩ : ∃ H, H = hyB ts := ⟨_, rfl⟩
    have hbd := hyp_bd ts (sv_all hv).1
    rw [← hyB_yes hv, ← hH] at hbd
    rw [← hH]
    have HH := Lib.hid (hH.trans (hyB_yes hv))
    have hub3 := ut_bd hv
    have hfr := frac_ut hv (hyp_bd ts (sv_all hv).1).1
    rw [← HND.out.1, ← HND.out.2] at hub3 hfr
    rw [← HH.out] at hfr
    have HF := Lib.hid hfr
    obtain ⟨hd1, hd2, hn2⟩ := hub3
    clear hH hv hfr
    obtain ⟨hb1, hb2⟩ := hbd
    go_wp2
    go_loopg [6, 7] ts.length (fun n s i wr => ∃ k : Nat, n + k = ts.length ∧ i = .int .i64 k ∧ s = .int .i64 (wrk H (ts.take k) : Nat) ∧ Ut w a1 ts ub N D wr)
    case atStart => exact ⟨0, rfl, rfl, rfl, HU5.out⟩
    case round =>
      clear HU5
      obtain ⟨k, hk, rfl, rfl, hu⟩ := hrel
      have HK := Lib.hid hk
      have hk' : k ≤ ts.length := by omega
      have HU := Lib.hid hu
      clear hk hu
      obtain ⟨S, hS⟩ : ∃ S, S = wrk H (ts.take k) := ⟨_, rfl⟩
      have hsb := wrk_take_le HV.out H k
      rw [← hS] at hsb ⊢
      have HS := Lib.hid hS
      clear hS
      by_cases hlt : k < ts.length
      · obtain ⟨b, off, rfl, hbs, g0, _, g2⟩ := HU.out.r k _ (List.getElem?_eq_getElem hlt)
        obtain ⟨t, ht⟩ : ∃ t, t = ts[k] := ⟨_, rfl⟩
        rw [← ht] at g0 g2
        have htv := all_at (sv_all HV.out).1 hlt ht
        obtain ⟨q, hq⟩ : ∃ q, q = per t := ⟨_, rfl⟩
        obtain ⟨c, hc⟩ : ∃ c, c = cst t := ⟨_, rfl⟩
        have hp := per_dvd htv
        have hcs := cst_le htv
        rw [← hq] at hp hcs
        rw [← hc] at hcs
        obtain ⟨_, hp1, hp2, hp3⟩ := hp
        obtain ⟨hcs1, hcs2, hcs3⟩ := hcs
        rw [← hp3] at g2
        rw [← hcs3] at g0
        have HT := Lib.hid ht
        have HQ := Lib.hid hq
        have HC := Lib.hid hc
        clear ht hq hc hp3 hcs3 htv
        have hne : ((q : Int) == 0) = false := by simp; omega
        have hq0 : (0 : Int) ≤ (H : Int) / q := Int.ediv_nonneg (by omega) (by omega)
        have hq1 : (H : Int) / q ≤ 27720 := Int.le_trans (Int.ediv_le_self _ (by omega)) (by omega)
        have hm0 : (0 : Int) ≤ (c : Int) * ((H : Int) / q) := Int.mul_nonneg (by omega) hq0
        have hm1 : (c : Int) * ((H : Int) / q) ≤ 332640 := Int.le_trans (Int.mul_le_mul (show (c : Int) ≤ 12 by omega) hq1 hq0 (by omega)) (by omega)
        have hk0 : (0 : Int) ≤ k := by omega
        have hk1 : (k : Int) < ts.length := by omega
        go_wp2
        go_quiet (fail)
        go_wp2
        go_roundg (gk - 1)
        case measure => have := HK.out; omega
        case rel => exact ⟨k + 1, by have := HK.out; omega, by go_num, wrk_step hlt HT.out HC.out HQ.out HS.out, HU.out.drewN _⟩
      · obtain rfl : k = ts.length := by omega
        have HS2 := Lib.hid (show S = wrk H ts by rw [HS.out, List.take_length])
        clear HS
        have c1 := HU.out.c1
        have c0 := HU.out.c0
        go_wp2
        go_loopg [8] D (fun m i wx => ∃ n : Nat, m + n = D + 1 + 1 ∧ 2 ≤ n ∧ i = .int .i64 n ∧ wr = wx)
        case atStart => exact ⟨2, rfl, Nat.le_refl _, rfl, rfl⟩
        case round =>
          obtain ⟨n, hk2, hn1, rfl, rfl⟩ := hrel
          have HK2 := Lib.hid hk2
          have hkk : n ≤ D + 2 := by omega
          clear hk2
          have hnne : ((n : Int) == 0) = false := by simp; omega
          by_cases hnd : n ≤ D
          · have hnd' : (n : Int) ≤ D := by omega
            by_cases hz : N % n = 0
            · have hz1 : (((N : Int) % n) == 0) = true := mod_yes hz
              have hz2 : (((D : Int) % n) == 0) = false := mod_no (coprime_no HF.out.1 hn1 hz)
              clear hz
              go_wp2
              go_roundg (gk - 1)
              case measure => have := HK2.out; omega
              case rel => exact ⟨n + 1, by have := HK2.out; omega, by omega, by go_num, rfl⟩
            · have hz1 : (((N : Int) % n) == 0) = false := mod_no hz
              clear hz
              go_wp2
              go_roundg (gk - 1)
              case measure => have := HK2.out; omega
              case rel => exact ⟨n + 1, by have := HK2.out; omega, by omega, by go_num, rfl⟩
          · have hnd' : ¬ (n : Int) ≤ D := by omega
            go_wp2
            clear c0 c1
            go_loopg [9] ts.length (fun m i wx => ∃ j : Nat, m + j = ts.length ∧ i = .int .i64 j ∧ Ut w a1 ts ub N D wx)
            case atStart => exact ⟨0, rfl, rfl, HU.out⟩
            case round =>
              clear HU
              obtain ⟨j, hj, rfl, hu⟩ := hrel
              have HJ := Lib.hid hj
              have hjk : j ≤ ts.length := by omega
              have HU := Lib.hid hu
              clear hj hu
              by_cases hjl : j < ts.length
              · have hjl' : (j : Int) < ts.length := by omega
                go_wp2_with fail
                refine (without_any _ _ j _ _ HU.out.r hjl hn hlc1 hcm1).mono ?_
                rintro e w6 ⟨a6, cap6, rfl, _, _, r6, b6⟩
                have R6 := Lib.hid r6
                have HU6 := Lib.hid (HU.out.below b6)
                clear r6 b6 HU
                go_wp2_with fail
                refine (utilization_any _ _ _ _ R6.out (by have := wo_length hjl; omega)).mono ?_
                rintro e w7 ⟨rfl, b7⟩
                have HU7 := Lib.hid (HU6.out.below b7)
                clear b7 HU6 R6
                obtain ⟨N2, hN2⟩ : ∃ N2, N2 = utN (wo ts j) := ⟨_, rfl⟩
                obtain ⟨D2, hD2⟩ : ∃ D2, D2 = utD (wo ts j) := ⟨_, rfl⟩
                have hbd2 := ut_bd (sv_wo HV.out j)
                have hless := ut_less HV.out hjl
                rw [← HND.out.1, ← HND.out.2] at hless
                rw [← hN2, ← hD2] at hless hbd2
                rw [← hN2, ← hD2]
                clear hN2 hD2
                obtain ⟨e1, e2, e3⟩ := hbd2
                have m1 := mul_bd N2 D (by omega) (by omega)
                have m2 := mul_bd N D2 (by omega) (by omega)
                obtain ⟨p1, p2, _⟩ := m1
                obtain ⟨p3, p4, _⟩ := m2
                have hlt' : ¬ (N : Int) * D2 ≤ (N2 : Int) * D := by
                  have : ((N2 * D : Nat) : Int) < ((N * D2 : Nat) : Int) := Int.ofNat_lt.2 hless
                  simp only [Int.natCast_mul] at this
                  omega
                clear hless
                have c0 := HU7.out.c0
                have c1 := HU7.out.c1
                have hult := HU7.out.lt
                have hune : ub ≠ w7.heap.size := Nat.ne_of_lt hult
                go_wp2
                go_roundg (gk - 1)
                case measure => have := HJ.out; omega
                case rel => exact ⟨j + 1, by have := HJ.out; omega, by go_num, HU7.out.below (below_box _ _)⟩
              · have hjl' : ¬ (j : Int) < ts.length := by omega
                have c0 := HU.out.c0
                have c1 := HU.out.c1
                have m1 := mul_bd N H (by omega) (by omega)
                have m2 := mul_bd S D (by omega) (by omega)
                obtain ⟨p1, p2, _⟩ := m1
                obtain ⟨p3, p4, _⟩ := m2
                have hdge : (1 : Int) ≤ D := by omega
                have heq : (((N : Int) * H) == ((S : Int) * D)) = true := by
                  have h3 := HF.out.2.2
                  rw [← HS2.out] at h3
                  have : ((N * H : Nat) : Int) = ((D * S : Nat) : Int) := by rw [h3]
                  simp only [Int.natCast_mul] at this
                  rw [beq_iff_eq, this, Int.mul_comm]
                go_wp2_with fail
                refine (alive_any _).mono ?_
                rintro e w8 ⟨rfl, b8⟩
                go_wp2
                go_ret
                exact ⟨rfl, (HU.out.below b8).b⟩
  · have hv' : svB ts = false := by simpa using hv
    clear hv
    have hz := ut_no hv'
    rw [← HND.out.1, ← HND.out.2] at hz
    obtain ⟨rfl, rfl⟩ := hz
    go_wp2_with fail
    refine (specSetValid_any _ _ _ _ HU3.out.r (by omega)).mono ?_
    rintro e w4 ⟨rfl, b4⟩
    have HU4 := Lib.hid (HU3.out.below b4)
    clear b4 d0 d1 HU3 HU
    have c0 := HU4.out.c0
    have c1 := HU4.out.c1
    go_wp2_with fail
    refine (alive_any _).mono ?_
    rintro e w5 ⟨rfl, b5⟩
    go_wp2
    go_ret
    exact ⟨rfl, (HU4.out.below b5).b⟩
end Go.Proofs.Ytcpgpioophlaoaa
