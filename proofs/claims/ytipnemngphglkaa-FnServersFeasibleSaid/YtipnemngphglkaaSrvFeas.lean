/- Contract of spec.ServersFeasible. Conditions: the slices hold what is said, at most 2^40 entries. -/
import Derived.Test.YtipnemngphglkaaSrv
import Derived.Test.YtipnemngphglkaaDemSpec
namespace Go.Proofs.Ytipnemngphglkaa
open Go.RowKit

theorem lcm_div {d p : Nat} : d / Nat.gcd d p * p = Nat.lcm d p := by
  rw [Nat.div_mul_right_comm (Nat.gcd_dvd_left d p)]
  rfl
theorem sden_le {ss : List A2} (h : ssB ss = true) : ∀ {n : Nat}, n ≤ ss.length → sden ss n ≤ 12 ^ n
  | 0, _ => Nat.le_refl _
  | n + 1, hn => by
    have ih := sden_le h (n := n) (by omega)
    have hp := ss_pos h (show n < ss.length by omega)
    show Nat.lcm (sden ss n) (aX ss n) ≤ _
    refine Nat.le_trans (Nat.le_of_dvd (Nat.mul_pos (sden_pos fun k hk => by have := ss_pos h (show k < ss.length by omega); omega) (by omega)) (Nat.lcm_dvd_mul _ _)) ?_
    rw [Nat.pow_succ]
    exact Nat.mul_le_mul ih (by omega)
theorem sden_144 {ss : List A2} (h : ssB ss = true) {n : Nat} (hn : n ≤ ss.length) : 1 ≤ sden ss n ∧ sden ss n ≤ 144 := by
  have h2 := (ssB_iff.1 h).1
  refine ⟨sden_pos fun k hk => by have := ss_pos h (show k < ss.length by omega); omega, Nat.le_trans (sden_le h hn) ?_⟩
  exact Nat.le_trans (Nat.pow_le_pow_right (by omega) (show n ≤ 2 by omega)) (by decide)
theorem snum_le {ss : List A2} (h : ssB ss = true) (d : Nat) : ∀ {n : Nat}, n ≤ ss.length → snum ss d n ≤ n * d
  | 0, _ => Nat.zero_le _
  | n + 1, hn => by
    have ih := snum_le h d (n := n) (by omega)
    have hp := ss_pos h (show n < ss.length by omega)
    show snum ss d n + aT ss n * (d / aX ss n) ≤ (n + 1) * d
    have h1 : aT ss n * (d / aX ss n) ≤ d := Nat.le_trans (Nat.mul_le_mul_right _ hp.2.1) (Nat.mul_div_le d (aX ss n))
    rw [Nat.add_mul, Nat.one_mul]
    omega
theorem sf_no1 {ts : List T3} {ss : List A2} (h : svB ts = false) : sfB ts ss = false := by rw [sfB, h]; rfl
theorem sf_no2 {ts : List T3} {ss : List A2} (h : ssB ss = false) : sfB ts ss = false := by rw [sfB, h, Bool.and_false]; rfl
theorem sf_no3 {ts : List T3} {ss : List A2} {t : Nat} (h1 : 1 ≤ t) (h2 : t ≤ hyp ts) (h : ¬ dem ts t * sden ss ss.length + t * snum ss (sden ss ss.length) ss.length ≤ t * sden ss ss.length) : sfB ts ss = false := by
  cases hs : sfB ts ss with
  | false => rfl
  | true => exact absurd ((sfB_iff.1 hs).2.2 t h1 h2) h

set_option maxRecDepth 100000 in
set_option maxHeartbeats 4000000 in
/-- spec.ServersFeasible. -/
theorem specServersFeasible_any (a sa : Option Addr) (cap scap : Nat) (ts : List T3) (ss : List A2) (w : World) (hr : Row w a ts) (hs : Row2 w sa ss) (hn : ts.length ≤ 1099511627776) (hsn : ss.length ≤ 1099511627776) :
    Calls Try.prog 23 #[.slice a ts.length cap, .slice sa ss.length scap] w fun e w' => e = .returned (.bool (sfB ts ss)) ∧ Below w.heap.size w w' := by
  have HR := Lib.hid hr
  have HS := Lib.hid hs
  clear hr hs
  cases hv : svB ts with
  | false =>
    go_enter Try.func23, Try.ntmps23
    go_wp2_with fail
    refine (specSetValid_any _ _ _ _ HR.out hn).mono ?_
    rintro e w1 ⟨rfl, b1⟩
    rw [hv]
    have HY := Lib.hid (sf_no1 (ss := ss) hv)
    clear hv
    go_wp2
    go_ret
    exact ⟨ret_bool HY.out.symm, b1⟩
  | true =>
  have HV := Lib.hid hv
  clear hv
  cases hv2 : ssB ss with
  | false =>
    go_enter Try.func23, Try.ntmps23
    go_wp2_with fail
    refine (specSetValid_any _ _ _ _ HR.out hn).mono ?_
    rintro e w1 ⟨rfl, b1⟩
    rw [HV.out]
    go_wp2_with fail
    refine (specServersValid_any _ _ _ _ (HS.out.below b1) hsn).mono ?_
    rintro e w2 ⟨rfl, b2⟩
    rw [hv2]
    have HY := Lib.hid (sf_no2 (ts := ts) hv2)
    clear hv2
    go_wp2
    go_ret
    exact ⟨ret_bool HY.out.symm, b1.trans (b2.mono b1.size)⟩
  | true =>
  have HV2 := Lib.hid hv2
  clear hv2
  have hs2 : ss.length ≤ 2 := (ssB_iff.1 HV2.out).1
  go_enter Try.func23, Try.ntmps23
  go_wp2_with fail
  refine (specSetValid_any _ _ _ _ HR.out hn).mono ?_
  rintro e w1 ⟨rfl, b1⟩
  rw [HV.out]
  go_wp2_with fail
  refine (specServersValid_any _ _ _ _ (HS.out.below b1) hsn).mono ?_
  rintro e w2 ⟨rfl, b2⟩
  rw [HV2.out]
  have B2 := b1.trans (b2.mono b1.size)
  have R2 := Lib.hid (HR.out.below B2)
  have S2 := Lib.hid (HS.out.below B2)
  clear b1 b2 HR HS
  go_wp2
  go_loopg [5, 6] ss.length (fun m d i wr => ∃ k : Nat, m + k = ss.length ∧ i = .int .i64 k ∧ d = .int .i64 (sden ss k : Nat) ∧ Below w2.heap.size w2 wr)
  case atStart => exact ⟨0, rfl, rfl, rfl, Below.refl _ _⟩
  case round =>
    obtain ⟨k, hk, rfl, rfl, B⟩ := hrel
    have HK := Lib.hid hk
    have hkk : k ≤ ss.length := by omega
    have hdb := sden_144 HV2.out hkk
    obtain ⟨d, hd⟩ : ∃ d, d = sden ss k := ⟨_, rfl⟩
    rw [← hd] at hdb ⊢
    have HD := Lib.hid hd
    clear hk hd
    by_cases hlt : k < ss.length
    · obtain ⟨b, off, rfl, hbs, x0, x1⟩ := (S2.out.below B) k hlt
      have hp := ss_pos HV2.out hlt
      have hpe : (ab ss k).2 = (aX ss k : Nat) := by have := (ssB_iff.1 HV2.out).2 k hlt; rw [ab_X]; omega
      rw [hpe] at x1
      obtain ⟨p, hP⟩ : ∃ p, p = aX ss k := ⟨_, rfl⟩
      rw [← hP] at x1 hp
      have HP := Lib.hid hP
      clear hP hpe
      obtain ⟨g, hg⟩ : ∃ g, g = Nat.gcd d p := ⟨_, rfl⟩
      have hg1 : 1 ≤ g := by rw [hg]; exact Nat.gcd_pos_of_pos_left _ hdb.1
      have CG := Lib.hid (fun W => l1Gcd_any d p W (by omega) (by omega))
      rw [← hg] at CG
      have HG := Lib.hid hg
      clear hg
      have hne : ((g : Int) == 0) = false := by simp; omega
      have hq0 : (0 : Int) ≤ (d : Int) / g := Int.ediv_nonneg (by omega) (by omega)
      have hq1 : (d : Int) / g ≤ 144 := Int.le_trans (Int.ediv_le_self _ (by omega)) (by omega)
      have hm0 : (0 : Int) ≤ (d : Int) / g * p := Int.mul_nonneg hq0 (by omega)
      have hm1 : (d : Int) / g * p ≤ 1728 := Int.le_trans (Int.mul_le_mul hq1 (show (p : Int) ≤ 12 by omega) (by omega) (by omega)) (by omega)
      have hk0 : (0 : Int) ≤ k := by omega
      have hk1 : (k : Int) < ss.length := by omega
      clear hp x0
      go_wp2
      go_quiet ((go_at_call 73; exact quiet_left (CG.out _)))
      go_wp2
      go_roundg (gk - 1)
      case measure => have := HK.out; omega
      case rel =>
        refine ⟨k + 1, by have := HK.out; omega, by go_num, ?_, below_drewN' B _⟩
        have e : sden ss (k + 1) = d / g * p := by show Nat.lcm (sden ss k) (aX ss k) = _; rw [← HD.out, ← HP.out, HG.out, lcm_div]
        rw [e]
        go_num
    · obtain rfl : k = ss.length := by omega
      obtain ⟨w3, hw3⟩ : ∃ w3, w3 = wr := ⟨_, rfl⟩
      subst hw3
      have S3 := Lib.hid (S2.out.below B)
      have R3 := Lib.hid (R2.out.below B)
      have B3 := B2.trans (B.mono B2.size)
      clear S2 R2 B2 B HK
      go_wp2
      go_loopg [7, 8] ss.length (fun m x i wr => ∃ k : Nat, m + k = ss.length ∧ i = .int .i64 k ∧ x = .int .i64 (snum ss d k : Nat) ∧ Below w3.heap.size w3 wr)
      case atStart => exact ⟨0, by omega, rfl, rfl, Below.refl _ _⟩
      case round =>
        obtain ⟨k, hk, rfl, rfl, B⟩ := hrel
        have HK := Lib.hid hk
        have hkk : k ≤ ss.length := by omega
        have hxb := snum_le HV2.out d hkk
        have hxb2 : k * d ≤ 288 := Nat.le_trans (Nat.mul_le_mul (show k ≤ 2 by omega) hdb.2) (by omega)
        obtain ⟨x, hx⟩ : ∃ x, x = snum ss d k := ⟨_, rfl⟩
        rw [← hx] at hxb ⊢
        have HX := Lib.hid hx
        have hxb3 : x ≤ 288 := by omega
        clear hk hx hxb hxb2
        by_cases hlt : k < ss.length
        · obtain ⟨b, off, rfl, hbs, x0, x1⟩ := (S3.out.below B) k hlt
          have hp := ss_pos HV2.out hlt
          have hpe : (ab ss k).2 = (aX ss k : Nat) ∧ (ab ss k).1 = (aT ss k : Nat) := by have := (ssB_iff.1 HV2.out).2 k hlt; rw [ab_X, ab_T]; omega
          rw [hpe.2] at x0
          rw [hpe.1] at x1
          obtain ⟨p, hP⟩ : ∃ p, p = aX ss k := ⟨_, rfl⟩
          obtain ⟨q, hQ⟩ : ∃ q, q = aT ss k := ⟨_, rfl⟩
          rw [← hP] at x1 hp
          rw [← hQ] at x0 hp
          have HP := Lib.hid (And.intro hP hQ)
          clear hP hpe hQ
          have hne : ((p : Int) == 0) = false := by simp; omega
          have hq0 : (0 : Int) ≤ (d : Int) / p := Int.ediv_nonneg (by omega) (by omega)
          have hq1 : (d : Int) / p ≤ 144 := Int.le_trans (Int.ediv_le_self _ (by omega)) (by omega)
          have hm0 : (0 : Int) ≤ (q : Int) * ((d : Int) / p) := Int.mul_nonneg (by omega) hq0
          have hm1 : (q : Int) * ((d : Int) / p) ≤ 1728 := Int.le_trans (Int.mul_le_mul (show (q : Int) ≤ 12 by omega) hq1 hq0 (by omega)) (by omega)
          have hk0 : (0 : Int) ≤ k := by omega
          have hk1 : (k : Int) < ss.length := by omega
          have hp1 : 1 ≤ p := by omega
          have hp1' : (1 : Int) ≤ p := by omega
          clear hp
          go_wp2
          go_quiet (fail)
          go_wp2
          go_roundg (gk - 1)
          case measure => have := HK.out; omega
          case rel =>
            refine ⟨k + 1, by have := HK.out; omega, by go_num, ?_, below_drewN' B _⟩
            have e : snum ss d (k + 1) = x + q * (d / p) := by show snum ss d k + aT ss k * (d / aX ss k) = _; rw [← HX.out, ← HP.out.1, ← HP.out.2]
            rw [e]
            go_num
        · obtain rfl : k = ss.length := by omega
          obtain ⟨w4, hw4⟩ : ∃ w4, w4 = wr := ⟨_, rfl⟩
          subst hw4
          have R4 := Lib.hid (R3.out.below B)
          have B4 := B3.trans (B.mono B3.size)
          have hhb := hyp_bd ts (sv_all HV.out).1
          have hl5 := (sv_all HV.out).2
          clear S3 R3 B3 B HK
          go_wp2_with fail
          refine (l1Hyper_any _ _ _ _ R4.out hn (sv_all HV.out).1).mono ?_
          rintro e w5 ⟨rfl, n5, hw5⟩
          have b5 : Below w4.heap.size w4 w5 := by rw [hw5]; exact below_drewN _ _
          have R5 := Lib.hid (R4.out.below b5)
          have B5 := B4.trans (b5.mono B4.size)
          clear hw5 b5 R4 B4
          obtain ⟨H, hH⟩ : ∃ H, H = hyp ts := ⟨_, rfl⟩
          rw [← hH] at hhb ⊢
          have HH := Lib.hid hH
          clear hH
          go_wp2
          go_loopg [10] H (fun m i wr => ∃ t : Nat, m + t = H + 1 ∧ 1 ≤ t ∧ i = .int .i64 t ∧ (∀ u, 1 ≤ u → u < t → dem ts u * d + u * x ≤ u * d) ∧ Below w5.heap.size w5 wr)
          case atStart => exact ⟨1, rfl, Nat.le_refl _, rfl, fun u h1 h2 => by omega, Below.refl _ _⟩
          case round =>
            obtain ⟨t, hk, ht1, rfl, hall, B⟩ := hrel
            have HK := Lib.hid hk
            have HA := Lib.hid hall
            have htt : t ≤ H + 1 := by omega
            clear hk hall
            by_cases hlt : t ≤ H
            · have hlt' : (t : Int) ≤ H := by omega
              go_wp2_with fail
              refine (l2Demand_any _ _ _ t _ (R5.out.below B) HV.out (by omega)).mono ?_
              rintro e w6 ⟨rfl, n6, hw6⟩
              have b6 : Below wr.heap.size wr w6 := by rw [hw6]; exact below_drewN _ _
              have B6 := B.trans (b6.mono B.size)
              clear hw6 b6
              have hvb := dem_le ts (sv_all HV.out).1 t
              have hvb2 : ts.length * (8 * (t + 1)) ≤ 5 * (8 * 27721) := Nat.mul_le_mul hl5 (Nat.mul_le_mul (Nat.le_refl _) (by omega))
              have HAT := Lib.hid (fun h : dem ts t * d + t * x ≤ t * d => fun u (h1 : 1 ≤ u) (h2 : u < t + 1) => show dem ts u * d + u * x ≤ u * d from by
                by_cases e : u = t
                · subst e; exact h
                · exact HA.out u h1 (by omega))
              have HNO := Lib.hid (fun h : ¬ dem ts t * d + t * x ≤ t * d => sf_no3 (ts := ts) (ss := ss) ht1 (by rw [← HH.out]; exact hlt) (by rw [← HD.out, ← HX.out]; exact h))
              obtain ⟨V, hV⟩ : ∃ V, V = dem ts t := ⟨_, rfl⟩
              rw [← hV] at hvb HAT HNO ⊢
              have hV2 : V ≤ 1108840 := by omega
              clear hvb hvb2 hV
              have p1 : (0 : Int) ≤ (V : Int) * d := Int.mul_nonneg (by omega) (by omega)
              have p2 : (V : Int) * d ≤ 1108840 * 144 := Int.mul_le_mul (by omega) (by omega) (by omega) (by omega)
              have p3 : (0 : Int) ≤ (t : Int) * x := Int.mul_nonneg (by omega) (by omega)
              have p4 : (t : Int) * x ≤ 27721 * 288 := Int.mul_le_mul (by omega) (by omega) (by omega) (by omega)
              have p5 : (0 : Int) ≤ (t : Int) * d := Int.mul_nonneg (by omega) (by omega)
              have p6 : (t : Int) * d ≤ 27721 * 144 := Int.mul_le_mul (by omega) (by omega) (by omega) (by omega)
              by_cases hc : V * d + t * x ≤ t * d
              · have hc' : ¬ (t : Int) * d < (V : Int) * d + (t : Int) * x := by
                  have : (V : Int) * d + (t : Int) * x ≤ (t : Int) * d := by exact_mod_cast hc
                  omega
                have HC := Lib.hid hc
                clear hc
                go_wp2
                go_roundg (gk - 1)
                case measure => have := HK.out; omega
                case rel => exact ⟨t + 1, by have := HK.out; omega, by omega, by go_num, HAT.out HC.out, B6⟩
              · have hc' : (t : Int) * d < (V : Int) * d + (t : Int) * x := by
                  have h2 : t * d < V * d + t * x := by omega
                  exact_mod_cast h2
                have HC := Lib.hid hc
                clear hc
                go_wp2
                go_ret
                exact ⟨ret_bool (HNO.out HC.out).symm, B5.trans (B6.mono B5.size)⟩
            · have hlt' : ¬ (t : Int) ≤ H := by omega
              have HY := Lib.hid (sfB_iff.2 ⟨HV.out, HV2.out, fun u h1 h2 => by rw [← HD.out, ← HX.out]; exact HA.out u h1 (by rw [← HH.out] at h2; omega)⟩)
              go_wp2
              go_ret
              exact ⟨ret_bool HY.out.symm, B5.trans (B.mono B5.size)⟩

end Go.Proofs.Ytipnemngphglkaa
