/- Contracts of impl.totalBandwidth and impl.ServersFeasible. Conditions: the slices hold what is said, at most 2^40 entries. -/
import Derived.Test.YtipnemngphglkaaSvImpl
import Derived.Test.YtipnemngphglkaaSrvFeas
import Derived.Test.YtipnemngphglkaaDemImpl
namespace Go.Proofs.Ytipnemngphglkaa
open Go.RowKit

theorem Frac.raw {N D S H c p : Nat} (h : Frac N D S H) (hp : 1 ≤ p) (hd : p ∣ H) : Frac (rn (N * p + c * D) (D * p)) (rd (N * p + c * D) (D * p)) (S + c * (H / p)) H := by
  obtain ⟨h1, h2, h3⟩ := h
  obtain ⟨q, rfl⟩ := hd
  have hq : p * q / p = q := Nat.mul_div_cancel_left q hp
  rw [hq]
  have hY : 1 ≤ D * p := Nat.mul_pos h2 hp
  obtain ⟨k1, k2, k3, _, _⟩ := rn_rd (N * p + c * D) (D * p) hY
  refine ⟨k1, k2, ?_⟩
  generalize rn (N * p + c * D) (D * p) = M at *
  generalize rd (N * p + c * D) (D * p) = E at *
  have hX : (N * p + c * D) * (p * q) = (D * p) * (S + c * q) := by
    have a1 : N * p * (p * q) = D * p * S := by
      rw [Nat.mul_right_comm N p (p * q), h3, Nat.mul_right_comm]
    have a2 : c * D * (p * q) = D * p * (c * q) := by ac_rfl
    rw [Nat.add_mul, a1, a2, Nat.mul_add]
  have : M * (p * q) * (D * p) = E * (S + c * q) * (D * p) := by
    rw [Nat.mul_right_comm M (p * q) (D * p), k3, Nat.mul_right_comm (N * p + c * D) E (p * q), hX]
    ac_rfl
  exact Nat.eq_of_mul_eq_mul_right hY this
theorem bw_step {ss : List A2} {N D den k : Nat} (h : Frac N D (snum ss den k) den) (hp : 1 ≤ aX ss k) (hd : aX ss k ∣ den) : Frac (rn (N * aX ss k + aT ss k * D) (D * aX ss k)) (rd (N * aX ss k + aT ss k * D) (D * aX ss k)) (snum ss den (k + 1)) den := h.raw hp hd

set_option maxRecDepth 100000 in
set_option maxHeartbeats 2000000 in
/-- impl.totalBandwidth. -/
theorem totalBandwidth_any (sa : Option Addr) (scap : Nat) (ss : List A2) (w : World) (hs : Row2 w sa ss) (hv : ssB ss = true) :
    Calls Try.prog 70 #[.slice sa ss.length scap] w fun e w' =>
      ∃ N D : Nat, e = .returned (.agg #[.int .i64 (N : Int), .int .i64 (D : Int)]) ∧ Frac N D (snum ss (sden ss ss.length) ss.length) (sden ss ss.length) ∧ Below w.heap.size w w' := by
  have HS := Lib.hid hs
  have HV := Lib.hid hv
  have h2 := (ssB_iff.1 hv).1
  have hden := sden_144 hv (Nat.le_refl ss.length)
  obtain ⟨den, hd⟩ : ∃ den, den = sden ss ss.length := ⟨_, rfl⟩
  rw [← hd] at hden ⊢
  have HD := Lib.hid hd
  clear hs hv hd
  go_enter Try.func70, Try.ntmps70
  go_wp2
  go_loopg [9] ss.length (fun m z wr => ∃ (k N D : Nat), m + k = ss.length ∧ z = .int .i64 k ∧ Frac N D (snum ss den k) den ∧ Below w.heap.size w wr ∧ w.heap.size + 1 < wr.heap.size ∧
    wr.cell? ⟨w.heap.size + 1, 0, none⟩ = some (.int .i64 (N : Int)) ∧ wr.cell? ⟨w.heap.size + 1, 1, none⟩ = some (.int .i64 (D : Int)) ∧ (wr.frozen? ⟨w.heap.size + 1, 0, none⟩ = false ∧ wr.frozen? ⟨w.heap.size + 1, 1, none⟩ = false) ∧
    (wr.cell? ⟨w.heap.size, 0, none⟩ = some (.int .i64 0) ∧ wr.cell? ⟨w.heap.size, 1, none⟩ = some (.int .i64 0) ∧ wr.frozen? ⟨w.heap.size, 0, none⟩ = false ∧ wr.frozen? ⟨w.heap.size, 1, none⟩ = false))
  case atStart => exact ⟨0, 0, 1, by omega, rfl, Frac.start den, (below_box _ _).alloc (by simp) _, by simp, by go_simp, by go_simp, ⟨by go_simp, by go_simp⟩, by go_simp, by go_simp, by go_simp, by go_simp⟩
  case round =>
    obtain ⟨k, N, D, hk, rfl, hfr, hb, hsz, y0, y1, ⟨z0, z1⟩, q0, q1, q2, q3⟩ := hrel
    have HK := Lib.hid hk
    have HF := Lib.hid hfr
    have HB := Lib.hid hb
    have hkk : k ≤ ss.length := by omega
    have hD1 := hfr.2.1
    have hD2 : D ≤ 144 := Nat.le_trans (Nat.le_of_dvd hden.1 hfr.dvd) hden.2
    have hN2 : N ≤ 288 := Nat.le_trans (hfr.num_le hden.1 (snum_le HV.out den hkk)) (by
      have : k * D ≤ 2 * 144 := Nat.mul_le_mul (by omega) hD2
      omega)
    clear hk hfr hb
    by_cases hlt : k < ss.length
    · obtain ⟨b, off, rfl, hbs, c0, c1⟩ := (HS.out.below HB.out) k hlt
      have hp := ss_pos HV.out hlt
      have e0 : (ab ss k).1 = (aT ss k : Nat) := by have := (ssB_iff.1 HV.out).2 k hlt; rw [ab_T]; omega
      have e1 : (ab ss k).2 = (aX ss k : Nat) := by have := (ssB_iff.1 HV.out).2 k hlt; rw [ab_X]; omega
      rw [e0] at c0
      rw [e1] at c1
      have HST := Lib.hid (bw_step HF.out (by omega) (by rw [HD.out]; exact sden_dvd hlt))
      obtain ⟨Q, hQ⟩ : ∃ Q, Q = aT ss k := ⟨_, rfl⟩
      obtain ⟨P, hP⟩ : ∃ P, P = aX ss k := ⟨_, rfl⟩
      rw [← hQ] at c0 hp HST
      rw [← hP] at c1 hp HST
      obtain ⟨p1, p2, p3⟩ := hp
      clear e0 e1 hQ hP HF
      have A := Lib.hid (fun W => plus_any N D Q P W (by omega) (by omega) hD1 (by omega) (by omega) (by omega))
      have B1 := Lib.hid (HB.out.alloc HB.out.size (.cells #[.int .i64 (Q : Int), .int .i64 (P : Int)] 27))
      obtain ⟨w1, hw1⟩ : ∃ w1, w1 = wr.alloc (.cells #[.int .i64 (Q : Int), .int .i64 (P : Int)] 27) := ⟨_, rfl⟩
      have x0 : w1.cell? ⟨wr.heap.size, 0, none⟩ = some (.int .i64 (Q : Int)) := by rw [hw1]; go_simp
      have x1 : w1.cell? ⟨wr.heap.size, 1, none⟩ = some (.int .i64 (P : Int)) := by rw [hw1]; go_simp
      have b1 : Below wr.heap.size wr w1 := by rw [hw1]; exact below_box _ _
      have Y0 := (b1.cell (p := ⟨w.heap.size + 1, 0, none⟩) hsz).trans y0
      have Y1 := (b1.cell (p := ⟨w.heap.size + 1, 1, none⟩) hsz).trans y1
      have hs1 : w.heap.size + 1 < w1.heap.size := Nat.lt_of_lt_of_le hsz b1.size
      have HW1 := Lib.hid hw1
      clear hw1
      go_wp2_with fail
      rw [← HW1.out]
      refine (A.out _).mono ?_
      rintro e w2 ⟨rfl, b2⟩
      have b12 : Below wr.heap.size wr w2 := b1.trans (b2.mono b1.size)
      have t0 := (b12.cell (p := ⟨w.heap.size + 1, 0, none⟩) hsz).trans y0
      have t1 := (b12.cell (p := ⟨w.heap.size + 1, 1, none⟩) hsz).trans y1
      have t2 := (b12.frozen (p := ⟨w.heap.size + 1, 0, none⟩) hsz).trans z0
      have t3 := (b12.frozen (p := ⟨w.heap.size + 1, 1, none⟩) hsz).trans z1
      have u0 := (b12.cell (p := ⟨w.heap.size, 0, none⟩) (by show w.heap.size < _; omega)).trans q0
      have u1 := (b12.cell (p := ⟨w.heap.size, 1, none⟩) (by show w.heap.size < _; omega)).trans q1
      have u2 := (b12.frozen (p := ⟨w.heap.size, 0, none⟩) (by show w.heap.size < _; omega)).trans q2
      have u3 := (b12.frozen (p := ⟨w.heap.size, 1, none⟩) (by show w.heap.size < _; omega)).trans q3
      have HB2 := Lib.hid (HB.out.trans (b12.mono HB.out.size))
      have hs2 : w.heap.size + 1 < w2.heap.size := Nat.lt_of_lt_of_le hsz b12.size
      clear b1 b2 b12 y0 y1 z0 z1 q0 q1 q2 q3 Y0 Y1 x0 x1 HW1
      go_wp2
      go_roundg (gk - 1)
      case measure => have := HK.out; omega
      case rel => exact ⟨k + 1, _, _, by have := HK.out; omega, by go_num, HST.out, (HB2.out.setCell (by simp) _).setCell (by simp) _, by simp [World.setCell]; omega, by simp [go_sem, t0], by simp [go_sem, t1], ⟨by simp [go_sem, t2], by simp [go_sem, t3]⟩, by simp [go_sem, u0], by simp [go_sem, u1], by simp [go_sem, u2], by simp [go_sem, u3]⟩
    · obtain rfl : k = ss.length := by omega
      go_wp2
      refine bodyPost_ret (v := .agg #[.int .i64 (N : Int), .int .i64 (D : Int)]) ?_ rfl ⟨N, D, rfl, HF.out, (HB.out.setCell (by simp) _).setCell (by simp) _⟩
      simp [results, Try.results70, go_sem, q0, q1]

theorem frac_test {N D num den V t : Nat} (h : Frac N D num den) (hd : 1 ≤ den) : (V * D + t * N ≤ t * D) ↔ (V * den + t * num ≤ t * den) := by
  obtain ⟨_, h2, h3⟩ := h
  have e1 : (V * D + t * N) * den = (V * den + t * num) * D := by
    rw [Nat.add_mul, Nat.add_mul, Nat.mul_right_comm V D den]
    congr 1
    rw [Nat.mul_assoc, h3, Nat.mul_assoc, Nat.mul_comm D num]
  have e2 : t * D * den = t * den * D := Nat.mul_right_comm t D den
  constructor
  · intro h
    have h4 := Nat.mul_le_mul_right den h
    rw [e1, e2] at h4
    exact Nat.le_of_mul_le_mul_right h4 h2
  · intro h
    have h4 := Nat.mul_le_mul_right D h
    rw [← e1, ← e2] at h4
    exact Nat.le_of_mul_le_mul_right h4 hd

set_option maxRecDepth 100000 in
set_option maxHeartbeats 4000000 in
/-- impl.ServersFeasible. -/
theorem serversFeasible_any (a sa : Option Addr) (cap scap : Nat) (ts : List T3) (ss : List A2) (w : World) (hr : Row w a ts) (hs : Row2 w sa ss) (hn : ts.length ≤ 1099511627776) (hsn : ss.length ≤ 1099511627776) :
    Calls Try.prog 22 #[.slice a ts.length cap, .slice sa ss.length scap] w fun e w' => e = .returned (.bool (sfB ts ss)) ∧ Below w.heap.size w w' := by
  have HR := Lib.hid hr
  have HS := Lib.hid hs
  clear hr hs
  go_enter Try.func22, Try.ntmps22
  go_wp2_with fail
  refine (setValid_any _ _ _ _ HR.out hn).mono ?_
  rintro e w1 ⟨rfl, b1⟩
  cases hv : svB ts with
  | false =>
    have HY := Lib.hid (sf_no1 (ss := ss) hv)
    clear hv
    go_wp2
    go_ret
    exact ⟨ret_bool HY.out.symm, b1⟩
  | true =>
    have HV := Lib.hid hv
    have HB1 := Lib.hid b1
    clear hv b1
    go_wp2_with fail
    refine (serversValid_any _ _ _ _ (HS.out.below HB1.out) hsn).mono ?_
    rintro e w2 ⟨rfl, b2⟩
    have HB2 := Lib.hid (HB1.out.trans (b2.mono HB1.out.size))
    cases hss : ssB ss with
    | false =>
      have HY := Lib.hid (sf_no2 (ts := ts) hss)
      clear hss b2
      go_wp2
      go_ret
      exact ⟨ret_bool HY.out.symm, HB2.out⟩
    | true =>
      have HSS := Lib.hid hss
      clear hss b2
      go_wp2_with fail
      refine (summed_demand _ _ _ _ (HR.out.below HB2.out) (sv_all HV.out).2).mono ?_
      rintro e w3 ⟨v, rfl, hsu, b3⟩
      have HSU := Lib.hid hsu
      have HB3 := Lib.hid (HB2.out.trans (b3.mono HB2.out.size))
      clear hsu b3
      go_wp2_with fail
      refine (totalBandwidth_any _ _ _ _ (HS.out.below HB3.out) HSS.out).mono ?_
      rintro e w4 ⟨N, D, rfl, hfr, b4⟩
      have HF := Lib.hid hfr
      have HSU4 := Lib.hid (HSU.out.below b4)
      have HB4 := Lib.hid (HB3.out.trans (b4.mono HB3.out.size))
      have hden := sden_144 HSS.out (Nat.le_refl ss.length)
      have hD1 := hfr.2.1
      have hD2 : D ≤ 144 := Nat.le_trans (Nat.le_of_dvd hden.1 hfr.dvd) hden.2
      have hN2 : N ≤ 288 := Nat.le_trans (hfr.num_le hden.1 (snum_le HSS.out (sden ss ss.length) (Nat.le_refl _))) (by
        have h2 := (ssB_iff.1 HSS.out).1
        have : ss.length * D ≤ 2 * 144 := Nat.mul_le_mul h2 hD2
        omega)
      have HDE := Lib.hid hden.1
      clear b4 hfr HSU hden
      go_wp2_with fail
      refine (hyperperiod_any _ _ _ _ (HR.out.below HB4.out) hn).mono ?_
      rintro e w5 ⟨rfl, b5⟩
      have HSU5 := Lib.hid (HSU4.out.below b5)
      have HB5 := Lib.hid (HB4.out.trans (b5.mono HB4.out.size))
      have hbd := hyp_bd ts (sv_all HV.out).1
      obtain ⟨H, hH⟩ : ∃ H, H = hyp ts := ⟨_, rfl⟩
      rw [hyB_yes HV.out, ← hH]
      rw [← hH] at hbd
      have HH := Lib.hid hH
      have hl5 := (sv_all HV.out).2
      obtain ⟨u6, hu6⟩ : ∃ u6, u6 = w5.alloc (.cells #[.int .i64 (N : Int), .int .i64 (D : Int)] 41) := ⟨_, rfl⟩
      have b6 : Below w5.heap.size w5 u6 := by rw [hu6]; exact below_box _ _
      have x0 : u6.cell? ⟨w5.heap.size, 0, none⟩ = some (.int .i64 (N : Int)) := by rw [hu6]; go_simp
      have x1 : u6.cell? ⟨w5.heap.size, 1, none⟩ = some (.int .i64 (D : Int)) := by rw [hu6]; go_simp
      have hlt6 : w5.heap.size < u6.heap.size := by rw [hu6]; simp
      have HSU6 := Lib.hid (HSU5.out.below b6)
      have HB6 := Lib.hid (HB5.out.trans (b6.mono HB5.out.size))
      obtain ⟨h1, h2⟩ := hbd
      clear b5 hH HSU4 HSU5 b6
      go_wp2
      rw [← hu6]
      clear hu6
      go_loopg [8] H (fun m i wr => ∃ t : Nat, m + t = H + 1 ∧ 1 ≤ t ∧ i = .int .i64 t ∧ (∀ u, 1 ≤ u → u < t → dem ts u * D + u * N ≤ u * D) ∧ Below u6.heap.size u6 wr)
      case atStart => exact ⟨1, rfl, Nat.le_refl _, rfl, fun u h1 h2 => by omega, Below.refl _ _⟩
      case round =>
        obtain ⟨t, hk, ht1, rfl, hall, B⟩ := hrel
        have HK := Lib.hid hk
        have HA := Lib.hid hall
        have HBU := Lib.hid B
        have htt : t ≤ H + 1 := by omega
        have y0 := (B.cell (p := ⟨w5.heap.size, 0, none⟩) hlt6).trans x0
        have y1 := (B.cell (p := ⟨w5.heap.size, 1, none⟩) hlt6).trans x1
        clear hk hall B
        by_cases hlt : t ≤ H
        · have hlt' : (t : Int) ≤ H := by omega
          obtain ⟨pb, rfl, -⟩ := summed1_demand v ts t wr (HSU6.out.below HBU.out) HV.out (by omega)
          have HC := Lib.hid (show ∀ n, Calls Try.prog 116 #[.int .i64 t, .pointer (some ⟨pb, 0, none⟩)] (wr.drewN n) fun e w' => e = .returned (.int .i64 (dem ts t : Nat)) ∧ ∃ m, w' = (wr.drewN n).drewN m from fun n => by
            obtain ⟨pb', e, hC⟩ := summed1_demand (.func (.func 116) #[] #[.pointer (some ⟨pb, 0, none⟩)]) ts t (wr.drewN n) ((HSU6.out.below HBU.out).below (below_drewN _ _)) HV.out (by omega)
            simp only [Value.func.injEq, true_and, Array.mk.injEq, List.cons.injEq, Value.pointer.injEq, Option.some.injEq, Addr.mk.injEq, and_true] at e
            subst e
            exact hC)
          have hvb := dem_le ts (sv_all HV.out).1 t
          have hvb2 : ts.length * (8 * (t + 1)) ≤ 5 * (8 * 27721) := Nat.mul_le_mul hl5 (Nat.mul_le_mul (Nat.le_refl _) (by omega))
          have HAT := Lib.hid (fun h : dem ts t * D + t * N ≤ t * D => fun u (h1 : 1 ≤ u) (h2 : u < t + 1) => show dem ts u * D + u * N ≤ u * D from by
            by_cases e : u = t
            · subst e; exact h
            · exact HA.out u h1 (by omega))
          have HNO := Lib.hid (fun h : ¬ dem ts t * D + t * N ≤ t * D => sf_no3 (ts := ts) (ss := ss) ht1 (by rw [← HH.out]; exact hlt) (fun h2 => h ((frac_test HF.out HDE.out).2 h2)))
          obtain ⟨V, hV⟩ : ∃ V, V = dem ts t := ⟨_, rfl⟩
          rw [← hV] at hvb HAT HNO HC
          have hV2 : V ≤ 1108840 := by omega
          clear hvb hvb2 hV
          have p1 : (0 : Int) ≤ (V : Int) * D := Int.mul_nonneg (by omega) (by omega)
          have p2 : (V : Int) * D ≤ 1108840 * 144 := Int.mul_le_mul (by omega) (by omega) (by omega) (by omega)
          have p3 : (0 : Int) ≤ (t : Int) * N := Int.mul_nonneg (by omega) (by omega)
          have p4 : (t : Int) * N ≤ 27721 * 288 := Int.mul_le_mul (by omega) (by omega) (by omega) (by omega)
          have p5 : (0 : Int) ≤ (t : Int) * D := Int.mul_nonneg (by omega) (by omega)
          have p6 : (t : Int) * D ≤ 27721 * 144 := Int.mul_le_mul (by omega) (by omega) (by omega) (by omega)
          have e1 : IntKind.i64.wrap ((V : Int) * D) = (V : Int) * D := IntWalk.i64_in _ (by omega)
          have e2 : IntKind.i64.wrap ((t : Int) * N) = (t : Int) * N := IntWalk.i64_in _ (by omega)
          have e3 : IntKind.i64.wrap ((t : Int) * D) = (t : Int) * D := IntWalk.i64_in _ (by omega)
          have e4 : IntKind.i64.wrap ((V : Int) * D + (t : Int) * N) = (V : Int) * D + (t : Int) * N := IntWalk.i64_in _ (by omega)
          by_cases hc : V * D + t * N ≤ t * D
          · have hc' : ¬ (t : Int) * D < (V : Int) * D + (t : Int) * N := by
              have : (V : Int) * D + (t : Int) * N ≤ (t : Int) * D := by exact_mod_cast hc
              omega
            have HC2 := Lib.hid hc
            clear hc
            go_wp2
            go_quiet ((go_at_call 116; exact quiet_drew (HC.out _)))
            go_wp2
            go_roundg (gk - 1)
            case measure => have := HK.out; omega
            case rel => exact ⟨t + 1, by have := HK.out; omega, by omega, by go_num, HAT.out HC2.out, below_drewN' HBU.out _⟩
          · have hc' : (t : Int) * D < (V : Int) * D + (t : Int) * N := by
              have h2 : t * D < V * D + t * N := by omega
              exact_mod_cast h2
            have HC2 := Lib.hid hc
            clear hc
            go_wp2
            go_quiet ((go_at_call 116; exact quiet_drew (HC.out _)))
            go_wp2
            go_ret
            exact ⟨ret_bool (HNO.out HC2.out).symm, HB6.out.trans ((below_drewN' HBU.out _).mono HB6.out.size)⟩
        · have hlt' : ¬ (t : Int) ≤ H := by omega
          have HY := Lib.hid (sfB_iff.2 ⟨HV.out, HSS.out, fun u h1 h2 => (frac_test HF.out HDE.out).1 (HA.out u h1 (by rw [← HH.out] at h2; omega))⟩)
          go_wp2
          go_ret
          exact ⟨ret_bool HY.out.symm, HB6.out.trans (HBU.out.mono HB6.out.size)⟩

end Go.Proofs.Ytipnemngphglkaa
