/- The walk of laws.FnServersFeasible, for whatever code. Condition: the argument is a slice of bytes. -/
import Derived.Test.YtipnemngphglkaaSvFeasImpl
import Derived.Test.YtipnemngphglkaaDrawRun5
import Derived.Test.YtipnemngphglkaaWithout
import Derived.BigQuiet
namespace Go.Proofs.Ytipnemngphglkaa
open Go.RowKit Go.Deep

theorem own_empty2 (w : World) : (w.alloc (.cells #[] 27)).drew.ownsRow w.heap.size 27 2 (.slice (some ⟨w.heap.size, 0, none⟩) 0 0) 0 [] :=
  ⟨rfl, .inr ⟨w.heap.size, 0, #[], rfl, Nat.le_refl _, blk_alloc_new _ _, Nat.le_refl _, by simp [maxLen], rfl, rfl⟩⟩
theorem own2_capm {t : TypeId} {w : World} {base : Nat} {a : Option Addr} {cap : Nat} {l : List A2} (h : Own2 t w base (.slice a l.length cap) l) : cap ≤ maxLen := by
  obtain ⟨_, ⟨e, h0⟩ | ⟨g, cap', cur, e, h3, hb, hnc, hcm, hsz, hx⟩⟩ := h
  · simp only [Value.slice.injEq] at e
    rw [e.2.2]
    simp [maxLen]
  · simp only [Value.slice.injEq] at e
    rw [e.2.2]
    exact hcm
theorem vals_oneC2 (f : Nat → Int) (n : Nat) : ∀ u ∈ vals f n, u.oneCell' = true := by
  intro u hu
  obtain ⟨k, _, rfl⟩ := List.mem_map.1 hu
  rfl
theorem ab_take {l : List A2} {i k : Nat} (h : k < i) : ab (l.take i) k = ab l k := by
  simp only [ab, List.getD_eq_getElem?_getD, List.getElem?_take_of_lt h]
theorem ab_drop (l : List A2) (i k : Nat) : ab (l.drop i) k = ab l (i + k) := by
  simp only [ab, List.getD_eq_getElem?_getD, List.getElem?_drop]
theorem Row2.lies {w : World} {b off m n : Nat} {l us : List A2} (h : Row2 w (some ⟨b, off, none⟩) l) (hb : b < w.heap.size) (hu : ∀ k, k < n → m + k < l.length ∧ ab us k = ab l (m + k)) : Lies w b (off + m * 2) (vals (f2 us) (n * 2)) :=
  ⟨hb, fun j u hj => by
    have hjl : j < n * 2 := by
      have := (List.getElem?_eq_some_iff.1 hj).1
      rwa [vals_len] at this
    rw [vals_at _ hjl] at hj
    obtain rfl := Option.some.inj hj
    obtain ⟨h1, h2⟩ := hu (j / 2) (by omega)
    obtain ⟨b', off', e, _, c0, c1⟩ := h _ h1
    simp only [Option.some.injEq, Addr.mk.injEq, and_true] at e
    obtain ⟨rfl, rfl⟩ := e
    rw [addr_add]
    unfold f2
    rw [h2]
    have h3 : j % 2 = 0 ∨ j % 2 = 1 := by omega
    rcases h3 with h3 | h3
    · rw [h3, show off + m * 2 + j = off + (m + j / 2) * 2 by omega]
      exact c0
    · rw [h3, show off + m * 2 + j = off + (m + j / 2) * 2 + 1 by omega]
      exact c1⟩
theorem wos_len {ss : List A2} {i : Nat} (hi : i < ss.length) : (wos ss i).length = ss.length - 1 := by
  simp [wos]
  omega
theorem wos_vals {ss : List A2} {i : Nat} (hi : i < ss.length) : vals (f2 (ss.take i)) (i * 2) ++ vals (f2 (ss.drop (i + 1))) ((ss.length - (i + 1)) * 2) = vals (f2 (wos ss i)) ((wos ss i).length * 2) := by
  have e : (wos ss i).length * 2 = i * 2 + (ss.length - (i + 1)) * 2 := by rw [wos_len hi]; omega
  have hl : (ss.take i).length = i := by simp; omega
  rw [e]
  unfold vals
  rw [List.range_add, List.map_append, List.map_map]
  congr 1
  · refine List.map_congr_left fun k hk => ?_
    have := List.mem_range.1 hk
    unfold f2
    simp only [wos, ab, List.getD_eq_getElem?_getD]
    rw [List.getElem?_append_left (by rw [hl]; omega)]
  · refine List.map_congr_left fun k hk => ?_
    show Value.int .i64 (f2 _ _) = Value.int .i64 (f2 _ _)
    unfold f2
    simp only [wos, ab, List.getD_eq_getElem?_getD]
    rw [show (i * 2 + k) % 2 = k % 2 by omega, List.getElem?_append_right (by rw [hl]; omega), hl, show (i * 2 + k) / 2 - i = k / 2 by omega]
theorem wos_row {w : World} {base i : Nat} {v : Value} {ss : List A2} (hi : i < ss.length) (ho : w.ownsRow base 27 2 v (0 + i + (ss.length - (i + 1))) ([] ++ vals (f2 (ss.take i)) (i * 2) ++ vals (f2 (ss.drop (i + 1))) ((ss.length - (i + 1)) * 2))) :
    ∃ a c, v = .slice a (wos ss i).length c ∧ Row2 w a (wos ss i) := by
  rw [List.nil_append, wos_vals hi, show 0 + i + (ss.length - (i + 1)) = (wos ss i).length by rw [wos_len hi]; omega] at ho
  have ho2 : Own2 27 w base v (wos ss i) := ho
  obtain ⟨a, c, rfl⟩ := ho2.shape
  exact ⟨a, c, rfl, ho2.row2⟩
theorem wos_row0 {w : World} {base i : Nat} {v : Value} {ss : List A2} (hi : i < ss.length) (h0 : ss.length ≤ i + 1) (ho : w.ownsRow base 27 2 v (0 + i + 0) ([] ++ vals (f2 (ss.take i)) (i * 2) ++ vals (f2 (ss.drop (i + 1))) (0 * 2))) :
    ∃ a c, v = .slice a (wos ss i).length c ∧ Row2 w a (wos ss i) :=
  wos_row hi (by have e : ss.length - (i + 1) = 0 := (by omega); rw [e]; exact ho)
theorem addB_bd {ss : List A2} {N D : Nat} (hs : ∀ k, k < ss.length → aT ss k ≤ 12 ∧ aX ss k ≤ 12) (hN : N ≤ 200000) (hD : D ≤ 200000) : ∀ {n : Nat}, n ≤ ss.length → (addB ss N D n).1 ≤ 200000 * 24 ^ n ∧ (addB ss N D n).2 ≤ 200000 * 24 ^ n
  | 0, _ => ⟨by show N ≤ _; omega, by show D ≤ _; omega⟩
  | n + 1, hn => by
    obtain ⟨h1, h2⟩ := addB_bd hs hN hD (n := n) (by omega)
    obtain ⟨h3, h4⟩ := hs n (by omega)
    have e1 : (addB ss N D n).1 * aX ss n ≤ 200000 * 24 ^ n * 12 := Nat.mul_le_mul h1 h4
    have e2 : (addB ss N D n).2 * aT ss n ≤ 200000 * 24 ^ n * 12 := Nat.mul_le_mul h2 h3
    have e3 : (addB ss N D n).2 * aX ss n ≤ 200000 * 24 ^ n * 12 := Nat.mul_le_mul h2 h4
    have e4 : 200000 * 24 ^ (n + 1) = 200000 * 24 ^ n * 12 + 200000 * 24 ^ n * 12 := by rw [Nat.pow_succ]; omega
    rw [e4]
    exact ⟨by show (addB ss N D n).1 * aX ss n + (addB ss N D n).2 * aT ss n ≤ _; omega, by show (addB ss N D n).2 * aX ss n ≤ _; omega⟩
theorem addB_s1 (ss : List A2) (N D n : Nat) : (addB ss N D (n + 1)).1 = (addB ss N D n).1 * aX ss n + (addB ss N D n).2 * aT ss n := rfl
theorem addB_s2 (ss : List A2) (N D n : Nat) : (addB ss N D (n + 1)).2 = (addB ss N D n).2 * aX ss n := rfl

set_option maxRecDepth 100000 in
set_option maxHeartbeats 8000000 in
/-- laws.FnServersFeasible. -/
theorem fnServersFeasible_walk (a : Option Addr) (len cap : Nat) (w : World) (hb : Byts w a len cap) :
    Calls Try.prog 5 #[.slice a len cap] w fun e w' => e = .returned (.bool true) ∧ Below w.heap.size w w' := by
  obtain ⟨i0, hi, hz, hsz, hby⟩ := info_parts srvInfo
  have HI := Lib.hid (And.intro hi (And.intro hz (And.intro hsz hby)))
  clear hi hz hsz hby
  have hm : cap ≤ maxLen := hb.2.2
  have hlc : len ≤ cap := hb.2.1
  unfold maxLen at hm
  have HB := Lib.hid hb
  clear hb
  by_cases hl : 1048576 < len
  · have hl' : (1048576 : Int) < len := by omega
    go_enter Try.func5, Try.ntmps5
    go_wp2
    go_ret
    exact ⟨rfl, Below.refl _ _⟩
  have hl' : ¬ (1048576 : Int) < len := by omega
  go_enter Try.func5, Try.ntmps5
  go_wp2_with fail
  refine (drawServersFeasible_any _ _ _ _ HB.out).mono ?_
  rintro e w1 ⟨g, cap1, scap, sa, ts, ss, rfl, hn, hlc1, hcm1, hsn, hr1, hos, b1⟩
  have hcs := own2_cap hos
  have hcm2 := own2_capm hos
  unfold maxLen at hcm2
  have R1 := Lib.hid (And.intro hr1 hos.row2)
  have B1 := Lib.hid b1
  clear hr1 hos b1 HB
  go_wp2_with fail
  refine (serversFeasible_any _ _ _ _ ts ss _ R1.out.1 R1.out.2 (by omega) (by omega)).mono ?_
  rintro e w2 ⟨rfl, b2⟩
  have B2 := Lib.hid (B1.out.trans (b2.mono B1.out.size))
  have R2 := Lib.hid (And.intro (R1.out.1.below b2) (R1.out.2.below b2))
  clear b2 R1 B1
  go_wp2_with fail
  refine (specServersFeasible_any _ _ _ _ ts ss _ R2.out.1 R2.out.2 (by omega) (by omega)).mono ?_
  rintro e w3 ⟨rfl, b3⟩
  have B3 := Lib.hid (B2.out.trans (b3.mono B2.out.size))
  have R3 := Lib.hid (And.intro (R2.out.1.below b3) (R2.out.2.below b3))
  clear b3 R2 B2
  obtain ⟨ok, hok⟩ : ∃ ok, ok = sfB ts ss := ⟨_, rfl⟩
  rw [← hok]
  have HOK := Lib.hid hok
  have hbb : (ok != ok) = false := by cases ok <;> rfl
  clear hok
  go_wp2_with fail
  have HE := Lib.hid (below_box w3 (.cells #[] 27))
  have HC := Lib.hid (serversFeasible_any (some ⟨g, 0, none⟩) (some ⟨w3.heap.size, 0, none⟩) cap1 0 ts [] _ (R3.out.1.below HE.out) (fun k hk => absurd hk (Nat.not_lt_zero _)) (by omega) (by simp))
  rw [sf_nil] at HC
  refine HC.out.mono ?_
  rintro e w4 ⟨rfl, b4⟩
  have b34 := HE.out.trans (b4.mono HE.out.size)
  have B4 := Lib.hid (B3.out.trans (b34.mono B3.out.size))
  have R4 := Lib.hid (And.intro (R3.out.1.below b34) (R3.out.2.below b34))
  clear b4 b34 R3 B3 HC HE
  go_wp2_with fail
  refine (edfFeasible_any _ _ ts _ R4.out.1 (by omega)).mono ?_
  rintro e w5 ⟨rfl, b5⟩
  have B5 := Lib.hid (B4.out.trans (b5.mono B4.out.size))
  have R5 := Lib.hid (And.intro (R4.out.1.below b5) (R4.out.2.below b5))
  clear b5 R4 B4
  obtain ⟨ed, hed⟩ : ∃ ed, ed = edf ts := ⟨_, rfl⟩
  rw [← hed]
  have hbe : (ed != ed) = false := by cases ed <;> rfl
  have HED := Lib.hid hed
  clear hed
  cases ok with
  | false =>
    go_wp2_with fail
    refine (alive_any _).mono ?_
    rintro e w6 ⟨rfl, b6⟩
    go_wp2
    go_ret
    exact ⟨rfl, B5.out.trans (b6.mono B5.out.size)⟩
  | true =>
    have hf : sfB ts ss = true := HOK.out.symm
    have hv := (sfB_iff.1 hf).1
    have hss := (sfB_iff.1 hf).2.1
    have hs2 := (ssB_iff.1 hss).1
    have HF := Lib.hid hf
    have HV := Lib.hid hv
    have HSS := Lib.hid hss
    have HTOT := Lib.hid (sf_total (N := utN ts) (D := utD ts) hf (by have := (frac_ut hv (hyp_bd ts (sv_all hv).1).1).2.2; rw [this]))
    have hfr := frac_ut hv (hyp_bd ts (sv_all hv).1).1
    have hbd := hyp_bd ts (sv_all hv).1
    have hD2 : utD ts ≤ 27720 := Nat.le_trans (Nat.le_of_dvd hbd.1 hfr.dvd) hbd.2
    have hN2 : utN ts ≤ 138600 := Nat.le_trans (hfr.num_le hbd.1 (by have := wrk_take_le hv (hyp ts) ts.length; rwa [List.take_length] at this)) (by omega)
    clear hf hv hss hfr hbd hbb hbe
    go_wp2_with fail
    refine (utilization_any _ _ ts _ R5.out.1 (by omega)).mono ?_
    rintro e w6 ⟨rfl, b6⟩
    obtain ⟨N, hN⟩ : ∃ N, N = utN ts := ⟨_, rfl⟩
    obtain ⟨D, hD⟩ : ∃ D, D = utD ts := ⟨_, rfl⟩
    rw [← hN, ← hD] at HTOT
    rw [← hN, ← hD]
    rw [← hN] at hN2
    rw [← hD] at hD2
    have HBD := Lib.hid (show ∀ n, n ≤ ss.length → (addB ss N D n).1 ≤ 115200000 ∧ (addB ss N D n).2 ≤ 115200000 from fun n hn => by
      have h := addB_bd (ss := ss) (N := N) (D := D) (fun k hk => by have := ss_pos HSS.out hk; omega) (by omega) (by omega) hn
      have h2 : 24 ^ n ≤ 24 ^ 2 := Nat.pow_le_pow_right (by omega) (by omega)
      omega)
    have BU : Below w5.heap.size w5 (w6.alloc (.cells #[.int .i64 (N : Int), .int .i64 (D : Int)] 41)) := b6.trans ((below_box _ _).mono b6.size)
    have B6 := Lib.hid (B5.out.trans (BU.mono B5.out.size))
    have R6 := Lib.hid (And.intro (R5.out.1.below BU) (R5.out.2.below BU))
    clear b6 BU hN hD R5 B5
    obtain ⟨u6, hu6⟩ : ∃ u6, u6 = w6.alloc (.cells #[.int .i64 (N : Int), .int .i64 (D : Int)] 41) := ⟨_, rfl⟩
    rw [← hu6] at B6 R6
    go_wp2
    rw [← hu6]
    clear hu6
    go_loopg [7, 8, 9] ss.length (fun m s7 s8 z wr => ∃ i : Nat, m + i = ss.length ∧ s7 = .int .i64 ((addB ss N D i).1 : Nat) ∧ s8 = .int .i64 ((addB ss N D i).2 : Nat) ∧ z = .int .i64 i ∧ Below u6.heap.size u6 wr)
    case atStart => exact ⟨0, by omega, rfl, rfl, rfl, Below.refl _ _⟩
    case round =>
      obtain ⟨i, hk, rfl, rfl, rfl, B⟩ := hrel
      have HK := Lib.hid hk
      have HBW := Lib.hid B
      have hii : i ≤ ss.length := by omega
      have hbd := HBD.out i hii
      have HSTEP1 := Lib.hid (addB_s1 ss N D i)
      have HSTEP2 := Lib.hid (addB_s2 ss N D i)
      obtain ⟨X1, hX1⟩ : ∃ X1, X1 = (addB ss N D i).1 := ⟨_, rfl⟩
      obtain ⟨X2, hX2⟩ : ∃ X2, X2 = (addB ss N D i).2 := ⟨_, rfl⟩
      rw [← hX1, ← hX2] at hbd
      rw [← hX1, ← hX2]
      rw [← hX1, ← hX2] at HSTEP1
      rw [← hX2] at HSTEP2
      obtain ⟨hx1, hx2⟩ := hbd
      have HXX := Lib.hid (And.intro hX1 hX2)
      clear hk B hX1 hX2
      by_cases hlt : i < ss.length
      · obtain ⟨b, off, eb, hb, c0, c1⟩ := (R6.out.2.below HBW.out) i hlt
        subst eb
        have hp := ss_pos HSS.out hlt
        have e0 : (ab ss i).1 = (aT ss i : Nat) := by have := (ssB_iff.1 HSS.out).2 i hlt; rw [ab_T]; omega
        have e1 : (ab ss i).2 = (aX ss i : Nat) := by have := (ssB_iff.1 HSS.out).2 i hlt; rw [ab_X]; omega
        rw [e0] at c0
        rw [e1] at c1
        have HWF := Lib.hid (sf_wos HF.out hlt)
        obtain ⟨Q, hQ⟩ : ∃ Q, Q = aT ss i := ⟨_, rfl⟩
        obtain ⟨P, hP⟩ : ∃ P, P = aX ss i := ⟨_, rfl⟩
        rw [← hQ] at c0 hp
        rw [← hP] at c1 hp
        rw [← hP, ← hQ] at HSTEP1
        rw [← hP] at HSTEP2
        obtain ⟨p1, p2, p3⟩ := hp
        clear e0 e1 hQ hP
        have m1 : X1 * P ≤ 115200000 * 12 := Nat.mul_le_mul hx1 (by omega)
        have m2 : X2 * Q ≤ 115200000 * 12 := Nat.mul_le_mul hx2 (by omega)
        have m3 : X2 * P ≤ 115200000 * 12 := Nat.mul_le_mul hx2 (by omega)
        have n1 : (X1 : Int) * P = ((X1 * P : Nat) : Int) := by simp
        have n2 : (X2 : Int) * Q = ((X2 * Q : Nat) : Int) := by simp
        have n3 : (X2 : Int) * P = ((X2 * P : Nat) : Int) := by simp
        have k1 : IntKind.i64.wrap ((X1 : Int) * P) = (X1 : Int) * P := IntWalk.i64_in _ (by rw [n1]; omega)
        have k2 : IntKind.i64.wrap ((X2 : Int) * Q) = (X2 : Int) * Q := IntWalk.i64_in _ (by rw [n2]; omega)
        have k3 : IntKind.i64.wrap ((X2 : Int) * P) = (X2 : Int) * P := IntWalk.i64_in _ (by rw [n3]; omega)
        have k4 : IntKind.i64.wrap ((X1 : Int) * P + (X2 : Int) * Q) = (X1 : Int) * P + (X2 : Int) * Q := IntWalk.i64_in _ (by rw [n1, n2]; omega)
        have HST := Lib.hid (show ((addB ss N D (i + 1)).1 : Int) = (X1 : Int) * P + (X2 : Int) * Q ∧ ((addB ss N D (i + 1)).2 : Int) = (X2 : Int) * P by
          rw [HSTEP1.out, HSTEP2.out]
          exact ⟨by simp, by simp⟩)
        have hi0 : (0 : Int) ≤ i := by omega
        have hi1 : (i : Int) < ss.length := by omega
        clear n1 n2 n3 m1 m2 m3 HSTEP1 HSTEP2
        go_wp2
        go_quiet (fail)
        go_wp2
        obtain ⟨w7, hw7⟩ : ∃ w7, w7 = wr.drewN nq := ⟨_, rfl⟩
        have b7 : Below wr.heap.size wr w7 := by rw [hw7]; exact below_drewN _ _
        have HBW := Lib.hid (HBW.out.trans (b7.mono HBW.out.size))
        have HT7 := Lib.hid (R6.out.1.below HBW.out)
        have S7 := R6.out.2.below HBW.out
        have hb7 : b < w7.heap.size := Nat.lt_of_lt_of_le hb b7.size
        have HN1 := Lib.hid (show Lies w7 b off (vals (f2 (ss.take i)) (i * 2)) from by
          have h := S7.lies (m := 0) (n := i) (us := ss.take i) hb7 (fun k hk => ⟨by omega, by rw [Nat.zero_add, ab_take hk]⟩)
          simpa using h)
        have HN2 := Lib.hid (show Lies w7 b (off + (i + 1) * 2) (vals (f2 (ss.drop (i + 1))) ((ss.length - (i + 1)) * 2)) from S7.lies (m := i + 1) (us := ss.drop (i + 1)) hb7 (fun k hk => ⟨by omega, ab_drop _ _ _⟩))
        rw [← hw7]
        clear hw7 b7 S7 c0 c1 k1 k2 k3 k4
        have q1 : (i : Int) ≤ scap := by omega
        have q2 : (i : Int) + 1 ≤ ss.length := by omega
        have q4 : (0 : Int) ≤ (i : Int) + 1 := by omega
        have q3 : (ss.length : Int) ≤ scap := by omega
        have hw : IntKind.i64.wrap ((i : Int) + 1) = (i : Int) + 1 := IntWalk.i64_in _ (by omega)
        by_cases hc : scap = i + 1
        · subst hc
          have q5 : (i : Int) ≤ (i : Int) + 1 := by omega
          have HN3 := Lib.hid (show Lies w7 b off (vals (f2 (ss.drop (i + 1))) (0 * 2)) from ⟨hb7, fun j u hj => by simp [vals] at hj⟩)
          clear HN2
          have HN2 := HN3
          clear HN3
          refine wp_region_noPanic ?_
          refine wp_region_held_drew (S := fun w' => b < w'.heap.size) (by kernel_rfl) ?_ (fun hHeld => ?_)
          · (try dsimp only)
            first | exact hb7 | (simp; omega) | (have := HB10.out.size; omega) | (have := HB9.out.size; omega) | (have := HB8.out.size; omega)
          refine wpAnyH_take (i := 0) (v := ?_) (toArr_get _ 0 _ rfl) (by kernel_rfl) (by kernel_rfl) (by kernel_rfl) (fun _ _ _ h => h) (Or.inl ⟨by rfl, ?_⟩) (by assumption) ?_
          rotate_left
          · (intro w hSw; (try dsimp only at hSw); go_simp; (try with_reducible rfl))
          (try simp only [Act.put, List.setIfInBounds_toArray, List.set_cons_zero, List.set_cons_succ])
          refine wpAnyH_take (i := 2) (v := ?_) (toArr_get _ 2 _ rfl) (by kernel_rfl) (by kernel_rfl) (by kernel_rfl) (fun _ _ _ h => h) (Or.inl ⟨by rfl, ?_⟩) (by assumption) ?_
          rotate_left
          · (intro w hSw; (try dsimp only at hSw); go_simp; (try with_reducible rfl))
          (try simp only [Act.put, List.setIfInBounds_toArray, List.set_cons_zero, List.set_cons_succ])
          refine wpAnyH_take (i := 3) (v := ?_) (toArr_get _ 3 _ rfl) (by kernel_rfl) (by kernel_rfl) (by kernel_rfl) (fun _ _ _ h => h) (Or.inl ⟨by rfl, ?_⟩) (by assumption) ?_
          rotate_left
          · (intro w hSw; (try dsimp only at hSw); go_simp; (try with_reducible rfl))
          (try simp only [Act.put, List.setIfInBounds_toArray, List.set_cons_zero, List.set_cons_succ])
          refine wpAnyH_take (i := 4) (v := ?_) (toArr_get _ 4 _ rfl) (by kernel_rfl) (by kernel_rfl) (by kernel_rfl) (fun _ _ _ h => h) (Or.inl ⟨by rfl, ?_⟩) (by assumption) ?_
          rotate_left
          · (intro w hSw; (try dsimp only at hSw); go_simp; (try with_reducible rfl))
          (try simp only [Act.put, List.setIfInBounds_toArray, List.set_cons_zero, List.set_cons_succ])
          refine wpAnyH_take (i := 6) (v := ?_) (toArr_get _ 6 _ rfl) (by kernel_rfl) (by kernel_rfl) (by kernel_rfl) (fun _ _ _ h => h) (Or.inl ⟨by rfl, ?_⟩) (by assumption) ?_
          rotate_left
          · (intro w hSw; (try dsimp only at hSw); go_simp; (try with_reducible rfl))
          (try simp only [Act.put, List.setIfInBounds_toArray, List.set_cons_zero, List.set_cons_succ])
          refine wpAnyH_take (i := 7) (v := ?_) (toArr_get _ 7 _ rfl) (by kernel_rfl) (by kernel_rfl) (by kernel_rfl) (fun _ _ _ h => h) (Or.inl ⟨by rfl, ?_⟩) (by assumption) ?_
          rotate_left
          · (intro w hSw; (try dsimp only at hSw); go_simp; (try with_reducible rfl))
          (try simp only [Act.put, List.setIfInBounds_toArray, List.set_cons_zero, List.set_cons_succ])
          refine wpAnyH_take (i := 8) (v := ?_) (toArr_get _ 8 _ rfl) (by kernel_rfl) (by kernel_rfl) (by kernel_rfl) (fun _ _ _ h => h) (Or.inl ⟨by rfl, ?_⟩) (by assumption) ?_
          rotate_left
          · (intro w hSw; (try dsimp only at hSw); go_simp; (try with_reducible rfl))
          (try simp only [Act.put, List.setIfInBounds_toArray, List.set_cons_zero, List.set_cons_succ])
          refine wpAnyH_take (i := 9) (v := ?_) (toArr_get _ 9 _ rfl) (by kernel_rfl) (by kernel_rfl) (by kernel_rfl) (fun _ _ _ h => h) (Or.inl ⟨by rfl, ?_⟩) (by assumption) ?_
          rotate_left
          · (intro w hSw; (try dsimp only at hSw); go_simp; (try with_reducible rfl))
          (try simp only [Act.put, List.setIfInBounds_toArray, List.set_cons_zero, List.set_cons_succ])
          refine wpAnyH_ready (rs := [1]) (by kernel_rfl) (by simp) ?_
          refine AllReadyH.cons (toArr_get _ 1 _ rfl) (fun K hK => ?_) ?_
          · go_simp
            refine hK.out _ _ ?_ (fun hHeld2 => ?_)
            · (try dsimp only)
              first | exact hb7 | (simp; omega) | (have := HB10.out.size; omega) | (have := HB9.out.size; omega) | (have := HB8.out.size; omega)
            clear hK K hHeld
            have hHeld := hHeld2
            clear hHeld2
            (try simp only [Act.put, List.setIfInBounds_toArray, List.set_cons_zero, List.set_cons_succ])
            refine wpAnyH_ready (rs := [5]) (by kernel_rfl) (by simp) ?_
            refine AllReadyH.cons (toArr_get _ 5 _ rfl) (fun K hK => ?_) ?_
            · rw [if_pos (by rfl)]
              refine wp_append_own _ (.tmp 72) (.tmp 75) 23 rfl w7.heap.size 27 i0 _ 2 16 Try.underlying23 HI.out.1 HI.out.2.1 HI.out.2.2.1 HI.out.2.2.2 rfl (by decide) (.slice (some ⟨w7.heap.size, 0, none⟩) 0 0) 0 [] rfl (own_empty2 w7) ⟨b, off, none⟩ i _ (vals (f2 (ss.take i)) (i * 2)) rfl (vals_len _ _) (HN1.out.drewalloc) (vals_oneC2 _ _) (by unfold maxLen; omega) (by omega) (by simp) ?_
              intro v1 w8 hown1 hgrow1 hnil1
              have HO1 := Lib.hid hown1
              have HB8 := Lib.hid (show Below w7.heap.size w7 w8 from (below_box _ _).drew.grown hgrow1 (by simp) (by simp [Value.ownBlock]))
              clear hown1 hgrow1 hnil1
              refine hK.out _ _ ?_ (fun hHeld2 => ?_)
              · (try dsimp only)
                first | exact hb7 | (simp; omega) | (have := HB10.out.size; omega) | (have := HB9.out.size; omega) | (have := HB8.out.size; omega)
              clear hK K hHeld
              have hHeld := hHeld2
              clear hHeld2
              (try simp only [Act.put, List.setIfInBounds_toArray, List.set_cons_zero, List.set_cons_succ])
              refine wpAnyH_ready (rs := [10]) (by kernel_rfl) (by simp) ?_
              refine AllReadyH.cons (toArr_get _ 10 _ rfl) (fun K hK => ?_) ?_
              · rw [if_pos (by rfl)]
                refine wp_append_own _ (.tmp 76) (.tmp 80) 23 rfl w7.heap.size 27 i0 _ 2 16 Try.underlying23 HI.out.1 HI.out.2.1 HI.out.2.2.1 HI.out.2.2.2 rfl (by decide) v1 (0 + i) ([] ++ vals (f2 (ss.take i)) (i * 2)) rfl HO1.out ⟨b, off, none⟩ 0 _ (vals (f2 (ss.drop (i + 1))) (0 * 2)) rfl (vals_len _ _) (HN2.out.below HB8.out) (vals_oneC2 _ _) (by unfold maxLen; omega) (by omega) HB8.out.size ?_
                intro v2 w9 hown2 hgrow2 hnil2
                have HO2 := Lib.hid hown2
                have HB9 := Lib.hid (show Below w7.heap.size w7 w9 from HB8.out.grown hgrow2 HB8.out.size (fun k hk => own_from HO1.out k hk))
                obtain ⟨av, cv, rfl, HWR⟩ := wos_row0 (ss := ss) hlt (by omega) hown2
                have HWR := Lib.hid HWR
                clear hown2 hgrow2 hnil2
                refine hK.out _ _ ?_ (fun hHeld2 => ?_)
                · (try dsimp only)
                  first | exact hb7 | (simp; omega) | (have := HB10.out.size; omega) | (have := HB9.out.size; omega) | (have := HB8.out.size; omega)
                clear hK K hHeld
                have hHeld := hHeld2
                clear hHeld2
                (try simp only [Act.put, List.setIfInBounds_toArray, List.set_cons_zero, List.set_cons_succ])
                refine wpAnyH_ready (rs := [11]) (by kernel_rfl) (by simp) ?_
                refine AllReadyH.cons (toArr_get _ 11 _ rfl) (fun K hK => ?_) ?_
                · go_simp
                  refine (serversFeasible_any _ _ _ _ ts (wos ss i) _ (HT7.out.below HB9.out) HWR.out (by omega) (by rw [wos_len hlt]; omega)).mono ?_
                  rintro e w10 ⟨rfl, b10⟩
                  rw [HWF.out]
                  have HB10 := Lib.hid (HB9.out.trans (b10.mono HB9.out.size))
                  clear b10
                  go_wp2_with fail
                  refine hK.out _ _ ?_ (fun hHeld2 => ?_)
                  · (try dsimp only)
                    first | exact hb7 | (simp; omega) | (have := HB10.out.size; omega) | (have := HB9.out.size; omega) | (have := HB8.out.size; omega)
                  clear hK K hHeld
                  have hHeld := hHeld2
                  clear hHeld2
                  (try simp only [Act.put, List.setIfInBounds_toArray, List.set_cons_zero, List.set_cons_succ])
                  refine wpAnyH_take (i := 12) (v := ?_) (toArr_get _ 12 _ rfl) (by kernel_rfl) (by kernel_rfl) (by kernel_rfl) (fun _ _ _ h => h) (Or.inl ⟨by rfl, ?_⟩) (by assumption) ?_
                  rotate_left
                  · (intro w hSw; (try dsimp only at hSw); go_simp; (try with_reducible rfl))
                  (try simp only [Act.put, List.setIfInBounds_toArray, List.set_cons_zero, List.set_cons_succ])
                  refine wpAnyH_done (by kernel_rfl) ?_ _
                  refine NoPanic.normal ?_
                  go_wp2
                  go_roundg (gk - 1)
                  case measure => have := HK.out; omega
                  case rel => exact ⟨i + 1, by have := HK.out; omega, by rw [HST.out.1], by rw [HST.out.2], by go_num, HBW.out.trans (HB10.out.mono HBW.out.size)⟩
                exact AllReadyH.nil
              exact AllReadyH.nil
            exact AllReadyH.nil
          exact AllReadyH.nil
        · have q5 : (i : Int) + 1 ≤ scap := by omega
          have q6 : ¬ (scap : Int) - ((i : Int) + 1) = 0 := by omega
          have q7 : ¬ scap - (i + 1) = 0 := by omega
          refine wp_region_noPanic ?_
          refine wp_region_held_drew (S := fun w' => b < w'.heap.size) (by kernel_rfl) ?_ (fun hHeld => ?_)
          · (try dsimp only)
            first | exact hb7 | (simp; omega) | (have := HB10.out.size; omega) | (have := HB9.out.size; omega) | (have := HB8.out.size; omega)
          refine wpAnyH_take (i := 0) (v := ?_) (toArr_get _ 0 _ rfl) (by kernel_rfl) (by kernel_rfl) (by kernel_rfl) (fun _ _ _ h => h) (Or.inl ⟨by rfl, ?_⟩) (by assumption) ?_
          rotate_left
          · (intro w hSw; (try dsimp only at hSw); go_simp; (try with_reducible rfl))
          (try simp only [Act.put, List.setIfInBounds_toArray, List.set_cons_zero, List.set_cons_succ])
          refine wpAnyH_take (i := 2) (v := ?_) (toArr_get _ 2 _ rfl) (by kernel_rfl) (by kernel_rfl) (by kernel_rfl) (fun _ _ _ h => h) (Or.inl ⟨by rfl, ?_⟩) (by assumption) ?_
          rotate_left
          · (intro w hSw; (try dsimp only at hSw); go_simp; (try with_reducible rfl))
          (try simp only [Act.put, List.setIfInBounds_toArray, List.set_cons_zero, List.set_cons_succ])
          refine wpAnyH_take (i := 3) (v := ?_) (toArr_get _ 3 _ rfl) (by kernel_rfl) (by kernel_rfl) (by kernel_rfl) (fun _ _ _ h => h) (Or.inl ⟨by rfl, ?_⟩) (by assumption) ?_
          rotate_left
          · (intro w hSw; (try dsimp only at hSw); go_simp; (try with_reducible rfl))
          (try simp only [Act.put, List.setIfInBounds_toArray, List.set_cons_zero, List.set_cons_succ])
          refine wpAnyH_take (i := 4) (v := ?_) (toArr_get _ 4 _ rfl) (by kernel_rfl) (by kernel_rfl) (by kernel_rfl) (fun _ _ _ h => h) (Or.inl ⟨by rfl, ?_⟩) (by assumption) ?_
          rotate_left
          · (intro w hSw; (try dsimp only at hSw); go_simp; (try with_reducible rfl))
          (try simp only [Act.put, List.setIfInBounds_toArray, List.set_cons_zero, List.set_cons_succ])
          refine wpAnyH_take (i := 6) (v := ?_) (toArr_get _ 6 _ rfl) (by kernel_rfl) (by kernel_rfl) (by kernel_rfl) (fun _ _ _ h => h) (Or.inl ⟨by rfl, ?_⟩) (by assumption) ?_
          rotate_left
          · (intro w hSw; (try dsimp only at hSw); go_simp; (try with_reducible rfl))
          (try simp only [Act.put, List.setIfInBounds_toArray, List.set_cons_zero, List.set_cons_succ])
          refine wpAnyH_take (i := 7) (v := ?_) (toArr_get _ 7 _ rfl) (by kernel_rfl) (by kernel_rfl) (by kernel_rfl) (fun _ _ _ h => h) (Or.inl ⟨by rfl, ?_⟩) (by assumption) ?_
          rotate_left
          · (intro w hSw; (try dsimp only at hSw); go_simp; (try with_reducible rfl))
          (try simp only [Act.put, List.setIfInBounds_toArray, List.set_cons_zero, List.set_cons_succ])
          refine wpAnyH_take (i := 8) (v := ?_) (toArr_get _ 8 _ rfl) (by kernel_rfl) (by kernel_rfl) (by kernel_rfl) (fun _ _ _ h => h) (Or.inl ⟨by rfl, ?_⟩) (by assumption) ?_
          rotate_left
          · (intro w hSw; (try dsimp only at hSw); go_simp; (try with_reducible rfl))
          (try simp only [Act.put, List.setIfInBounds_toArray, List.set_cons_zero, List.set_cons_succ])
          refine wpAnyH_take (i := 9) (v := ?_) (toArr_get _ 9 _ rfl) (by kernel_rfl) (by kernel_rfl) (by kernel_rfl) (fun _ _ _ h => h) (Or.inl ⟨by rfl, ?_⟩) (by assumption) ?_
          rotate_left
          · (intro w hSw; (try dsimp only at hSw); go_simp; (try with_reducible rfl))
          (try simp only [Act.put, List.setIfInBounds_toArray, List.set_cons_zero, List.set_cons_succ])
          refine wpAnyH_ready (rs := [1]) (by kernel_rfl) (by simp) ?_
          refine AllReadyH.cons (toArr_get _ 1 _ rfl) (fun K hK => ?_) ?_
          · go_simp
            refine hK.out _ _ ?_ (fun hHeld2 => ?_)
            · (try dsimp only)
              first | exact hb7 | (simp; omega) | (have := HB10.out.size; omega) | (have := HB9.out.size; omega) | (have := HB8.out.size; omega)
            clear hK K hHeld
            have hHeld := hHeld2
            clear hHeld2
            (try simp only [Act.put, List.setIfInBounds_toArray, List.set_cons_zero, List.set_cons_succ])
            refine wpAnyH_ready (rs := [5]) (by kernel_rfl) (by simp) ?_
            refine AllReadyH.cons (toArr_get _ 5 _ rfl) (fun K hK => ?_) ?_
            · rw [if_pos (by rfl)]
              refine wp_append_own _ (.tmp 72) (.tmp 75) 23 rfl w7.heap.size 27 i0 _ 2 16 Try.underlying23 HI.out.1 HI.out.2.1 HI.out.2.2.1 HI.out.2.2.2 rfl (by decide) (.slice (some ⟨w7.heap.size, 0, none⟩) 0 0) 0 [] rfl (own_empty2 w7) ⟨b, off, none⟩ i _ (vals (f2 (ss.take i)) (i * 2)) rfl (vals_len _ _) (HN1.out.drewalloc) (vals_oneC2 _ _) (by unfold maxLen; omega) (by omega) (by simp) ?_
              intro v1 w8 hown1 hgrow1 hnil1
              have HO1 := Lib.hid hown1
              have HB8 := Lib.hid (show Below w7.heap.size w7 w8 from (below_box _ _).drew.grown hgrow1 (by simp) (by simp [Value.ownBlock]))
              clear hown1 hgrow1 hnil1
              refine hK.out _ _ ?_ (fun hHeld2 => ?_)
              · (try dsimp only)
                first | exact hb7 | (simp; omega) | (have := HB10.out.size; omega) | (have := HB9.out.size; omega) | (have := HB8.out.size; omega)
              clear hK K hHeld
              have hHeld := hHeld2
              clear hHeld2
              (try simp only [Act.put, List.setIfInBounds_toArray, List.set_cons_zero, List.set_cons_succ])
              refine wpAnyH_ready (rs := [10]) (by kernel_rfl) (by simp) ?_
              refine AllReadyH.cons (toArr_get _ 10 _ rfl) (fun K hK => ?_) ?_
              · rw [if_pos (by rfl)]
                refine wp_append_own _ (.tmp 76) (.tmp 80) 23 rfl w7.heap.size 27 i0 _ 2 16 Try.underlying23 HI.out.1 HI.out.2.1 HI.out.2.2.1 HI.out.2.2.2 rfl (by decide) v1 (0 + i) ([] ++ vals (f2 (ss.take i)) (i * 2)) rfl HO1.out ⟨b, off + (i + 1) * 2, none⟩ (ss.length - (i + 1)) (scap - (i + 1)) (vals (f2 (ss.drop (i + 1))) ((ss.length - (i + 1)) * 2)) rfl (vals_len _ _) (HN2.out.below HB8.out) (vals_oneC2 _ _) (by unfold maxLen; omega) (by omega) HB8.out.size ?_
                intro v2 w9 hown2 hgrow2 hnil2
                have HO2 := Lib.hid hown2
                have HB9 := Lib.hid (show Below w7.heap.size w7 w9 from HB8.out.grown hgrow2 HB8.out.size (fun k hk => own_from HO1.out k hk))
                obtain ⟨av, cv, rfl, HWR⟩ := wos_row (ss := ss) hlt hown2
                have HWR := Lib.hid HWR
                clear hown2 hgrow2 hnil2
                refine hK.out _ _ ?_ (fun hHeld2 => ?_)
                · (try dsimp only)
                  first | exact hb7 | (simp; omega) | (have := HB10.out.size; omega) | (have := HB9.out.size; omega) | (have := HB8.out.size; omega)
                clear hK K hHeld
                have hHeld := hHeld2
                clear hHeld2
                (try simp only [Act.put, List.setIfInBounds_toArray, List.set_cons_zero, List.set_cons_succ])
                refine wpAnyH_ready (rs := [11]) (by kernel_rfl) (by simp) ?_
                refine AllReadyH.cons (toArr_get _ 11 _ rfl) (fun K hK => ?_) ?_
                · go_simp
                  refine (serversFeasible_any _ _ _ _ ts (wos ss i) _ (HT7.out.below HB9.out) HWR.out (by omega) (by rw [wos_len hlt]; omega)).mono ?_
                  rintro e w10 ⟨rfl, b10⟩
                  rw [HWF.out]
                  have HB10 := Lib.hid (HB9.out.trans (b10.mono HB9.out.size))
                  clear b10
                  go_wp2_with fail
                  refine hK.out _ _ ?_ (fun hHeld2 => ?_)
                  · (try dsimp only)
                    first | exact hb7 | (simp; omega) | (have := HB10.out.size; omega) | (have := HB9.out.size; omega) | (have := HB8.out.size; omega)
                  clear hK K hHeld
                  have hHeld := hHeld2
                  clear hHeld2
                  (try simp only [Act.put, List.setIfInBounds_toArray, List.set_cons_zero, List.set_cons_succ])
                  refine wpAnyH_take (i := 12) (v := ?_) (toArr_get _ 12 _ rfl) (by kernel_rfl) (by kernel_rfl) (by kernel_rfl) (fun _ _ _ h => h) (Or.inl ⟨by rfl, ?_⟩) (by assumption) ?_
                  rotate_left
                  · (intro w hSw; (try dsimp only at hSw); go_simp; (try with_reducible rfl))
                  (try simp only [Act.put, List.setIfInBounds_toArray, List.set_cons_zero, List.set_cons_succ])
                  refine wpAnyH_done (by kernel_rfl) ?_ _
                  refine NoPanic.normal ?_
                  go_wp2
                  go_roundg (gk - 1)
                  case measure => have := HK.out; omega
                  case rel => exact ⟨i + 1, by have := HK.out; omega, by rw [HST.out.1], by rw [HST.out.2], by go_num, HBW.out.trans (HB10.out.mono HBW.out.size)⟩
                exact AllReadyH.nil
              exact AllReadyH.nil
            exact AllReadyH.nil
          exact AllReadyH.nil
      · obtain rfl : i = ss.length := by omega
        have htot : X1 ≤ X2 := by rw [HXX.out.1, HXX.out.2]; exact HTOT.out
        have htot2 : (X1 : Int) ≤ X2 := by omega
        have HEY := Lib.hid (sf_edf HF.out)
        go_wp2_with fail
        refine (edfFeasible_any _ _ ts _ (R6.out.1.below HBW.out) (by omega)).mono ?_
        rintro e w8 ⟨rfl, b8⟩
        rw [HEY.out]
        go_wp2
        go_ret
        exact ⟨rfl, B6.out.trans ((HBW.out.trans (b8.mono HBW.out.size)).mono B6.out.size)⟩

end Go.Proofs.Ytipnemngphglkaa
