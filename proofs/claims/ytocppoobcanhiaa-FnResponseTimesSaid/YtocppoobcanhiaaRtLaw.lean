/- The walk of laws.FnResponseTimes, for whatever code. Condition: the argument is a slice of bytes. -/
import Derived.Test.YtocppoobcanhiaaRtImpl
import Derived.Test.YtocppoobcanhiaaDrawOrd
import Derived.Test.YtocppoobcanhiaaSame
import Derived.StillTailTactics
namespace Go.Proofs.Ytocppoobcanhiaa
open Go.RowKit Go.Deep

/-- Among the numbers from r + 1 to the deadline, x is the first fixed point, or -1. -/
def RtFnd (F : Nat → Nat) (D r : Nat) (x : Int) : Prop :=
  (x = -1 ∧ ∀ q, r < q → q ≤ D → F q ≠ q) ∨ ∃ q : Nat, x = q ∧ r < q ∧ q ≤ D ∧ F q = q ∧ ∀ p, r < p → p < q → F p ≠ p
theorem RtFnd.skip {F : Nat → Nat} {D r : Nat} {x : Int} (h : RtFnd F D (r + 1) x) (hf : F (r + 1) ≠ r + 1) : RtFnd F D r x := by
  rcases h with ⟨e, h⟩ | ⟨q, e, h1, h2, h3, h4⟩
  · exact .inl ⟨e, fun q hq hd => by
      by_cases e : q = r + 1
      · subst e; exact hf
      · exact h q (by omega) hd⟩
  · exact .inr ⟨q, e, by omega, h2, h3, fun p hp hpq => by
      by_cases e : p = r + 1
      · subst e; exact hf
      · exact h4 p (by omega) hpq⟩
theorem RtFnd.all {F : Nat → Nat} {D : Nat} {x : Int} (h : RtFnd F D 0 x) : x = optI (lfp F D) := by
  rcases h with ⟨e, h⟩ | ⟨q, e, h1, h2, h3, h4⟩
  · cases hp : lfp F D with
    | none => exact e
    | some i =>
      obtain ⟨a, b, c, _⟩ := lfp_some hp
      exact absurd c (h i (by omega) b)
  · rw [lfp_eq (by omega) h2 h3 (fun x a b => h4 x (by omega) b)]
    exact e
theorem rt_first {ts : List T3} {os : List Int} (h : ordB ts os = true) (hk : 0 < os.length) : lfp (rL ts (abv os 0) (os.getD 0 0).toNat) (dln (tk ts (os.getD 0 0).toNat)) = some (cst (tk ts (os.getD 0 0).toNat)) := by
  have hy := ord_at h hk
  have hb := tv_bd (tk_tv (sv_all (ordB_iff.1 h).1).1 (show (os.getD 0 0).toNat < ts.length by omega))
  refine lfp_eq hb.1 (by omega) ?_ fun x hx hl => ?_
  · simp [rL, abv, wkL]
  · have hr : rL ts (abv os 0) (os.getD 0 0).toNat x = cst (tk ts (os.getD 0 0).toNat) := by simp [rL, abv, wkL]
    rw [hr]
    omega
theorem rt_step {ts : List T3} {os : List Int} {k j : Nat} (hj : j < k) (hk : k ≤ os.length) (x : Nat) : wkL ts (abv os (j + 1)) x = wkL ts (abv os j) x + cl ts (os.getD j 0).toNat x := by
  have h : j < os.length := by omega
  have e : os.getD j 0 = os[j] := by simp [List.getD, List.getElem?_eq_getElem h]
  rw [abv, List.take_succ_eq_append_getElem h, List.map_append, wkL, List.map_append, List.sum_append, e]
  simp [wkL, abv]
theorem wkL_bd {ts : List T3} {os : List Int} (h : ordB ts os = true) {k : Nat} {x : Nat} (hx : x ≤ 12) (hk : k ≤ os.length) : wkL ts (abv os k) x ≤ 100000 := by
  have hn5 : os.length ≤ 5 := by have h1 := ordB_iff.1 h; have := (sv_all h1.1).2; omega
  have h1 := wkL_le (ts := ts) (hs := abv os k) (sv_all (ordB_iff.1 h).1).1 (abv_getD h) hx (abv os k).length (Nat.le_refl _)
  rw [List.take_length, abv_len hk] at h1
  omega
set_option maxRecDepth 100000 in
set_option maxHeartbeats 8000000 in
/-- laws.FnResponseTimes. -/
theorem fnResponseTimes_walk (a : Option Addr) (len cap : Nat) (w : World) (hb : Byts w a len cap) :
    Calls Try.prog 9 #[.slice a len cap] w fun e w' => e = .returned (.bool true) ∧ Below w.heap.size w w' := by
  have hm : cap ≤ maxLen := hb.2.2
  have hlc : len ≤ cap := hb.2.1
  unfold maxLen at hm
  have HB := Lib.hid hb
  clear hb
  by_cases hl : 1048576 < len
  · have hl' : (1048576 : Int) < len := by omega
    go_enter Try.func9, Try.ntmps9
    go_wp2
    go_ret
    exact ⟨rfl, Below.refl _ _⟩
  have hl' : ¬ (1048576 : Int) < len := by omega
  go_enter Try.func9, Try.ntmps9
  go_wp2_with fail
  refine (drawResponseTimes_any _ _ _ _ HB.out).mono ?_
  rintro e w1 ⟨g, cap1, og, ocap, ts, os, rfl, hn, hlc1, hcm1, hon, honc, hr1, ho1, b1⟩
  have R1 := Lib.hid hr1
  clear hr1 HB
  have O1 := Lib.hid ho1
  have I1 := Lib.hid ho1.intF'
  clear ho1
  go_wp2_with fail
  refine (responseTimes_any _ _ _ _ ts os _ R1.out I1.out (by omega) honc).mono ?_
  rintro e w2 ⟨⟨v, rfl, ho⟩, b2⟩
  obtain ⟨va, vc, rfl⟩ := own_shape ho
  have hrn : rtN ts os ≤ 12 := by unfold rtN; split <;> omega
  have V2 := Lib.hid ho.intF'
  have R2 := Lib.hid (R1.out.below b2)
  have I2 := Lib.hid (I1.out.below b2)
  have B2 := b1.trans (b2.mono b1.size)
  clear ho R1 I1 O1 b1 b2
  go_wp2_with fail
  refine (specResponseTimes_any _ _ _ _ ts os _ R2.out I2.out (by omega) honc).mono ?_
  rintro e w3 ⟨⟨v, rfl, ho⟩, b3⟩
  obtain ⟨ua, uc, rfl⟩ := own_shape ho
  have U3 := Lib.hid ho.intF'
  have V3 := Lib.hid (V2.out.below b3)
  have R3 := Lib.hid (R2.out.below b3)
  have I3 := Lib.hid (I2.out.below b3)
  have B3 := B2.trans (b3.mono B2.size)
  clear ho b3 R2 I2 V2 B2
  go_wp2_with fail
  refine (sameInts_same _ _ _ _ _ _ _ V3.out U3.out (by omega)).mono ?_
  rintro e w4 ⟨rfl, n4, hw4⟩
  have b4 : Below w3.heap.size w3 w4 := by rw [hw4]; exact below_drewN _ _
  have V4 := Lib.hid (V3.out.below b4)
  have R4 := Lib.hid (R3.out.below b4)
  have I4 := Lib.hid (I3.out.below b4)
  have B4 := B3.trans (b4.mono B3.size)
  clear hw4 b4 R3 I3 V3 B3 U3
  go_wp2_with fail
  refine (specOrderValid_any _ _ _ _ ts os _ R4.out I4.out (by omega) honc).mono ?_
  rintro e w5 ⟨rfl, b5⟩
  have V5 := Lib.hid (V4.out.below b5)
  have R5 := Lib.hid (R4.out.below b5)
  have I5 := Lib.hid (I4.out.below b5)
  have B5 := B4.trans (b5.mono B4.size)
  clear b5 R4 I4 V4 B4
  cases hv : ordB ts os with
  | false =>
    have hz := rtN_no hv
    rw [hz]
    go_wp2_with fail
    refine (alive_any _).mono ?_
    rintro e w6 ⟨rfl, b6⟩
    go_wp2
    go_ret
    exact ⟨rfl, B5.trans (b6.mono B5.size)⟩
  | true =>
    have HV := Lib.hid hv
    have hn5 : os.length ≤ 5 := by have h1 := ordB_iff.1 hv; have := (sv_all h1.1).2; omega
    have hz := rtN_yes hv
    rw [hz]
    rw [hz] at V5
    clear hz hv hrn
    go_wp2
    go_loopg [6] os.length (fun m z wr => ∃ k : Nat, m + k = os.length ∧ z = .int .i64 k ∧ Below w5.heap.size w5 wr)
    case atStart => exact ⟨0, by omega, rfl, Below.refl _ _⟩
    case round =>
      obtain ⟨k, hk, rfl, B⟩ := hrel
      obtain ⟨G, hG⟩ : ∃ G, G = gk := ⟨_, rfl⟩
      have HG := Lib.hid hG
      have HK := Lib.hid hk
      have hkk : k ≤ os.length := by omega
      clear hk hG
      by_cases hlt : k < os.length
      · have hk0 : (0 : Int) ≤ k := by omega
        have hk1 : (k : Int) < os.length := by omega
        obtain ⟨bo, oo, ea, hbo, x0⟩ := (I5.out.below B) k hlt
        simp only [Option.some.injEq, Addr.mk.injEq, and_true] at ea
        obtain ⟨rfl, rfl⟩ := ea
        have hyb := ord_at HV.out hlt
        have HL := Lib.hid (rsp_list HV.out k)
        have HF0 := Lib.hid (fun h : k = 0 => rt_first HV.out (show 0 < os.length by omega))
        obtain ⟨y, hy⟩ : ∃ y, y = (os.getD k 0).toNat := ⟨_, rfl⟩
        rw [← hy] at HL
        have hy' : os.getD k 0 = (y : Int) := by omega
        have HY := Lib.hid hy'
        simp only [hy', Nat.zero_add] at x0
        have hyl : y < ts.length := by omega
        have hy0 : (0 : Int) ≤ y := by omega
        have hy1 : (y : Int) < ts.length := by omega
        have htv := tk_tv (sv_all (ordB_iff.1 HV.out).1).1 hyl
        have hbd := tv_bd htv
        obtain ⟨bt, ot, ea, hbt, e0, e1, e2⟩ := (R5.out.below B).at hyl
        simp only [Option.some.injEq, Addr.mk.injEq, and_true] at ea
        obtain ⟨rfl, rfl⟩ := ea
        simp only [Nat.zero_add] at e0 e1 e2
        rw [← hbd.2.2.2.2.2.1] at e0
        rw [← hbd.2.2.2.2.2.2.1] at e1
        rw [← hbd.2.2.2.2.2.2.2] at e2
        obtain ⟨F, hF⟩ : ∃ F, F = rL ts (abv os k) y := ⟨_, rfl⟩
        have HFF := Lib.hid (show ∀ x, F x = cst (tk ts y) + wkL ts (abv os k) x from fun x => by rw [hF]; rfl)
        rw [← hF] at HL
        obtain ⟨C, hC⟩ : ∃ C, C = cst (tk ts y) := ⟨_, rfl⟩
        obtain ⟨D, hD⟩ : ∃ D, D = dln (tk ts y) := ⟨_, rfl⟩
        obtain ⟨q, hq⟩ : ∃ q, q = per (tk ts y) := ⟨_, rfl⟩
        rw [← hC] at e0 HFF
        rw [← hD] at e1 HL
        rw [← hq] at e2
        have hC2 : C ≤ 8 := by rw [hC]; exact hbd.2.2.2.2.1
        have hD2 : D ≤ 12 := by rw [hD]; omega
        have HC := Lib.hid hC
        clear hy hyb hy' hbd htv hF hC hD hq
        obtain ⟨w6, hw6⟩ : ∃ w6, w6 = wr.alloc (.cells #[.int .i64 (C : Int), .int .i64 (D : Int), .int .i64 (q : Int)] 46) := ⟨_, rfl⟩
        have T6 := Lib.hid (show w6.cell? ⟨wr.heap.size, 0, none⟩ = some (.int .i64 (C : Int)) ∧ w6.cell? ⟨wr.heap.size, 1, none⟩ = some (.int .i64 (D : Int)) from by rw [hw6]; simp [go_sem])
        have b6 : Below wr.heap.size wr w6 := by rw [hw6]; exact below_box _ _
        have s6 : wr.heap.size < w6.heap.size := by rw [hw6]; simp
        have B6 := B.trans (b6.mono B.size)
        have HW6 := Lib.hid hw6
        clear hw6
        obtain ⟨b7, hb7⟩ : ∃ b7, b7 = wr.heap.size := ⟨_, rfl⟩
        have HB7 := Lib.hid hb7
        rw [← hb7] at T6 s6
        clear hb7
        go_wp2
        rw [← HW6.out, ← HB7.out]
        clear e0 e1 e2 x0
        go_loopg [8, 9] D (fun m s z w2 => ∃ (r : Nat) (x : Int), m = r ∧ z = .int .i64 r ∧ s = .int .i64 x ∧ r ≤ D ∧ RtFnd F D r x ∧ Below w6.heap.size w6 w2)
        case atStart => exact ⟨D, -1, rfl, rfl, rfl, Nat.le_refl _, .inl ⟨rfl, fun q h1 h2 => by omega⟩, Below.refl _ _⟩
        case round =>
          obtain ⟨r, x, hm2, rfl, rfl, hrD, hfd, B7⟩ := hrel
          obtain ⟨G2, hG2⟩ : ∃ G2, G2 = gk := ⟨_, rfl⟩
          have HG2 := Lib.hid hG2
          have HM2 := Lib.hid hm2
          have HFD := Lib.hid hfd
          clear hm2 hfd hG2
          have t0 := (B7.cell (p := ⟨b7, 0, none⟩) s6).trans T6.out.1
          cases r with
          | zero =>
            have hfa := HFD.out.all
            rw [HL.out] at hfa
            have BX := B6.trans (B7.mono B6.size)
            obtain ⟨bo, oo, ea, hbo, x0⟩ := (I5.out.below BX) k hlt
            simp only [Option.some.injEq, Addr.mk.injEq, and_true] at ea
            obtain ⟨rfl, rfl⟩ := ea
            simp only [HY.out, Nat.zero_add] at x0
            have hyn : y < ts.length := hyl
            obtain ⟨bv, ov, ea, _, v0⟩ := (V5.out.below BX) y hyn
            subst ea
            have hrt : rtF ts os y = x := by rw [rtF, rk_place HV.out hlt HY.out]; exact hfa.symm
            simp only [hrt] at v0
            have hc0 : k = 0 → x = C := fun h => by
              subst h
              have h1 := HF0.out rfl
              rw [HY.out, Int.toNat_natCast] at h1
              have h2 := hfa
              rw [← HL.out] at h2
              rw [h2, HC.out]
              have h3 := rsp_list HV.out 0
              rw [HY.out, Int.toNat_natCast, h1] at h3
              rw [HL.out, ← h3]
              rfl
            have HC0 := Lib.hid hc0
            clear hfa hrt hc0
            by_cases hkz : k = 0
            · have hxC := HC0.out hkz
              subst hkz
              subst hxC
              go_wp2
              go_roundg (G - 1)
              case measure => have := HG.out; have := HK.out; omega
              case rel => exact ⟨1, by have := HG.out; have := HK.out; omega, by go_num, BX⟩
            · have hkz' : ((k : Int) == 0) = false := by simp; omega
              go_wp2
              go_roundg (G - 1)
              case measure => have := HG.out; have := HK.out; omega
              case rel => exact ⟨k + 1, by have := HG.out; have := HK.out; omega, by go_num, BX⟩
          | succ r =>
            have hr1 : (1 : Int) ≤ ((r + 1 : Nat) : Int) := by omega
            have hw7 : IntKind.i64.wrap (((r + 1 : Nat) : Int) - 1) = (r : Int) := by rw [IntWalk.i64_in _ (by omega)]; omega
            obtain ⟨rr, hrr⟩ : ∃ rr, rr = r + 1 := ⟨_, rfl⟩
            rw [← hrr] at hr1 hw7 hrD HFD HM2 ⊢
            have hrb : rr ≤ 12 := by omega
            have HRR := Lib.hid hrr
            clear hrr
            go_wp2
            go_loopg [10, 11] k (fun m s z w3 => ∃ j : Nat, m + j = k ∧ z = .int .i64 j ∧ s = .int .i64 ((C + wkL ts (abv os j) rr : Nat) : Int) ∧ Below w6.heap.size w6 w3)
            case atStart => exact ⟨0, by omega, rfl, by simp [abv, wkL], B7⟩
            case round =>
              clear t0 B7
              obtain ⟨j, hj, rfl, rfl, B8⟩ := hrel
              have HJ := Lib.hid hj
              have hjk : j ≤ k := by omega
              clear hj
              have hSb := wkL_bd HV.out hrb (show j ≤ os.length by omega)
              obtain ⟨S, hS⟩ : ∃ S, S = C + wkL ts (abv os j) rr := ⟨_, rfl⟩
              have hS2 : S ≤ 200000 := by omega
              have HS := Lib.hid hS
              rw [← hS]
              clear hS hSb
              have BX := B6.trans (B8.mono B6.size)
              by_cases hjl : j < k
              · have hj0 : (0 : Int) ≤ j := by omega
                have hj1 : (j : Int) < os.length := by omega
                have hj2 : (j : Int) < k := by omega
                obtain ⟨bo, oo, ea, hbo, x0⟩ := (I5.out.below BX) j (by omega)
                simp only [Option.some.injEq, Addr.mk.injEq, and_true] at ea
                obtain ⟨rfl, rfl⟩ := ea
                have hzb := ord_at HV.out (show j < os.length by omega)
                have HST := Lib.hid (rt_step (ts := ts) hjl hkk rr)
                obtain ⟨z, hz⟩ : ∃ z, z = (os.getD j 0).toNat := ⟨_, rfl⟩
                rw [← hz] at HST
                have hz' : os.getD j 0 = (z : Int) := by omega
                simp only [hz', Nat.zero_add] at x0
                have hzl : z < ts.length := by omega
                have hz0 : (0 : Int) ≤ z := by omega
                have hz1 : (z : Int) < ts.length := by omega
                have hbd := tv_bd (tk_tv (sv_all (ordB_iff.1 HV.out).1).1 hzl)
                obtain ⟨bt, ot, ea, hbt, e0, e1, e2⟩ := (R5.out.below BX).at hzl
                simp only [Option.some.injEq, Addr.mk.injEq, and_true] at ea
                obtain ⟨rfl, rfl⟩ := ea
                simp only [Nat.zero_add] at e0 e1 e2
                rw [← hbd.2.2.2.2.2.1] at e0
                rw [← hbd.2.2.2.2.2.2.1] at e1
                rw [← hbd.2.2.2.2.2.2.2] at e2
                have HCL := Lib.hid (show cl ts z rr = (rr + per (tk ts z) - 1) / per (tk ts z) * cst (tk ts z) from rfl)
                obtain ⟨c, hc⟩ : ∃ c, c = cst (tk ts z) := ⟨_, rfl⟩
                obtain ⟨d, hd⟩ : ∃ d, d = dln (tk ts z) := ⟨_, rfl⟩
                obtain ⟨p, hp⟩ : ∃ p, p = per (tk ts z) := ⟨_, rfl⟩
                rw [← hc, ← hd, ← hp] at hbd
                rw [← hc] at e0
                rw [← hd] at e1
                rw [← hp] at e2
                rw [← hc, ← hp] at HCL
                have p1 : 1 ≤ c := hbd.1
                have p2 : 1 ≤ p := by omega
                have p4 : p ≤ 12 := hbd.2.2.2.1
                have p5 : c ≤ 8 := hbd.2.2.2.2.1
                clear hc hd hp hbd hz hz' hzb
                have hne : ((p : Int) == 0) = false := by simp; omega
                have hs0 : (0 : Int) ≤ (rr : Int) + p - 1 := by omega
                have hq0 : (0 : Int) ≤ ((rr : Int) + p - 1) / p := Int.ediv_nonneg (by omega) (by omega)
                have hq1 : ((rr : Int) + p - 1) / p ≤ 23 := Int.le_trans (Int.ediv_le_self _ hs0) (by omega)
                have hm0 : (0 : Int) ≤ ((rr : Int) + p - 1) / p * c := Int.mul_nonneg (by omega) (by omega)
                have hm1 : ((rr : Int) + p - 1) / p * c ≤ 184 := Int.le_trans (Int.mul_le_mul hq1 (show (c : Int) ≤ 8 by omega) (by omega) (by omega)) (by omega)
                go_wp2
                go_quiet (fail)
                go_wp2
                go_roundg (gk - 1)
                case measure => have := HJ.out; omega
                case rel => exact ⟨j + 1, by have := HJ.out; omega, by go_num, add_step (by omega) (by rw [HS.out, HST.out, HCL.out, Nat.add_assoc]), (B8.alloc B8.size _).trans ((below_drewN _ _).mono (B8.alloc B8.size _).size)⟩
              · obtain rfl : j = k := by omega
                have HSF := Lib.hid (show S = F rr by rw [HS.out, HFF.out])
                by_cases hx : S = rr
                · subst hx
                  go_wp2
                  go_roundg (G2 - 1)
                  case measure => have := HG2.out; have := HM2.out; have := HRR.out; omega
                  case rel => exact ⟨r, (S : Int), by have := HG2.out; have := HM2.out; have := HRR.out; omega, rfl, rfl, by have := HRR.out; omega, .inr ⟨S, rfl, by have := HRR.out; omega, hrD, HSF.out.symm, fun p h1 h2 => by have := HRR.out; omega⟩, B8⟩
                · have hx' : ((S : Int) == (rr : Int)) = false := by simp; omega
                  have HX := Lib.hid hx
                  clear hx
                  go_wp2
                  go_roundg (G2 - 1)
                  case measure => have := HG2.out; have := HM2.out; have := HRR.out; omega
                  case rel => exact ⟨r, x, by have := HG2.out; have := HM2.out; have := HRR.out; omega, rfl, rfl, by have := HRR.out; omega, by
                    have h := HFD.out
                    rw [HRR.out] at h
                    refine h.skip ?_
                    have h1 := HSF.out
                    have h2 := HX.out
                    rw [HRR.out] at h1 h2
                    omega, B8⟩
      · have hkz : k = os.length := by omega
        have BX := B5.trans (B.mono B5.size)
        go_wp2_with fail
        refine (alive_any _).mono ?_
        rintro e w6 ⟨rfl, b6⟩
        go_wp2
        go_ret
        exact ⟨rfl, BX.trans (b6.mono BX.size)⟩

end Go.Proofs.Ytocppoobcanhiaa
