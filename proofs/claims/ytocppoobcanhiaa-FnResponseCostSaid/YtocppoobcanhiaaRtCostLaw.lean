/- The walk of laws.FnResponseCost, for whatever code. Condition: the argument is a slice of bytes. -/
import Derived.Test.YtocppoobcanhiaaRtImpl
import Derived.Test.YtocppoobcanhiaaDrawOrd
import Derived.Test.YtocppoobcanhiaaSame
import Derived.Test.YtocppoobcanhiaaWithCost
import Derived.BigQuiet
import Derived.StillTailTactics
namespace Go.Proofs.Ytocppoobcanhiaa
open Go.RowKit Go.Deep

theorem opt_le2 {a b : Option Nat} (h : ∀ r, a = some r → ∃ q, b = some q ∧ q ≤ r) : optI a < 0 ∨ (0 ≤ optI b ∧ optI b ≤ optI a) := by
  cases a with
  | none => exact .inl (by simp [optI])
  | some r =>
    obtain ⟨q, e, hq⟩ := h r rfl
    subst e
    exact .inr ⟨by simp [optI], by simp [optI]; exact hq⟩
theorem wc_tk {ts : List T3} {i : Nat} {c : Int} (hi : i < ts.length) (j : Nat) : tk (wcL ts i c) j = if j = i then (c, (tk ts i).2) else tk ts j := by
  unfold tk wcL
  by_cases e : j = i
  · subst e
    rw [if_pos rfl, List.getD_eq_getElem?_getD, List.getElem?_set_self hi]
    rfl
  · rw [if_neg e, List.getD_eq_getElem?_getD, List.getElem?_set_ne (by omega), List.getD_eq_getElem?_getD]
theorem wc_le {ts : List T3} {i c : Nat} (hi : i < ts.length) (hc : c ≤ cst (tk ts i)) (j : Nat) : cst (tk (wcL ts i (c : Int)) j) ≤ cst (tk ts j) ∧ dln (tk (wcL ts i (c : Int)) j) = dln (tk ts j) ∧ per (tk (wcL ts i (c : Int)) j) = per (tk ts j) := by
  rw [wc_tk hi]
  by_cases e : j = i
  · subst e
    rw [if_pos rfl]
    exact ⟨by simpa [cst] using hc, rfl, rfl⟩
  · rw [if_neg e]
    exact ⟨Nat.le_refl _, rfl, rfl⟩
theorem wc_ord {ts : List T3} {os : List Int} {i c : Nat} (h : ordB ts os = true) (hi : i < ts.length) (h1 : 1 ≤ c) (hc : c ≤ cst (tk ts i)) : ordB (wcL ts i (c : Int)) os = true := by
  have hs := ordB_iff.1 h
  have ha := sv_all hs.1
  refine ordB_iff.2 ⟨?_, by rw [wcL_len]; exact hs.2.1, by rw [wcL_len]; exact hs.2.2.1, hs.2.2.2⟩
  simp only [svB, Bool.and_eq_true, List.all_eq_true, decide_eq_true_eq]
  refine ⟨fun t ht => ?_, by rw [wcL_len]; exact ha.2⟩
  rcases List.mem_or_eq_of_mem_set ht with h2 | h2
  · exact List.all_eq_true.1 ha.1 t h2
  · have h3 := tk_tv ha.1 hi
    have h4 := (tvB_iff _ _ _).1 h3
    have h5 := (tv_bd h3).2.2.2.2.2.1
    rw [h2]
    exact (tvB_iff _ _ _).2 ⟨by show (1 : Int) ≤ (c : Int); omega, by show (c : Int) ≤ 8; omega, by show (c : Int) ≤ (tk ts i).2.1; omega, h4.2.2.2.1, h4.2.2.2.2⟩
theorem wc_resp {ts : List T3} {os : List Int} {i c : Nat} (h : ordB ts os = true) (hi : i < ts.length) (h1 : 1 ≤ c) (hc : c ≤ cst (tk ts i)) {k : Nat} (hk : k < os.length) (r : Nat) (hr : rspO ts os k = some r) : ∃ q, rspO (wcL ts i (c : Int)) os k = some q ∧ q ≤ r := by
  have ho := wc_ord h hi h1 hc
  have hy := ord_at ho hk
  unfold rspO resp at hr ⊢
  refine lfp_mono (rF_mono _ _ _) (rF_pos (sv_all (ordB_iff.1 ho).1).1 _ (by omega)) (fun x => ?_) (Nat.le_of_eq (wc_le hi hc _).2.1.symm) hr
  refine Nat.add_le_add (wc_le hi hc _).1 ?_
  unfold wkS
  rw [wcL_len]
  refine sumN_le fun j _ => ?_
  have h2 := wc_le hi hc j
  split
  · unfold cl
    rw [h2.2.2]
    exact Nat.mul_le_mul_left _ h2.1
  · exact Nat.le_refl _
set_option maxRecDepth 100000 in
set_option maxHeartbeats 8000000 in
/-- laws.FnResponseCost. -/
theorem fnResponseCost_walk (a : Option Addr) (len cap : Nat) (w : World) (hb : Byts w a len cap) :
    Calls Try.prog 14 #[.slice a len cap] w fun e w' => e = .returned (.bool true) ∧ Below w.heap.size w w' := by
  have hm : cap ≤ maxLen := hb.2.2
  have hlc : len ≤ cap := hb.2.1
  unfold maxLen at hm
  have HB := Lib.hid hb
  clear hb
  by_cases hl : 1048576 < len
  · have hl' : (1048576 : Int) < len := by omega
    go_enter Try.func14, Try.ntmps14
    go_wp2
    go_ret
    exact ⟨rfl, Below.refl _ _⟩
  have hl' : ¬ (1048576 : Int) < len := by omega
  go_enter Try.func14, Try.ntmps14
  go_wp2_with fail
  refine (drawResponseTimes_any _ _ _ _ HB.out).mono ?_
  rintro e w1 ⟨g, cap1, og, ocap, ts, os, rfl, hn, hlc1, hcm1, hon, honc, hr1, ho1, b1⟩
  have R1 := Lib.hid hr1
  clear hr1 HB
  have O1 := Lib.hid ho1
  have I1 := Lib.hid ho1.intF'
  clear ho1
  go_wp2_with fail
  refine (responseTimes_any _ _ _ _ ts os _ R1.out I1.out (by omega) honc).mono ?_
  rintro e w2 ⟨⟨v, rfl, ho⟩, b2⟩
  obtain ⟨va, vc, rfl⟩ := own_shape ho
  have hrn : rtN ts os ≤ 12 := by unfold rtN; split <;> omega
  have V2 := Lib.hid ho.intF'
  have R2 := Lib.hid (R1.out.below b2)
  have I2 := Lib.hid (I1.out.below b2)
  have B2 := b1.trans (b2.mono b1.size)
  clear ho R1 I1 O1 b1 b2
  go_wp2_with fail
  refine (specResponseTimes_any _ _ _ _ ts os _ R2.out I2.out (by omega) honc).mono ?_
  rintro e w3 ⟨⟨v, rfl, ho⟩, b3⟩
  obtain ⟨ua, uc, rfl⟩ := own_shape ho
  have U3 := Lib.hid ho.intF'
  have V3 := Lib.hid (V2.out.below b3)
  have R3 := Lib.hid (R2.out.below b3)
  have I3 := Lib.hid (I2.out.below b3)
  have B3 := B2.trans (b3.mono B2.size)
  clear ho b3 R2 I2 V2 B2
  go_wp2_with fail
  refine (sameInts_same _ _ _ _ _ _ _ V3.out U3.out (by omega)).mono ?_
  rintro e w4 ⟨rfl, n4, hw4⟩
  have b4 : Below w3.heap.size w3 w4 := by rw [hw4]; exact below_drewN _ _
  have V4 := Lib.hid (V3.out.below b4)
  have R4 := Lib.hid (R3.out.below b4)
  have I4 := Lib.hid (I3.out.below b4)
  have B4 := B3.trans (b4.mono B3.size)
  clear hw4 b4 R3 I3 V3 B3 U3
  cases hv : ordB ts os with
  | false =>
    have hz := rtN_no hv
    rw [hz]
    go_wp2_with fail
    refine (alive_any _).mono ?_
    rintro e w6 ⟨rfl, b6⟩
    go_wp2
    go_ret
    exact ⟨rfl, B4.trans (b6.mono B4.size)⟩
  | true =>
    have HV := Lib.hid hv
    have hlen : os.length = ts.length := (ordB_iff.1 hv).2.1
    have hn5 : os.length ≤ 5 := by have h1 := ordB_iff.1 hv; have := (sv_all h1.1).2; omega
    have hz := rtN_yes hv
    rw [hz]
    rw [hz] at V4
    clear hz hv hrn
    by_cases hs0 : ts.length = 0
    · have hs2' : ((ts.length : Int) == 0) = true := beq_iff_eq.2 (by omega)
      clear hlen
      have HS0 := Lib.hid hs0
      clear hs0
      go_wp2_with fail
      refine (alive_any _).mono ?_
      rintro e w6 ⟨rfl, b6⟩
      go_wp2
      go_ret
      exact ⟨rfl, B4.trans (b6.mono B4.size)⟩
    · have hs2' : ((ts.length : Int) == 0) = false := beq_eq_false_iff_ne.2 (by omega)
      have h0l : 0 < os.length := by omega
      have h0l' : (0 : Int) < os.length := by omega
      have HLEN := Lib.hid hlen
      have hya := ord_at HV.out h0l
      obtain ⟨x, hx⟩ : ∃ x, x = (os.getD 0 0).toNat := ⟨_, rfl⟩
      have hx' : os.getD 0 0 = (x : Int) := by omega
      have hxl : x < ts.length := by omega
      have hx0 : (0 : Int) ≤ x := by omega
      have hx1 : (x : Int) < ts.length := by omega
      have HX := Lib.hid hx'
      obtain ⟨bo, oo, ea, -, x0⟩ := I4.out 0 h0l
      simp only [Option.some.injEq, Addr.mk.injEq, and_true] at ea
      obtain ⟨rfl, rfl⟩ := ea
      simp only [HX.out, Nat.zero_add] at x0
      have htv := tk_tv (sv_all (ordB_iff.1 HV.out).1).1 hxl
      have hbd := tv_bd htv
      obtain ⟨bt, ot, ea, -, e0, -, -⟩ := R4.out.at hxl
      simp only [Option.some.injEq, Addr.mk.injEq, and_true] at ea
      obtain ⟨rfl, rfl⟩ := ea
      simp only [Nat.zero_add] at e0
      rw [← hbd.2.2.2.2.2.1] at e0
      obtain ⟨C, hC⟩ : ∃ C, C = cst (tk ts x) := ⟨_, rfl⟩
      rw [← hC] at e0
      have hC1 : 1 ≤ C := by rw [hC]; exact hbd.1
      have hC2 : C ≤ 8 := by rw [hC]; exact hbd.2.2.2.2.1
      have HC := Lib.hid hC
      clear hx hx' hya hlen hs0 htv hbd hC
      obtain ⟨c, hc⟩ : ∃ c : Nat, c = max 1 (C - 1) := ⟨_, rfl⟩
      have hcm : (if (1 : Int) < (C : Int) - 1 then (C : Int) - 1 else 1) = (c : Int) := by split <;> omega
      have HCM := Lib.hid hcm
      clear hcm
      have hc1 : 1 ≤ c := by omega
      have hc2 : c ≤ C := by omega
      have hw1 : IntKind.i64.wrap ((C : Int) - 1) = (C : Int) - 1 := IntWalk.i64_in _ (by omega)
      clear hc
      have HRS := Lib.hid (fun k (hk : k < os.length) => wc_resp HV.out hxl hc1 (by rw [← HC.out]; exact hc2) hk)
      have HOR := Lib.hid (wc_ord HV.out hxl hc1 (by rw [← HC.out]; exact hc2))
      go_wp2
      refine wp_region_still_tail 13 (by kernel_rfl) (by kernel_rfl) ?_
      simp only [List.take_succ_cons, List.take_zero, List.drop_succ_cons, List.drop_zero]
      change wpStill _ _ w4.drew (fun a' => wpList _ _ _ _ a' w4.drew) _ _
      iterate 13 still_step
      rw [HCM.out]
      refine wpStill_nil ?_
      clear x0 e0
      go_wp2_with fail
      refine (withCost_any _ _ ts x (c : Int) _ (R4.out.below (Below.refl _ _).drew) hxl hn).mono ?_
      rintro e w5 ⟨la, lcap, rfl, hlc5, hcm5, hr5, b5'⟩
      have b5 : Below w4.heap.size w4 w5 := (Below.refl _ _).drew.trans b5'
      have R5 := Lib.hid hr5
      have I5 := Lib.hid (I4.out.below b5)
      have V5 := Lib.hid (V4.out.below b5)
      have B5 := B4.trans (b5.mono B4.size)
      clear hr5 b5 b5' R4 I4 V4 B4
      go_wp2_with fail
      refine (responseTimes_any _ _ _ _ (wcL ts x (c : Int)) os _ R5.out I5.out (by rw [wcL_len]; omega) honc).mono ?_
      rintro e w6 ⟨⟨v, rfl, ho⟩, b6⟩
      obtain ⟨na, nc, rfl⟩ := own_shape ho
      have hrq := rtN_yes HOR.out
      rw [wcL_len] at hrq
      rw [hrq] at ho ⊢
      have N6 := Lib.hid ho.intF'
      have V6 := Lib.hid (V5.out.below b6)
      have B6 := B5.trans (b6.mono B5.size)
      clear ho hrq b6 V5 I5 R5 B5
      go_wp2
      go_loopg [8] ts.length (fun m z wr => ∃ k : Nat, m + k = ts.length ∧ z = .int .i64 k ∧ Below w6.heap.size w6 wr)
      case atStart => exact ⟨0, rfl, rfl, Below.refl _ _⟩
      case round =>
        obtain ⟨k, hk, rfl, B⟩ := hrel
        have HK := Lib.hid hk
        have hkk : k ≤ ts.length := by omega
        clear hk
        by_cases hlt : k < ts.length
        · have hk0 : (0 : Int) ≤ k := by omega
          have hk1 : (k : Int) < ts.length := by omega
          obtain ⟨bv, ov, rfl, -, v0⟩ := (V6.out.below B) k hlt
          obtain ⟨bn, on, rfl, -, n0⟩ := (N6.out.below B) k hlt
          have hrk := rk_lt (ord_all HV.out hlt)
          have k0 := opt_le2 (HRS.out _ hrk)
          have f0 : optI (rspO ts os (rk os k)) = rtF ts os k := rfl
          have f1 : optI (rspO (wcL ts x (c : Int)) os (rk os k)) = rtF (wcL ts x (c : Int)) os k := rfl
          rw [f0, f1] at k0
          obtain ⟨p, hp⟩ : ∃ p, p = rtF ts os k := ⟨_, rfl⟩
          obtain ⟨q, hq⟩ : ∃ q, q = rtF (wcL ts x (c : Int)) os k := ⟨_, rfl⟩
          simp only [← hp] at v0
          simp only [← hq] at n0
          rw [← hp, ← hq] at k0
          clear hp hq f0 f1 hrk
          by_cases k4 : p < 0
          · have hd0 : decide (0 ≤ p) = false := decide_eq_false (by omega)
            clear k0
            go_wp2
            go_quiet (fail)
            go_wp2
            go_roundg (gk - 1)
            case measure => have := HK.out; omega
            case rel => exact ⟨k + 1, by have := HK.out; omega, by go_num, below_drewN' B _⟩
          · have hd0 : decide (0 ≤ p) = true := decide_eq_true (by omega)
            have hd1 : decide (q < 0) = false := decide_eq_false (by omega)
            have hd2 : decide (p < q) = false := decide_eq_false (by omega)
            clear k0
            go_wp2
            go_quiet (fail)
            go_wp2
            go_roundg (gk - 1)
            case measure => have := HK.out; omega
            case rel => exact ⟨k + 1, by have := HK.out; omega, by go_num, below_drewN' B _⟩
        · go_wp2
          go_ret
          exact ⟨rfl, B6.trans (B.mono B6.size)⟩

end Go.Proofs.Ytocppoobcanhiaa
