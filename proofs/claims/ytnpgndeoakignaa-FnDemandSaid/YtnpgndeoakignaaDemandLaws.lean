/- Walks: laws.FnDemand. Conditions: the argument is a slice of bytes. -/
import Derived.Test.YtnpgndeoakignaaDrawDem
import Derived.Test.YtnpgndeoakignaaDemImpl
import Derived.Deep.LoopGhost
namespace Go.Proofs.Ytnpgndeoakignaa
open Go.RowKit Go.Deep

/-- How many jobs of a task are due by x. -/
def jobs (t : T3) (x : Nat) : Nat := if dln t ≤ x then (x - dln t) / per t + 1 else 0
theorem jobs_lt {t : T3} {x j : Nat} (hp : 1 ≤ per t) : dln t + j * per t ≤ x ↔ j < jobs t x := by
  unfold jobs
  split
  · rw [Nat.lt_succ_iff, Nat.le_div_iff_mul_le (by omega)]
    omega
  · constructor
    · intro h
      exact absurd (Nat.le_trans (Nat.le_add_right _ _) h) (by assumption)
    · intro h
      omega
theorem jobs_dem (t : T3) (x : Nat) : jobs t x * cst t = dem1 t x := by
  unfold jobs dem1
  split <;> simp
theorem jobs_le (t : T3) (x : Nat) : jobs t x ≤ x + 1 := by
  unfold jobs
  split
  · have := Nat.div_le_self (x - dln t) (per t)
    omega
  · omega

set_option maxRecDepth 100000 in
set_option maxHeartbeats 2000000 in
/-- laws.FnDemand. -/
theorem fnDemand_any (a : Option Addr) (len cap : Nat) (w : World) (hb : Byts w a len cap) :
    Calls Try.prog 3 #[.slice a len cap] w fun e w' => e = .returned (.bool true) ∧ Below w.heap.size w w' := by
  have hm : cap ≤ maxLen := hb.2.2
  have hlc : len ≤ cap := hb.2.1
  unfold maxLen at hm
  have HB := Lib.hid hb
  clear hb
  by_cases hl : 1048576 < len
  · have hl' : (1048576 : Int) < len := by omega
    go_enter Try.func3, Try.ntmps3
    go_wp2
    go_ret
    exact ⟨rfl, Below.refl _ _⟩
  have hl' : ¬ (1048576 : Int) < len := by omega
  go_enter Try.func3, Try.ntmps3
  go_wp2_with fail
  refine (drawDemand_some _ _ _ _ HB.out).mono ?_
  rintro e w1 ⟨g, cap1, ts, x, rfl, hx0, hx1, hn, hlc1, hcm1, hr1, b1⟩
  have R1 := Lib.hid hr1
  clear hr1 HB
  go_wp2_with fail
  refine (demand_any _ _ _ _ _ R1.out (by omega)).mono ?_
  rintro e w2 ⟨rfl, b2⟩
  have B2 := b1.trans (b2.mono b1.size)
  have R2 := Lib.hid (R1.out.below b2)
  clear b1 b2 R1
  go_wp2_with fail
  refine (specDemand_any _ _ _ _ _ R2.out (by omega)).mono ?_
  rintro e w3 ⟨rfl, b3⟩
  have B3 := B2.trans (b3.mono B2.size)
  have R3 := Lib.hid (R2.out.below b3)
  clear b3 R2
  obtain ⟨v, hvd⟩ : ∃ v, v = demB ts x := ⟨_, rfl⟩
  rw [← hvd]
  have HVD := Lib.hid hvd
  clear hvd
  go_wp2_with fail
  refine (specSetValid_any _ _ _ _ R3.out (by omega)).mono ?_
  rintro e w4 ⟨rfl, b4⟩
  have B4 := B3.trans (b4.mono B3.size)
  have R4 := Lib.hid (R3.out.below b4)
  clear b4 R3
  by_cases hv : svB ts = true
  · have HV := Lib.hid hv
    by_cases hxn : x < 0
    · obtain rfl : v = -1 := HVD.out.trans (demB_no (by rintro ⟨_, h, _⟩; omega))
      go_wp2_with fail
      refine (alive_any _).mono ?_
      rintro e w6 ⟨rfl, b6⟩
      go_wp2
      go_ret
      exact ⟨rfl, B4.trans (b6.mono B4.size)⟩
    · go_wp2_with fail
      refine (specHyperperiod_any _ _ _ _ R4.out (by omega)).mono ?_
      rintro e w5 ⟨rfl, b5⟩
      have B5 := B4.trans (b5.mono B4.size)
      have R5 := Lib.hid (R4.out.below b5)
      clear b5 R4 B4
      rw [hyB_yes hv]
      have hbd := hyp_bd ts (sv_all hv).1
      by_cases hh : ((hyp ts : Nat) : Int) < x
      · obtain rfl : v = -1 := HVD.out.trans (demB_no (by rintro ⟨_, _, h⟩; omega))
        go_wp2_with fail
        refine (alive_any _).mono ?_
        rintro e w6 ⟨rfl, b6⟩
        go_wp2
        go_ret
        exact ⟨rfl, B5.trans (b6.mono B5.size)⟩
      · obtain ⟨X, rfl⟩ : ∃ X : Nat, x = X := ⟨x.toNat, by omega⟩
        have hXH : X ≤ hyp ts := by omega
        have hX : X ≤ 1785 := by omega
        have HXH := Lib.hid hXH
        have C0 := Lib.hid (fun W hr => demand_any (some ⟨g, 0, none⟩) cap1 ts ((0 : Nat) : Int) W hr (by omega))
        rw [demB_yes hv (Nat.zero_le _), dem_zero ts (sv_all hv).1] at C0
        obtain ⟨V, hV⟩ : ∃ V, V = dem ts X := ⟨_, rfl⟩
        obtain rfl : v = (V : Int) := by rw [HVD.out, demB_yes hv hXH, hV]
        have HVV := Lib.hid hV
        clear hV HVD
        have hh2 : decide (hyp ts < X) = false := by simp; omega
        have hx2 : decide ((X : Int) < 0) = false := by simp
        go_wp2
        clear hv hbd hxn hXH hh hh2 hx2
        go_loopg [6, 7] ts.length (fun m s i wr => ∃ k : Nat, m + k = ts.length ∧ i = .int .i64 k ∧ s = .int .i64 (dem (ts.take k) X : Nat) ∧ Below w.heap.size w wr ∧ Row wr (some ⟨g, 0, none⟩) ts)
        case atStart => exact ⟨0, rfl, rfl, rfl, B5, R5.out⟩
        case round =>
          clear B5 R5
          obtain ⟨k, hk, rfl, rfl, B, hrow⟩ := hrel
          have HK := Lib.hid hk
          have hkk : k ≤ ts.length := by omega
          have RW := Lib.hid hrow
          clear hk hrow
          by_cases hlt : k < ts.length
          · obtain ⟨S, hS⟩ : ∃ S, S = dem (ts.take k) X := ⟨_, rfl⟩
            have hsb := dem_take_le HV.out X k (by omega)
            rw [← hS] at hsb ⊢
            have HS := Lib.hid hS
            clear hS
            obtain ⟨t, ht⟩ : ∃ t, t = ts[k] := ⟨_, rfl⟩
            have htv := all_at (sv_all HV.out).1 hlt ht
            have hjd := jobs_dem t X
            have hjb := jobs_le t X
            have hjl := fun j => jobs_lt (t := t) (x := X) (j := j)
            obtain ⟨q, hq⟩ : ∃ q, q = per t := ⟨_, rfl⟩
            obtain ⟨c, hc⟩ : ∃ c, c = cst t := ⟨_, rfl⟩
            obtain ⟨d, hd⟩ : ∃ d, d = dln t := ⟨_, rfl⟩
            obtain ⟨J, hJ⟩ : ∃ J, J = jobs t X := ⟨_, rfl⟩
            have hb := tv_bd htv
            rw [← hq, ← hc, ← hd] at hb
            rw [← hJ] at hjb
            rw [← hJ, ← hc] at hjd
            obtain ⟨p1, p2, p3, p4, p5, p6, p7, p8⟩ := hb
            have HJL := Lib.hid (show ∀ j, d + j * q ≤ X ↔ j < J by intro j; rw [hd, hq, hJ]; exact hjl j (by omega))
            have HT := Lib.hid ht
            have HJD := Lib.hid hjd
            have P6 := Lib.hid p6
            have P7 := Lib.hid p7
            have P8 := Lib.hid p8
            clear hjl hjd hJ hd hc hq htv ht p6 p7 p8
            have hk0 : (0 : Int) ≤ k := by omega
            have hk1 : (k : Int) < ts.length := by omega
            obtain ⟨_, _, e2, hbs, g0, g1, g2⟩ := RW.out k _ (List.getElem?_eq_getElem hlt)
            simp only [Option.some.injEq, Addr.mk.injEq, and_true] at e2
            obtain ⟨rfl, rfl⟩ := e2
            rw [← HT.out, ← P6.out] at g0
            rw [← HT.out, ← P7.out] at g1
            rw [← HT.out, ← P8.out] at g2
            simp only [Nat.zero_add] at g0 g1 g2
            go_wp2
            go_loopg [6, 8] J (fun m s y wx => ∃ j : Nat, m + j = J ∧ s = .int .i64 (S + j * c : Nat) ∧ y = .int .i64 (d + j * q : Nat) ∧ wr = wx)
            case atStart => exact ⟨0, rfl, by simp, by simp, rfl⟩
            case round =>
              obtain ⟨j, hj, rfl, rfl, rfl⟩ := hrel
              have HJ := Lib.hid hj
              have hjJ : j ≤ J := by omega
              clear hj
              have hjc : j * c ≤ 1786 * 8 := Nat.mul_le_mul (by omega) (by omega)
              have hjq : j * q ≤ 1786 * 12 := Nat.mul_le_mul (by omega) (by omega)
              have hJj := HJL.out j
              obtain ⟨s', hs'⟩ : ∃ s', s' = S + j * c := ⟨_, rfl⟩
              obtain ⟨d', hd'⟩ : ∃ d', d' = d + j * q := ⟨_, rfl⟩
              rw [← hs', ← hd']
              rw [← hd'] at hJj
              have hsb' : s' ≤ 10014288 := by omega
              have hdb' : d' ≤ 21444 := by omega
              have HS' := Lib.hid hs'
              have HD' := Lib.hid hd'
              clear hs' hd' hjc hjq
              by_cases hc : j < J
              · have hle : (d' : Int) ≤ X := by have := hJj.2 hc; omega
                clear hJj
                go_wp2
                go_roundg (gk - 1)
                case measure => have := HJ.out; omega
                case rel => exact ⟨j + 1, by have := HJ.out; omega, by rw [Nat.succ_mul, ← Nat.add_assoc, ← HS'.out]; go_num, by rw [Nat.succ_mul, ← Nat.add_assoc, ← HD'.out]; go_num, rfl⟩
              · have hle : ¬ (d' : Int) ≤ X := by have := hJj.1; omega
                obtain rfl : j = J := by omega
                clear hJj
                go_wp2
                go_roundg (ts.length - k - 1)
                case measure => have := HK.out; omega
                case rel => exact ⟨k + 1, by have := HK.out; omega, by go_num, by rw [take_succ hlt HT.out, dem_snoc, HS'.out, HJD.out, HS.out], B, RW.out⟩
          · obtain rfl : k = ts.length := by omega
            rw [List.take_length, ← HVV.out]
            go_wp2_with fail
            refine (C0.out _ RW.out).mono ?_
            rintro e w6 ⟨rfl, b6⟩
            have B6 := B.trans (b6.mono B.size)
            have R6 := Lib.hid (RW.out.below b6)
            clear b6 RW B
            by_cases hX0 : X = 0
            · subst hX0
              go_wp2_with fail
              refine (alive_any _).mono ?_
              rintro e w7 ⟨rfl, b7⟩
              go_wp2
              go_ret
              exact ⟨rfl, B6.trans (b7.mono B6.size)⟩
            · have hXe : ((X : Int) == 0) = false := by simp; omega
              have hdm := dem_mono ts (Nat.sub_le X 1)
              have C1 := Lib.hid (fun W hr => demand_any (some ⟨g, 0, none⟩) cap1 ts ((X - 1 : Nat) : Int) W hr (by omega))
              rw [demB_yes HV.out (show X - 1 ≤ hyp ts by have := HXH.out; omega)] at C1
              rw [← HVV.out] at hdm
              obtain ⟨U, hU⟩ : ∃ U, U = dem ts (X - 1) := ⟨_, rfl⟩
              rw [← hU] at hdm C1
              have hle : (U : Int) ≤ V := by omega
              have hxx : (X : Int) - 1 = ((X - 1 : Nat) : Int) := by omega
              have HXX := Lib.hid hxx
              clear hU hxx
              go_wp2_with fail
              rw [HXX.out]
              refine (C1.out _ R6.out).mono ?_
              rintro e w7 ⟨rfl, b7⟩
              have B7 := B6.trans (b7.mono B6.size)
              clear b7 R6 B6
              go_wp2_with fail
              refine (alive_any _).mono ?_
              rintro e w8 ⟨rfl, b8⟩
              go_wp2
              go_ret
              exact ⟨rfl, B7.trans (b8.mono B7.size)⟩
  · have hv' : svB ts = false := by simpa using hv
    obtain rfl : v = -1 := HVD.out.trans (demB_no (by rintro ⟨h, _, _⟩; exact hv h))
    clear hv
    go_wp2_with fail
    refine (alive_any _).mono ?_
    rintro e w6 ⟨rfl, b6⟩
    go_wp2
    go_ret
    exact ⟨rfl, B4.trans (b6.mono B4.size)⟩

end Go.Proofs.Ytnpgndeoakignaa
