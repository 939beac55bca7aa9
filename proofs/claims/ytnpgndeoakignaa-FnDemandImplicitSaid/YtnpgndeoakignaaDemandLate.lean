/- Walks: laws.FnDemandImplicit. Conditions: the argument is a slice of bytes. -/
import Derived.Test.YtnpgndeoakignaaDrawDem
import Derived.Test.YtnpgndeoakignaaImplicitLaws
namespace Go.Proofs.Ytnpgndeoakignaa
open Go.RowKit Go.Deep

theorem map_lat_lat (ts : List T3) : (ts.map lat).map lat = ts.map lat := by
  rw [List.map_map]
  rfl

set_option maxRecDepth 100000 in
set_option maxHeartbeats 2000000 in
/-- laws.FnDemandImplicit. -/
theorem fnDemandImplicit_any (a : Option Addr) (len cap : Nat) (w : World) (hb : Byts w a len cap) :
    Calls Try.prog 10 #[.slice a len cap] w fun e w' => e = .returned (.bool true) ∧ Below w.heap.size w w' := by
  obtain ⟨i0, hi0, hz, hsz, hby⟩ := info_parts taskInfo
  have HI := Lib.hid (And.intro hi0 (And.intro hz (And.intro hsz hby)))
  clear hi0 hz hsz hby
  have hm : cap ≤ maxLen := hb.2.2
  have hlc : len ≤ cap := hb.2.1
  unfold maxLen at hm
  have HB := Lib.hid hb
  clear hb
  by_cases hl : 1048576 < len
  · have hl' : (1048576 : Int) < len := by omega
    go_enter Try.func10, Try.ntmps10
    go_wp2
    go_ret
    exact ⟨rfl, Below.refl _ _⟩
  have hl' : ¬ (1048576 : Int) < len := by omega
  go_enter Try.func10, Try.ntmps10
  go_wp2_with fail
  refine (drawDemand_some _ _ _ _ HB.out).mono ?_
  rintro e w1 ⟨g, cap1, ts, x, rfl, hx0, hx1, hn, hlc1, hcm1, hr1, b1⟩
  have R1 := Lib.hid hr1
  clear hr1 HB
  go_wp2_with fail
  refine (demand_any _ _ _ _ _ R1.out (by omega)).mono ?_
  rintro e w2 ⟨rfl, b2⟩
  have B2 := b1.trans (b2.mono b1.size)
  have R2 := Lib.hid (R1.out.below b2)
  clear b1 b2 R1
  go_wp2_with fail
  refine (specDemand_any _ _ _ _ _ R2.out (by omega)).mono ?_
  rintro e v0 ⟨rfl, b3⟩
  have B3 := B2.trans (b3.mono B2.size)
  have R3 := Lib.hid (R2.out.below b3)
  clear b3 R2 B2
  obtain ⟨v, hvd⟩ : ∃ v, v = demB ts x := ⟨_, rfl⟩
  rw [← hvd]
  clear hvd
  go_upto_region 6 with fail
  go_upto_region 7 with (at_builtin; refine wpList_append_own _ rfl (.tmp 23) (.tmp 24) 23 rfl v0.heap.size 31 i0 _ 3 24 Try.underlying23 HI.out.1 HI.out.2.1 HI.out.2.2.1 HI.out.2.2.2 rfl (by decide) (.slice (some ⟨v0.heap.size, 0, none⟩) 0 0) 0 [] rfl (own_empty0 v0) ⟨g, 0, none⟩ ts.length _ (flat ts) rfl (flat_length ts) (R3.out.lies0 _) (flat_one _) (by unfold maxLen; omega) (by omega) (by simp) ?_; intro v1 x1 hown1 hgrow1 hnil1)
  obtain ⟨g2, cap2, rfl, hg2, hg2', ho1, bx1⟩ := copied hown1 hgrow1 hnil1
  clear hown1 hgrow1 hnil1
  have HO := Lib.hid ho1
  clear ho1
  go_wp2
  go_loopg [6] ts.length (fun m i wr => ∃ k : Nat, m + k = ts.length ∧ i = .int .i64 k ∧ Below v0.heap.size v0 wr ∧ Own wr v0.heap.size (.slice (some ⟨g2, 0, none⟩) ts.length cap2) (latK ts k))
  case atStart => exact ⟨0, rfl, rfl, bx1, by rw [latK_zero]; exact HO.out⟩
  case round =>
    clear HO bx1 hg2'
    obtain ⟨k, hk, rfl, B, hown⟩ := hrel
    have HK := Lib.hid hk
    have hkk : k ≤ ts.length := by omega
    have HO := Lib.hid hown
    clear hk hown
    by_cases hlt : k < ts.length
    · have hlk : k < (latK ts k).length := by rw [latK_length]; exact hlt
      obtain ⟨⟨c, d, p⟩, ht⟩ : ∃ t, t = ts[k] := ⟨_, rfl⟩
      have HT := Lib.hid ht
      obtain ⟨_, _, e2, _, z0, z1, z2⟩ := HO.out.rowAt.1 k _ (List.getElem?_eq_getElem hlk)
      simp only [Option.some.injEq, Addr.mk.injEq, and_true] at e2
      obtain ⟨rfl, rfl⟩ := e2
      rw [latK_at hlt, ← ht] at z0 z1 z2
      simp only [Nat.zero_add] at z0 z1 z2
      have fz := HO.out.frozen' (j := k * 3 + 1)
      clear ht
      go_wp2
      go_roundg (gk - 1)
      case measure => have := HK.out; omega
      case rel => exact ⟨k + 1, by have := HK.out; omega, by go_num, B.setCell hg2 _, by rw [← latK_step hlt HT.out]; exact HO.out.put1' hlk ((HT.out).trans (latK_at hlt).symm) p⟩
    · obtain rfl : k = ts.length := by omega
      have RL := Lib.hid (show Row wr (some ⟨g2, 0, none⟩) (ts.map lat) by have := HO.out.rowAt.1; rwa [latK_end] at this)
      have B4 := B3.trans (B.mono B3.size)
      have hll : (ts.map lat).length = ts.length := List.length_map ..
      have HLL := Lib.hid (map_lat_lat ts)
      obtain ⟨L, hL⟩ : ∃ L, L = ts.map lat := ⟨_, rfl⟩
      rw [← hL] at RL hll HLL
      have CV := Lib.hid (setValid_any (some ⟨g2, 0, none⟩) cap2 L wr RL.out (by omega))
      have CH := Lib.hid (fun W hr => hyperperiod_any (some ⟨g2, 0, none⟩) cap2 L W hr (by omega))
      have CD := Lib.hid (fun W y hr => demand_any (some ⟨g2, 0, none⟩) cap2 L y W hr (by omega))
      rw [hll] at CV CH CD
      clear HO B B3 R3 hL
      go_wp2_with fail
      refine CV.out.mono ?_
      rintro e w4 ⟨rfl, b4⟩
      have B5 := B4.trans (b4.mono B4.size)
      have R5 := Lib.hid (RL.out.below b4)
      clear b4 RL B4 CV
      by_cases hv : svB L = true
      · have HV := Lib.hid hv
        by_cases hxn : x < 0
        · go_wp2_with fail
          refine (alive_any _).mono ?_
          rintro e w6 ⟨rfl, b6⟩
          go_wp2
          go_ret
          exact ⟨rfl, B5.trans (b6.mono B5.size)⟩
        · go_wp2_with fail
          refine (CH.out _ R5.out).mono ?_
          rintro e w5 ⟨rfl, b5⟩
          have B6 := B5.trans (b5.mono B5.size)
          have R6 := Lib.hid (R5.out.below b5)
          clear b5 R5 B5
          rw [hyB_yes hv]
          have hbd := hyp_bd L (sv_all hv).1
          by_cases hh : ((hyp L : Nat) : Int) < x
          · go_wp2_with fail
            refine (alive_any _).mono ?_
            rintro e w6 ⟨rfl, b6⟩
            go_wp2
            go_ret
            exact ⟨rfl, B6.trans (b6.mono B6.size)⟩
          · obtain ⟨X, rfl⟩ : ∃ X : Nat, x = X := ⟨x.toNat, by omega⟩
            have hXH : X ≤ hyp L := by omega
            have hX : X ≤ 1785 := by omega
            have HXH := Lib.hid hXH
            have hdl := dem_take_le hv X L.length (by omega)
            rw [List.take_length] at hdl
            obtain ⟨V, hV⟩ : ∃ V, V = dem L X := ⟨_, rfl⟩
            rw [← hV] at hdl
            have HVV := Lib.hid hV
            clear hV
            have hh2 : decide (hyp L < X) = false := by simp; omega
            have hx2 : decide ((X : Int) < 0) = false := by simp
            have HADD := Lib.hid (show ∀ y z, dem L y + dem L z ≤ dem L (y + z) by
              intro y z
              have := dem_lat_add (sv_all hv).1 y z
              rwa [HLL.out] at this)
            go_wp2
            clear hv hbd hxn hXH hh hh2 hx2
            go_loopg [7] (X + 2) (fun m i wr => ∃ n : Nat, m + n = X + 2 ∧ n ≤ X + 1 ∧ i = .int .i64 n ∧ Below w.heap.size w wr ∧ Row wr (some ⟨g2, 0, none⟩) L)
            case atStart => exact ⟨0, rfl, by omega, rfl, B6, R6.out⟩
            case round =>
              clear B6 R6
              obtain ⟨n, hk, hnX, rfl, B, hrow⟩ := hrel
              have HK := Lib.hid hk
              have RW := Lib.hid hrow
              clear hk hrow
              by_cases hc : n ≤ X ∧ n < 60
              · obtain ⟨hc1, hc2⟩ := hc
                have hq1 : (n : Int) ≤ X := by omega
                have hq2 : (n : Int) < 60 := by omega
                have hadd := HADD.out n (X - n)
                rw [show n + (X - n) = X by omega, ← HVV.out] at hadd
                have C1 := Lib.hid (fun W => CD.out W ((n : Nat) : Int))
                have C2 := Lib.hid (fun W => CD.out W ((X - n : Nat) : Int))
                have C3 := Lib.hid (fun W => CD.out W ((X : Nat) : Int))
                rw [demB_yes HV.out (show n ≤ hyp L by have := HXH.out; omega)] at C1
                rw [demB_yes HV.out (show X - n ≤ hyp L by have := HXH.out; omega)] at C2
                rw [demB_yes HV.out HXH.out, ← HVV.out] at C3
                obtain ⟨P, hP⟩ : ∃ P, P = dem L n := ⟨_, rfl⟩
                obtain ⟨Q, hQ⟩ : ∃ Q, Q = dem L (X - n) := ⟨_, rfl⟩
                rw [← hP, ← hQ] at hadd
                rw [← hP] at C1
                rw [← hQ] at C2
                have hpq : ¬ (V : Int) < (P : Int) + Q := by omega
                have HXX := Lib.hid (show (X : Int) - n = ((X - n : Nat) : Int) by omega)
                clear hP hQ
                go_wp2_with fail
                refine (C1.out _ RW.out).mono ?_
                rintro e w6 ⟨rfl, b6⟩
                have B7 := B.trans (b6.mono B.size)
                have R7 := Lib.hid (RW.out.below b6)
                clear b6 B RW C1
                go_wp2_with fail
                rw [HXX.out]
                refine (C2.out _ R7.out).mono ?_
                rintro e w7 ⟨rfl, b7⟩
                have B8 := B7.trans (b7.mono B7.size)
                have R8 := Lib.hid (R7.out.below b7)
                clear b7 B7 R7 C2
                go_wp2_with fail
                refine (C3.out _ R8.out).mono ?_
                rintro e w8 ⟨rfl, b8⟩
                have B9 := B8.trans (b8.mono B8.size)
                have R9 := Lib.hid (R8.out.below b8)
                clear b8 B8 R8 C3
                go_wp2
                go_roundg (gk - 1)
                case measure => have := HK.out; omega
                case rel => exact ⟨n + 1, by have := HK.out; omega, by omega, by go_num, B9, R9.out⟩
              · by_cases hq1 : (n : Int) ≤ X
                · have hq2 : ¬ (n : Int) < 60 := by omega
                  clear hc
                  go_wp2_with fail
                  refine (alive_any _).mono ?_
                  rintro e w6 ⟨rfl, b6⟩
                  go_wp2
                  go_ret
                  exact ⟨rfl, B.trans (b6.mono B.size)⟩
                · clear hc
                  go_wp2_with fail
                  refine (alive_any _).mono ?_
                  rintro e w6 ⟨rfl, b6⟩
                  go_wp2
                  go_ret
                  exact ⟨rfl, B.trans (b6.mono B.size)⟩
      · have hv' : svB L = false := by simpa using hv
        clear hv
        go_wp2_with fail
        refine (alive_any _).mono ?_
        rintro e w6 ⟨rfl, b6⟩
        go_wp2
        go_ret
        exact ⟨rfl, B5.trans (b6.mono B5.size)⟩

end Go.Proofs.Ytnpgndeoakignaa
