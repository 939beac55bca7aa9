/- The walk of laws.FnSectionsValid, for whatever code. Condition: the argument is a slice of bytes. -/
import Derived.Test.YtfacohicfcdamaaSecMake
import Derived.BigRegion
namespace Go.Proofs.Ytfacohicfcdamaa
open Go.RowKit Go.Deep

theorem Own3.frozen {w : World} {base g n cap : Nat} {ss : List T3} (h : Own3 w base (.slice (some ⟨g, 0, none⟩) n cap) ss) (k : Nat) : w.frozen? ⟨g, k, none⟩ = false := by
  obtain rfl := h.len
  exact World.ownsRow.frozenAt h k

set_option maxRecDepth 100000 in
set_option maxHeartbeats 8000000 in
/-- laws.FnSectionsValid. -/
theorem fnSectionsValid_walk (a : Option Addr) (len cap : Nat) (w : World) (hb : Byts w a len cap) :
    Calls Try.prog 7 #[.slice a len cap] w fun e w' => e = .returned (.bool true) ∧ Below w.heap.size w w' := by
  obtain ⟨i0, hi, hz, hsz, hby⟩ := info_parts secInfo
  have HI := Lib.hid (And.intro hi (And.intro hz (And.intro hsz hby)))
  clear hi hz hsz hby
  have hm : cap ≤ maxLen := hb.2.2
  have hlc : len ≤ cap := hb.2.1
  unfold maxLen at hm
  have HB := Lib.hid hb
  clear hb
  by_cases hl : 1048576 < len
  · have hl' : (1048576 : Int) < len := by omega
    go_enter Try.func7, Try.ntmps7
    go_wp2
    go_ret
    exact ⟨rfl, Below.refl _ _⟩
  have hl' : ¬ (1048576 : Int) < len := by omega
  go_enter Try.func7, Try.ntmps7
  go_wp2_with fail
  refine (drawSectionsValid_any _ _ _ _ HB.out).mono ?_
  rintro e w1 ⟨g, cap1, sg, scap, ts, ss, rfl, hn, hlc1, hcm1, hsn, hst, hr1, hos, b1⟩
  have hcs := hos.caps
  have hcm2 := hcs.2
  unfold maxLen at hcm1 hcm2
  have HST := Lib.hid hst
  have R1 := Lib.hid (And.intro hr1 hos)
  have B1 := Lib.hid b1
  clear hr1 hos b1 HB hst
  go_wp2_with fail
  refine (sectionsValid_any _ _ _ _ ts ss _ R1.out.1 R1.out.2.row HST.out (by omega) (by omega)).mono ?_
  rintro e w2 ⟨rfl, b2⟩
  have B2 := Lib.hid (B1.out.trans (b2.mono B1.out.size))
  have R2 := Lib.hid (And.intro (R1.out.1.below b2) (R1.out.2.below b2))
  clear b2 R1 B1
  go_wp2_with fail
  refine (specSectionsValid_any _ _ _ _ ts ss _ R2.out.1 R2.out.2.row (by omega) (by omega)).mono ?_
  rintro e w3 ⟨rfl, b3⟩
  have B3 := Lib.hid (B2.out.trans (b3.mono B2.out.size))
  have R3 := Lib.hid (And.intro (R2.out.1.below b3) (R2.out.2.below b3))
  clear b3 R2 B2
  obtain ⟨ok, hok⟩ : ∃ ok, ok = scB ts ss := ⟨_, rfl⟩
  rw [← hok]
  have HOK := Lib.hid hok
  have hbb : (ok != ok) = false := by cases ok <;> rfl
  have hmk := run_make_secs ts.length (by omega)
  clear hok
  have BE := Lib.hid (below_box w3 (.cells (madeCells #[.int .i64 0, .int .i64 0, .int .i64 0] (ts.length * 3)) 48))
  have HC := Lib.hid (sectionsValid_any (some ⟨g, 0, none⟩) (some ⟨w3.heap.size, 0, none⟩) cap1 ts.length ts (zs ts.length) _ (R3.out.1.below BE.out) (row_zs w3 ts.length) (zs_StB _) (by omega) (by rw [zs_len]; omega))
  rw [sc_zs, zs_len] at HC
  go_wp2_with fail
  refine HC.out.mono ?_
  rintro e w4 ⟨rfl, b4⟩
  have b34 := BE.out.trans (b4.mono BE.out.size)
  have B4 := Lib.hid (B3.out.trans (b34.mono B3.out.size))
  have R4 := Lib.hid (And.intro (R3.out.1.below b34) (R3.out.2.below b34))
  clear b4 b34 R3 B3 HC BE hmk
  go_wp2_with fail
  refine (specSetValid_any _ _ ts _ R4.out.1 (by omega)).mono ?_
  rintro e w5 ⟨rfl, b5⟩
  have B5 := Lib.hid (B4.out.trans (b5.mono B4.out.size))
  have R5 := Lib.hid (And.intro (R4.out.1.below b5) (R4.out.2.below b5))
  clear b5 R4 B4
  obtain ⟨ed, hed⟩ : ∃ ed, ed = svB ts := ⟨_, rfl⟩
  rw [← hed]
  have hbe : (ed != ed) = false := by cases ed <;> rfl
  clear hed
  cases ok with
  | false =>
    go_wp2_with fail
    refine (alive_any _).mono ?_
    rintro e w6 ⟨rfl, b6⟩
    go_wp2
    go_ret
    exact ⟨rfl, B5.out.trans (b6.mono B5.out.size)⟩
  | true =>
    have hf : scB ts ss = true := HOK.out.symm
    have HF := Lib.hid hf
    have hlen := (scB_iff.1 hf).2.1
    have hl5 := (sv_all (scB_iff.1 hf).1).2
    have hl5' : ss.length ≤ 5 := by omega
    have HLEN := Lib.hid hlen
    clear hf hbb hbe hlen
    go_wp2
    go_loopg [6] ss.length (fun m z wr => ∃ i : Nat, m + i = ss.length ∧ z = .int .i64 i ∧ Below w5.heap.size w5 wr)
    case atStart => exact ⟨0, by omega, rfl, Below.refl _ _⟩
    case round =>
      obtain ⟨i, hk, rfl, B⟩ := hrel
      have HK := Lib.hid hk
      have HBW := Lib.hid B
      have hii : i ≤ ss.length := by omega
      clear hk B
      by_cases hlt : i < ss.length
      · have hlt2 : i < ts.length := by have := HLEN.out; omega
        have hi0 : (0 : Int) ≤ i := by omega
        have hi1 : (i : Int) < ss.length := by omega
        have hi2 : (i : Int) < ts.length := by omega
        have RW := Lib.hid (R5.out.2.below HBW.out)
        have RT := Lib.hid (R5.out.1.below HBW.out)
        have hnat := sc_nat HF.out hlt2
        obtain ⟨⟨p, q, r⟩, hQ⟩ : ∃ s, s = tk ss i := ⟨_, rfl⟩
        obtain ⟨⟨C, D, P⟩, hC⟩ : ∃ t, t = tk ts i := ⟨_, rfl⟩
        obtain ⟨_, _, e1, hgw, y0, -, -⟩ := RT.out.tk hlt2
        simp only [Option.some.injEq, Addr.mk.injEq, and_true] at e1
        obtain ⟨rfl, rfl⟩ := e1
        obtain ⟨_, _, e2, hsw, x0, x1, -⟩ := RW.out.row.tk hlt
        simp only [Option.some.injEq, Addr.mk.injEq, and_true] at e2
        obtain ⟨rfl, rfl⟩ := e2
        rw [← hQ] at x0 x1 hnat
        rw [← hC] at y0 hnat
        simp only [Nat.zero_add] at x0 x1 y0 hnat
        have hp0 : 0 ≤ p := by omega
        have hp8 : p ≤ 8 := by omega
        have hq0 : 0 ≤ q := by omega
        have hq8 : q ≤ 8 := by omega
        have hC1 : 1 ≤ C := by omega
        have hC8 : C ≤ 8 := by omega
        have HQ := Lib.hid (And.intro hQ hC)
        clear hnat hQ hC
        by_cases hq : q = 0
        · subst hq
          go_wp2
          go_roundg (gk - 1)
          case measure => have := HK.out; omega
          case rel => exact ⟨i + 1, by have := HK.out; omega, by go_num, HBW.out⟩
        · have hqb : (q == 0) = false := beq_eq_false_iff_ne.2 hq
          have hq1 : 1 ≤ q := by omega
          clear hq
          -- the first copy, one tick shorter
          go_upto_region 14 with (at_builtin; refine wpList_append_own _ rfl (.tmp 50) (.tmp 51) 29 rfl wr.heap.size 48 i0 _ 3 24 Try.underlying29 HI.out.1 HI.out.2.1 HI.out.2.2.1 HI.out.2.2.2 rfl (by decide) (.slice (some ⟨wr.heap.size, 0, none⟩) 0 0) 0 [] rfl (own_emptyS wr) ⟨sg, 0, none⟩ ss.length _ (flat ss) rfl (flat_length ss) (RW.out.news _) (flat_one _) (by unfold maxLen; omega) (by omega) (by simp) ?_; intro v1 w6 hown1 hgrow1 hnil1)
          obtain ⟨g1, c1, rfl, hg1, hg1', ho1, bx1⟩ := copiedS hown1 hgrow1 hnil1
          clear hown1 hgrow1 hnil1
          have HO1 := Lib.hid ho1
          have z1 := World.ownsRow.frozenAt ho1 (i * 3 + 1)
          have t1 := (bx1.cell (p := ⟨sg, i * 3 + 1, none⟩) hsw).trans x1
          have t0 := (bx1.cell (p := ⟨sg, i * 3, none⟩) hsw).trans x0
          have u0 := (bx1.cell (p := ⟨g, i * 3, none⟩) hgw).trans y0
          obtain ⟨bb, bo, be, -, s0, s1, s2⟩ := ho1.row.tk hlt
          simp only [Option.some.injEq, Addr.mk.injEq, and_true] at be
          obtain ⟨rfl, rfl⟩ := be
          rw [← HQ.out.1] at s0 s1 s2
          simp only [Nat.zero_add] at s0 s1 s2
          by_cases hq2 : q = 1
          · subst hq2
            have O6 := Lib.hid (HO1.out.put1 hlt HQ.out.1 0)
            have bv0 := bx1.setCell (p := ⟨g1, i * 3 + 1, none⟩) hg1 (.int .i64 0)
            clear HO1
            go_upto_region 15 with fail
            obtain ⟨w7, hw7⟩ : ∃ w7, w7 = w6.setCell ⟨g1, i * 3 + 1, none⟩ (.int .i64 0) := ⟨_, rfl⟩
            rw [← hw7]
            rw [← hw7] at O6 bv0
            clear hw7 z1 t1 t0 u0 s0 s1 s2 ho1 bx1
            have hu : i < (upd ss i (p, 0, r)).length := by rw [upd_len hlt]; exact hlt
            have z0 := O6.out.frozen (i * 3)
            have z1 := O6.out.frozen (i * 3 + 1)
            have z2 := O6.out.frozen (i * 3 + 2)
            obtain ⟨bb, bo, be, -, s0, s1, s2⟩ := O6.out.row.tk hu
            simp only [Option.some.injEq, Addr.mk.injEq, and_true] at be
            obtain ⟨rfl, rfl⟩ := be
            rw [tk_upd hlt, if_pos rfl] at s0 s1 s2
            simp only [Nat.zero_add] at s0 s1 s2
            have o7 := O6.out.put hu 0 0 0
            rw [upd_upd hlt] at o7
            have OS := Lib.hid o7
            have BV := Lib.hid (((bv0.setCell (p := ⟨g1, i * 3, none⟩) hg1 (.int .i64 0)).setCell (p := ⟨g1, i * 3 + 1, none⟩) hg1 (.int .i64 0)).setCell (p := ⟨g1, i * 3 + 2, none⟩) hg1 (.int .i64 0))
            have HSV := Lib.hid (sc_short HF.out hlt HQ.out.1 (by decide))
            rw [if_pos (by decide)] at HSV
            have HSL := Lib.hid (upd_len hlt (0, 0, 0))
            have HSB := Lib.hid (HST.out.upd hlt (s := (0, 0, 0)) (by decide))
            obtain ⟨SS, hSS⟩ : ∃ SS, SS = upd ss i (0, 0, 0) := ⟨_, rfl⟩
            rw [← hSS] at OS HSV HSL HSB
            clear o7 bv0 hSS O6
            go_upto_region 17 with fail
            obtain ⟨v, hv⟩ : ∃ v, v = ((w7.setCell ⟨g1, i * 3, none⟩ (.int .i64 0)).setCell ⟨g1, i * 3 + 1, none⟩ (.int .i64 0)).setCell ⟨g1, i * 3 + 2, none⟩ (.int .i64 0) := ⟨_, rfl⟩
            rw [← hv]
            rw [← hv] at OS BV
            clear hv z0 z1 z2 s0 s1 s2
            have RWV := Lib.hid (RW.out.below BV.out)
            have RTV := Lib.hid (RT.out.below BV.out)
            have BSV := Lib.hid (HBW.out.trans (BV.out.mono HBW.out.size))
            go_upto_region 18 with (at_builtin; refine wpList_append_own _ rfl (.tmp 73) (.tmp 74) 29 rfl v.heap.size 48 i0 _ 3 24 Try.underlying29 HI.out.1 HI.out.2.1 HI.out.2.2.1 HI.out.2.2.2 rfl (by decide) (.slice (some ⟨v.heap.size, 0, none⟩) 0 0) 0 [] rfl (own_emptyS v) ⟨sg, 0, none⟩ ss.length _ (flat ss) rfl (flat_length ss) (RWV.out.news _) (flat_one _) (by unfold maxLen; omega) (by omega) (by simp) ?_; intro v2 x2 hown2 hgrow2 hnil2)
            obtain ⟨g2, c2, rfl, hg2, hg2', ho2, bx2⟩ := copiedS hown2 hgrow2 hnil2
            clear hown2 hgrow2 hnil2
            have HO2 := Lib.hid ho2
            have BX2 := Lib.hid bx2
            have z1 := World.ownsRow.frozenAt ho2 (i * 3 + 1)
            have t0 := ((BV.out.trans (bx2.mono BV.out.size)).cell (p := ⟨sg, i * 3, none⟩) hsw).trans x0
            have u0 := ((BV.out.trans (bx2.mono BV.out.size)).cell (p := ⟨g, i * 3, none⟩) hgw).trans y0
            obtain ⟨bb, bo, be, -, -, s1, -⟩ := ho2.row.tk hlt
            simp only [Option.some.injEq, Addr.mk.injEq, and_true] at be
            obtain ⟨rfl, rfl⟩ := be
            rw [← HQ.out.1] at s1
            simp only [Nat.zero_add] at s1
            have O8 := Lib.hid (HO2.out.put1 hlt HQ.out.1 (C - p + 1))
            have B8 := Lib.hid (bx2.setCell (p := ⟨g2, i * 3 + 1, none⟩) hg2 (.int .i64 (C - p + 1)))
            clear ho2 bx2 x0 x1 y0
            have HS8 := Lib.hid (OS.out.below (B8.out))
            have CS := Lib.hid (fun W h1 h2 => sectionsValid_any (some ⟨g, 0, none⟩) (some ⟨g1, 0, none⟩) cap1 c1 ts SS W h1 h2 HSB.out (by omega) (by rw [HSL.out]; omega))
            rw [HSL.out, HSV.out] at CS
            have hlong := sc_long HF.out hlt (a := p) (c := r) HQ.out.2
            have CL := Lib.hid (fun W h1 h2 => sectionsValid_any (some ⟨g, 0, none⟩) (some ⟨g2, 0, none⟩) cap1 c2 ts (upd ss i (p, C - p + 1, r)) W h1 h2 (HST.out.upd hlt (by simp only; omega)) (by omega) (by rw [upd_len hlt]; omega))
            rw [upd_len hlt, hlong] at CL
            clear hlong
            go_region
            obtain ⟨x3, hx3⟩ : ∃ x3, x3 = (x2.setCell ⟨g2, i * 3 + 1, none⟩ (.int .i64 (C - p + 1))).drew := ⟨_, rfl⟩
            rw [← hx3]
            have b9 : Below v.heap.size v x3 := by rw [hx3]; exact B8.out.drew
            have r9 : Own3 x3 v.heap.size (.slice (some ⟨g2, 0, none⟩) ss.length c2) (upd ss i (p, C - p + 1, r)) := by rw [hx3]; exact O8.out.below (Below.refl _ _).drew
            have q9 : Own3 x3 wr.heap.size (.slice (some ⟨g1, 0, none⟩) ss.length c1) SS := by rw [hx3]; exact HS8.out.below (Below.refl _ _).drew
            have B9 := Lib.hid b9
            have R9 := Lib.hid (And.intro r9 q9)
            clear hx3 b9 r9 q9 z1 t0 u0 s1 HO2 BX2 O8 B8 HS8 OS
            go_wp2_with fail
            refine (CS.out _ (RTV.out.below B9.out) R9.out.2.row).mono ?_
            rintro e x4 ⟨rfl, b10⟩
            have B10 := Lib.hid (B9.out.trans (b10.mono B9.out.size))
            have R10 := Lib.hid (R9.out.1.below b10)
            clear b10 R9 B9
            go_wp2_with fail
            refine (CL.out _ (RTV.out.below B10.out) R10.out.row).mono ?_
            rintro e x5 ⟨rfl, b11⟩
            have B11 := Lib.hid (BSV.out.trans ((B10.out.trans (b11.mono B10.out.size)).mono BSV.out.size))
            clear b11 R10 B10 CS CL
            go_wp2
            go_roundg (gk - 1)
            case measure => have := HK.out; omega
            case rel => exact ⟨i + 1, by have := HK.out; omega, by go_num, B11.out⟩
          · have hqb2 : (q - 1 == 0) = false := beq_eq_false_iff_ne.2 (by omega)
            have OS := Lib.hid (HO1.out.put1 hlt HQ.out.1 (q - 1))
            have BV := Lib.hid (bx1.setCell (p := ⟨g1, i * 3 + 1, none⟩) hg1 (.int .i64 (q - 1)))
            have HSV := Lib.hid (sc_short HF.out hlt HQ.out.1 (by omega))
            rw [if_neg (by omega)] at HSV
            have HSL := Lib.hid (upd_len hlt (p, q - 1, r))
            have HSB := Lib.hid (HST.out.upd hlt (s := (p, q - 1, r)) (by simp only; omega))
            obtain ⟨SS, hSS⟩ : ∃ SS, SS = upd ss i (p, q - 1, r) := ⟨_, rfl⟩
            rw [← hSS] at OS HSV HSL HSB
            clear hSS HO1
            go_upto_region 17 with fail
            obtain ⟨v, hv⟩ : ∃ v, v = w6.setCell ⟨g1, i * 3 + 1, none⟩ (.int .i64 (q - 1)) := ⟨_, rfl⟩
            rw [← hv]
            rw [← hv] at OS BV
            clear hv z1 t1 t0 u0 s0 s1 s2 ho1 bx1
            have RWV := Lib.hid (RW.out.below BV.out)
            have RTV := Lib.hid (RT.out.below BV.out)
            have BSV := Lib.hid (HBW.out.trans (BV.out.mono HBW.out.size))
            go_upto_region 18 with (at_builtin; refine wpList_append_own _ rfl (.tmp 73) (.tmp 74) 29 rfl v.heap.size 48 i0 _ 3 24 Try.underlying29 HI.out.1 HI.out.2.1 HI.out.2.2.1 HI.out.2.2.2 rfl (by decide) (.slice (some ⟨v.heap.size, 0, none⟩) 0 0) 0 [] rfl (own_emptyS v) ⟨sg, 0, none⟩ ss.length _ (flat ss) rfl (flat_length ss) (RWV.out.news _) (flat_one _) (by unfold maxLen; omega) (by omega) (by simp) ?_; intro v2 x2 hown2 hgrow2 hnil2)
            obtain ⟨g2, c2, rfl, hg2, hg2', ho2, bx2⟩ := copiedS hown2 hgrow2 hnil2
            clear hown2 hgrow2 hnil2
            have HO2 := Lib.hid ho2
            have BX2 := Lib.hid bx2
            have z1 := World.ownsRow.frozenAt ho2 (i * 3 + 1)
            have t0 := ((BV.out.trans (bx2.mono BV.out.size)).cell (p := ⟨sg, i * 3, none⟩) hsw).trans x0
            have u0 := ((BV.out.trans (bx2.mono BV.out.size)).cell (p := ⟨g, i * 3, none⟩) hgw).trans y0
            obtain ⟨bb, bo, be, -, -, s1, -⟩ := ho2.row.tk hlt
            simp only [Option.some.injEq, Addr.mk.injEq, and_true] at be
            obtain ⟨rfl, rfl⟩ := be
            rw [← HQ.out.1] at s1
            simp only [Nat.zero_add] at s1
            have O8 := Lib.hid (HO2.out.put1 hlt HQ.out.1 (C - p + 1))
            have B8 := Lib.hid (bx2.setCell (p := ⟨g2, i * 3 + 1, none⟩) hg2 (.int .i64 (C - p + 1)))
            clear ho2 bx2 x0 x1 y0
            have HS8 := Lib.hid (OS.out.below (B8.out))
            have CS := Lib.hid (fun W h1 h2 => sectionsValid_any (some ⟨g, 0, none⟩) (some ⟨g1, 0, none⟩) cap1 c1 ts SS W h1 h2 HSB.out (by omega) (by rw [HSL.out]; omega))
            rw [HSL.out, HSV.out] at CS
            have hlong := sc_long HF.out hlt (a := p) (c := r) HQ.out.2
            have CL := Lib.hid (fun W h1 h2 => sectionsValid_any (some ⟨g, 0, none⟩) (some ⟨g2, 0, none⟩) cap1 c2 ts (upd ss i (p, C - p + 1, r)) W h1 h2 (HST.out.upd hlt (by simp only; omega)) (by omega) (by rw [upd_len hlt]; omega))
            rw [upd_len hlt, hlong] at CL
            clear hlong
            go_region
            obtain ⟨x3, hx3⟩ : ∃ x3, x3 = (x2.setCell ⟨g2, i * 3 + 1, none⟩ (.int .i64 (C - p + 1))).drew := ⟨_, rfl⟩
            rw [← hx3]
            have b9 : Below v.heap.size v x3 := by rw [hx3]; exact B8.out.drew
            have r9 : Own3 x3 v.heap.size (.slice (some ⟨g2, 0, none⟩) ss.length c2) (upd ss i (p, C - p + 1, r)) := by rw [hx3]; exact O8.out.below (Below.refl _ _).drew
            have q9 : Own3 x3 wr.heap.size (.slice (some ⟨g1, 0, none⟩) ss.length c1) SS := by rw [hx3]; exact HS8.out.below (Below.refl _ _).drew
            have B9 := Lib.hid b9
            have R9 := Lib.hid (And.intro r9 q9)
            clear hx3 b9 r9 q9 z1 t0 u0 s1 HO2 BX2 O8 B8 HS8 OS
            go_wp2_with fail
            refine (CS.out _ (RTV.out.below B9.out) R9.out.2.row).mono ?_
            rintro e x4 ⟨rfl, b10⟩
            have B10 := Lib.hid (B9.out.trans (b10.mono B9.out.size))
            have R10 := Lib.hid (R9.out.1.below b10)
            clear b10 R9 B9
            go_wp2_with fail
            refine (CL.out _ (RTV.out.below B10.out) R10.out.row).mono ?_
            rintro e x5 ⟨rfl, b11⟩
            have B11 := Lib.hid (BSV.out.trans ((B10.out.trans (b11.mono B10.out.size)).mono BSV.out.size))
            clear b11 R10 B10 CS CL
            go_wp2
            go_roundg (gk - 1)
            case measure => have := HK.out; omega
            case rel => exact ⟨i + 1, by have := HK.out; omega, by go_num, B11.out⟩
      · have hi1 : ¬ (i : Int) < ss.length := by omega
        go_wp2
        go_ret
        exact ⟨rfl, B5.out.trans (HBW.out.mono B5.out.size)⟩

end Go.Proofs.Ytfacohicfcdamaa
