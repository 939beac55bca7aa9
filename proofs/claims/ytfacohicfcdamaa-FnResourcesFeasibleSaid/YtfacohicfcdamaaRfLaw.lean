/- The walk of laws.FnResourcesFeasible, for whatever code. Condition: the argument is a slice of bytes. -/
import Derived.Test.YtfacohicfcdamaaSecMake
import Derived.Test.YtfacohicfcdamaaSecImpl2
namespace Go.Proofs.Ytfacohicfcdamaa
open Go.RowKit Go.Deep

set_option maxRecDepth 100000 in
set_option maxHeartbeats 8000000 in
/-- laws.FnResourcesFeasible. -/
theorem fnResourcesFeasible_walk (a : Option Addr) (len cap : Nat) (w : World) (hb : Byts w a len cap) :
    Calls Try.prog 10 #[.slice a len cap] w fun e w' => e = .returned (.bool true) ∧ Below w.heap.size w w' := by
  obtain ⟨i0, hi, hz, hsz, hby⟩ := info_parts secInfo
  have HI := Lib.hid (And.intro hi (And.intro hz (And.intro hsz hby)))
  clear hi hz hsz hby
  have hm : cap ≤ maxLen := hb.2.2
  have hlc : len ≤ cap := hb.2.1
  unfold maxLen at hm
  have HB := Lib.hid hb
  clear hb
  by_cases hl : 1048576 < len
  · have hl' : (1048576 : Int) < len := by omega
    go_enter Try.func10, Try.ntmps10
    go_wp2
    go_ret
    exact ⟨rfl, Below.refl _ _⟩
  have hl' : ¬ (1048576 : Int) < len := by omega
  go_enter Try.func10, Try.ntmps10
  go_wp2_with fail
  refine (drawResourcesFeasible_any _ _ _ _ HB.out).mono ?_
  rintro e w1 ⟨g, cap1, sg, scap, ts, ss, rfl, hn, hlc1, hcm1, hsn, hst, hr1, hos, b1⟩
  have hcs := hos.caps
  have hcm2 := hcs.2
  unfold maxLen at hcm1 hcm2
  have HST := Lib.hid hst
  have R1 := Lib.hid (And.intro hr1 hos)
  have B1 := Lib.hid b1
  clear hr1 hos b1 HB hst
  go_wp2_with fail
  refine (resourcesFeasible_any _ _ _ _ ts ss _ R1.out.1 R1.out.2.row HST.out (by omega) (by omega)).mono ?_
  rintro e w2 ⟨rfl, b2⟩
  have B2 := Lib.hid (B1.out.trans (b2.mono B1.out.size))
  have R2 := Lib.hid (And.intro (R1.out.1.below b2) (R1.out.2.below b2))
  clear b2 R1 B1
  go_wp2_with fail
  refine (specResourcesFeasible_any _ _ _ _ ts ss _ R2.out.1 R2.out.2.row (by omega) (by omega)).mono ?_
  rintro e w3 ⟨rfl, b3⟩
  have B3 := Lib.hid (B2.out.trans (b3.mono B2.out.size))
  have R3 := Lib.hid (And.intro (R2.out.1.below b3) (R2.out.2.below b3))
  clear b3 R2 B2
  obtain ⟨ok, hok⟩ : ∃ ok, ok = rfB ts ss := ⟨_, rfl⟩
  rw [← hok]
  have HOK := Lib.hid hok
  have hbb : (ok != ok) = false := by cases ok <;> rfl
  have hmk := run_make_secs ts.length (by omega)
  clear hok
  have BE := Lib.hid (below_box w3 (.cells (madeCells #[.int .i64 0, .int .i64 0, .int .i64 0] (ts.length * 3)) 48))
  have HC := Lib.hid (resourcesFeasible_any (some ⟨g, 0, none⟩) (some ⟨w3.heap.size, 0, none⟩) cap1 ts.length ts (zs ts.length) _ (R3.out.1.below BE.out) (row_zs w3 ts.length) (zs_StB _) (by omega) (by rw [zs_len]; omega))
  rw [rf_zs, zs_len] at HC
  go_wp2_with fail
  refine HC.out.mono ?_
  rintro e w4 ⟨rfl, b4⟩
  have b34 := BE.out.trans (b4.mono BE.out.size)
  have B4 := Lib.hid (B3.out.trans (b34.mono B3.out.size))
  have R4 := Lib.hid (And.intro (R3.out.1.below b34) (R3.out.2.below b34))
  clear b4 b34 R3 B3 HC BE hmk
  go_wp2_with fail
  refine (edfFeasible_any _ _ ts _ R4.out.1 (by omega)).mono ?_
  rintro e w5 ⟨rfl, b5⟩
  have B5 := Lib.hid (B4.out.trans (b5.mono B4.out.size))
  have R5 := Lib.hid (And.intro (R4.out.1.below b5) (R4.out.2.below b5))
  clear b5 R4 B4
  obtain ⟨ed, hed⟩ : ∃ ed, ed = edf ts := ⟨_, rfl⟩
  rw [← hed]
  have hbe : (ed != ed) = false := by cases ed <;> rfl
  have HED := Lib.hid hed
  clear hed
  cases ok with
  | false =>
    go_wp2_with fail
    refine (alive_any _).mono ?_
    rintro e w6 ⟨rfl, b6⟩
    go_wp2
    go_ret
    exact ⟨rfl, B5.out.trans (b6.mono B5.out.size)⟩
  | true =>
    have hf : rfB ts ss = true := HOK.out.symm
    have HF := Lib.hid hf
    have HEDF := Lib.hid (rf_edf hf)
    have hlen := (scB_iff.1 (rfB_iff.1 hf).1).2.1
    have hl5 := (sv_all (scB_iff.1 (rfB_iff.1 hf).1).1).2
    have hl5' : ss.length ≤ 5 := by omega
    clear hf hbb hbe hlen
    go_wp2
    go_loopg [6] ss.length (fun m z wr => ∃ i : Nat, m + i = ss.length ∧ z = .int .i64 i ∧ Below w5.heap.size w5 wr)
    case atStart => exact ⟨0, by omega, rfl, Below.refl _ _⟩
    case round =>
      obtain ⟨i, hk, rfl, B⟩ := hrel
      have HK := Lib.hid hk
      have HBW := Lib.hid B
      have hii : i ≤ ss.length := by omega
      clear hk B
      by_cases hlt : i < ss.length
      · have hi0 : (0 : Int) ≤ i := by omega
        have hi1 : (i : Int) < ss.length := by omega
        have RW := Lib.hid (R5.out.2.below HBW.out)
        go_wp2_with (at_builtin; refine wpList_append_own _ rfl (.tmp 43) (.tmp 44) 29 rfl wr.heap.size 48 i0 _ 3 24 Try.underlying29 HI.out.1 HI.out.2.1 HI.out.2.2.1 HI.out.2.2.2 rfl (by decide) (.slice (some ⟨wr.heap.size, 0, none⟩) 0 0) 0 [] rfl (own_emptyS wr) ⟨sg, 0, none⟩ ss.length _ (flat ss) rfl (flat_length ss) (RW.out.news _) (flat_one _) (by unfold maxLen; omega) (by omega) (by simp) ?_; intro v1 w6 hown1 hgrow1 hnil1; obtain ⟨g1, c1, rfl, hg1, hg1', ho1, bx1⟩ := copiedS hown1 hgrow1 hnil1; clear hown1 hgrow1 hnil1; have HO1 := Lib.hid ho1; have BX := Lib.hid bx1; clear bx1; obtain ⟨og, oe, -, -, hfz⟩ := ho1.at (by omega); simp only [Option.some.injEq, Addr.mk.injEq, and_true] at oe; subst oe; have z0 := hfz (i * 3); have z1 := hfz (i * 3 + 1); have z2 := hfz (i * 3 + 2); obtain ⟨bb, bo, be, -, s0, s1, s2⟩ := ho1.row.tk hlt; simp only [Option.some.injEq, Addr.mk.injEq, and_true] at be; obtain ⟨rfl, rfl⟩ := be; simp only [Nat.zero_add] at s0 s1 s2; clear hfz ho1)
        have BP := Lib.hid (((BX.out.setCell (p := ⟨g1, i * 3, none⟩) hg1 (.int .i64 0)).setCell (p := ⟨g1, i * 3 + 1, none⟩) hg1 (.int .i64 0)).setCell (p := ⟨g1, i * 3 + 2, none⟩) hg1 (.int .i64 0))
        have HP := Lib.hid (HO1.out.put hlt 0 0 0)
        have HC := Lib.hid (fun W h1 h2 => resourcesFeasible_any (some ⟨g, 0, none⟩) (some ⟨g1, 0, none⟩) cap1 c1 ts (upd ss i (0, 0, 0)) W h1 h2 (HST.out.upd hlt (by decide)) (by omega) (by rw [upd_len hlt]; omega))
        rw [upd_len hlt, rf_upd HF.out hlt] at HC
        refine (HC.out _ (R5.out.1.below (HBW.out.trans (BP.out.mono HBW.out.size))) HP.out.row).mono ?_
        rintro e w7 ⟨rfl, b7⟩
        have B7 := Lib.hid (HBW.out.trans ((BP.out.trans (b7.mono BP.out.size)).mono HBW.out.size))
        clear b7 HC HP BP BX HO1 z0 z1 z2 s0 s1 s2
        go_wp2
        go_roundg (gk - 1)
        case measure => have := HK.out; omega
        case rel => exact ⟨i + 1, by have := HK.out; omega, by go_num, B7.out⟩
      · have hi1 : ¬ (i : Int) < ss.length := by omega
        go_wp2_with fail
        refine (edfFeasible_any _ _ ts _ (R5.out.1.below HBW.out) (by omega)).mono ?_
        rintro e w7 ⟨rfl, b7⟩
        go_wp2
        go_ret
        exact ⟨ret_bool HEDF.out, B5.out.trans ((HBW.out.trans (b7.mono HBW.out.size)).mono B5.out.size)⟩

end Go.Proofs.Ytfacohicfcdamaa
