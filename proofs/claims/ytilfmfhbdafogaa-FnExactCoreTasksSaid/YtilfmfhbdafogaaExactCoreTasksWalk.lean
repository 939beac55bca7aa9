/- laws.FnExactCoreTasks: for every task set, every number of processors, every assignment (slices of whatever length, nil too, of whatever values) and every processor the program's CoreTasks answers as the reference does, changes neither slice, and its answer is memory of its own; the law returns true and leaves its arguments as they were. No condition. -/
import Derived.Test.YtilfmfhbdafogaaMarkT3
namespace Go.Proofs.Ytilfmfhbdafogaa
open Go.RowKit Go.Deep

theorem ctL_len {ts : List T3} {n : Int} {os : List Int} {c : Int} : (ctL ts n os c).length ≤ os.length := by
  unfold ctL
  split
  · exact onN_len _ _ _ _
  · simp

set_option maxRecDepth 100000 in
set_option maxHeartbeats 4000000 in
/-- laws.FnExactCoreTasks. -/
theorem fnExactCoreTasks_any (a : Option Addr) (cap : Nat) (ts : List T3) (n : Int) (oa : Option Addr) (ocap : Nat) (os : List Int) (c : Int) (w : World) (hr : Row w a ts) (hm : ts.length ≤ maxLen) (_ : -9223372036854775808 ≤ n ∧ n ≤ 9223372036854775807) (ho : IntF w oa os.length fun k => os.getD k 0) (_ : os.length ≤ maxLen) (_ : -9223372036854775808 ≤ c ∧ c ≤ 9223372036854775807) :
    Calls Try.prog 4 #[.slice a ts.length cap, .int .i64 n, .slice oa os.length ocap, .int .i64 c] w fun e w' =>
      e = .returned (.bool true) ∧ Below w.heap.size w w' := by
  have HR := Lib.hid hr
  clear hr
  have HO := Lib.hid ho
  clear ho
  by_cases hol : 1048576 < os.length
  · have hol' : (1048576 : Int) < os.length := by omega
    go_enter Try.func4, Try.ntmps4
    go_wp2
    go_ret
    exact ⟨rfl, Below.refl _ _⟩
  have hol' : ¬ (1048576 : Int) < os.length := by omega
  have hon : os.length ≤ 1048576 := by omega
  clear hol
  by_cases hn : ts.length ≤ 1048576
  · have hn' : ts.length ≤ 1099511627776 := by omega
    have h' : ¬ (1048576 - (ts.length : Int) < 0) := by omega
    have hnb : (ctL ts n os c).length ≤ 1048576 := Nat.le_trans ctL_len (by omega)
    obtain ⟨L, hL⟩ : ∃ L, L = ctL ts n os c := ⟨_, rfl⟩
    rw [← hL] at hnb
    have HL := Lib.hid hL
    have hnb' : L.length ≤ 1099511627776 := by omega
    clear hL
    go_enter Try.func4, Try.ntmps4
    go_wp2_with (go_at_call 9; refine (szTaskS_small _ _ _ _ hn).mono ?_; rintro e w' ⟨rfl, rfl⟩)
    refine (toTaskS_any _ _ _ _ HR.out hn').mono ?_
    rintro e w1 ⟨rfl, r1, b1⟩
    have R1 := Lib.hid r1
    clear r1
    go_wp2_with fail
    refine (toIntS_any _ _ _ _ _ (HO.out.below b1) (by omega)).mono ?_
    rintro e w2 ⟨rfl, i2, b2⟩
    have I2 := Lib.hid i2.intF'
    have R2 := Lib.hid (R1.out.below b2)
    have b02 := b1.trans (b2.mono b1.size)
    clear i2 b1 b2 R1
    go_wp2_with fail
    refine (specCoreTasks_any _ _ _ _ ts n os c _ R2.out I2.out hn' (by omega)).mono ?_
    rintro e w3 ⟨v0, rfl, o0, b3⟩
    rw [← HL.out] at o0
    obtain ⟨a0, c0, rfl, -, -, -⟩ := o0.row
    have O3 := Lib.hid (own_mono o0 b02.size)
    have b03 := b02.trans (b3.mono b02.size)
    clear o0 b02 b3 R2 I2
    go_wp2_with fail
    refine (toTaskS_full _ _ _ _ (HR.out.below b03) hn').mono ?_
    rintro e w4 ⟨rfl, f4, b4⟩
    have O4 := Lib.hid (own_belowT O3.out b4)
    have L0 := Lib.hid (show ∀ k, (Value.slice a0 L.length c0).ownBlock = some k → k < w3.heap.size from fun k hk => (ownT_lt O3.out k hk).2)
    have F4 := Lib.hid f4
    have b04 := b03.trans (b4.mono b03.size)
    have hs4 : w3.heap.size < w4.heap.size := by
      obtain ⟨f, ⟨cur, hc, _⟩, _⟩ := f4
      exact (Array.getElem?_eq_some_iff.1 hc).1
    have hs3 := b03.size
    generalize hx0 : w3.heap.size = x0 at F4 L0 hs4 hs3 ⊢
    clear hx0 f4 b03 b4 O3
    go_wp2_with fail
    refine (toIntS_any _ _ _ _ _ (HO.out.below b04) (by omega)).mono ?_
    rintro e w5 ⟨rfl, i5, b5⟩
    have I5 := Lib.hid i5
    have F5 := Lib.hid (F4.out.below b5)
    have O5 := Lib.hid (own_belowT O4.out b5)
    have b05 := b04.trans (b5.mono b04.size)
    have hs5 : w4.heap.size < w5.heap.size := (i5.lt w4.heap.size rfl).2
    generalize hx1 : w4.heap.size = x1 at I5 hs4 hs5 ⊢
    clear hx1 i5 b5 b04 F4 O4
    go_wp2_with fail
    refine (coreTasks_any _ _ _ _ ts n os c _ F5.out.row I5.out.intF' hn' (by omega)).mono ?_
    rintro e w6 ⟨vg, rfl, og, b6⟩
    rw [← HL.out] at og
    obtain ⟨ag, cg, rfl, -, -, -⟩ := og.row
    have X6 := Lib.hid (show XT w w6 x0 w5.heap.size L (.slice a0 L.length c0) (.slice ag L.length cg) (fT L) from ⟨own_belowT O5.out b6, L0.out, og.ownFT, b05.trans (b6.mono b05.size), hs3, by omega⟩)
    have F6 := Lib.hid (F5.out.below b6)
    have I6 := Lib.hid (I5.out.below b6)
    generalize hbg : w5.heap.size = bg at X6 hs5 ⊢
    clear hbg og b6 b05 F5 O5 I5
    go_wp2_with fail
    refine (eqTaskS_same _ _ _ _ L _ (own_rowT X6.out.og.own) (own_rowT X6.out.o0) hnb').mono ?_
    rintro e w7 ⟨rfl, b7⟩
    have X7 := Lib.hid (X6.out.below b7)
    have F7 := Lib.hid (F6.out.below b7)
    have I7 := Lib.hid (I6.out.below b7)
    clear b7 X6 F6 I6
    go_wp2_with fail
    refine (toTaskS_any _ _ _ _ (HR.out.below X7.out.bl) hn').mono ?_
    rintro e w8 ⟨rfl, r8, b8⟩
    have T8 := Lib.hid r8
    have X8 := Lib.hid (X7.out.below b8)
    have F8 := Lib.hid (F7.out.below b8)
    have I8 := Lib.hid (I7.out.below b8)
    clear r8 b8 X7 F7 I7
    go_wp2_with fail
    refine (eqTaskS_same _ _ _ _ _ _ F8.out.row T8.out hn').mono ?_
    rintro e w9 ⟨rfl, b9⟩
    have X9 := Lib.hid (X8.out.below b9)
    have F9 := Lib.hid (F8.out.below b9)
    have I9 := Lib.hid (I8.out.below b9)
    clear b9 X8 F8 T8 I8
    go_wp2_with fail
    refine (toIntS_any _ _ _ _ _ (HO.out.below X9.out.bl) (by omega)).mono ?_
    rintro e wA ⟨rfl, iA, bA⟩
    have TA := Lib.hid iA.intF'
    have XA' := Lib.hid (X9.out.below bA)
    have FA := Lib.hid (F9.out.below bA)
    have IA := Lib.hid (I9.out.below bA)
    clear iA bA X9 F9 I9
    go_wp2_with fail
    refine (eqIntS_same _ _ _ _ _ _ _ IA.out.intF' TA.out (by omega)).mono ?_
    rintro e wB ⟨rfl, nB, hwB⟩
    have bB : Below wA.heap.size wA wB := by rw [hwB]; exact below_drewN _ _
    have XB := Lib.hid (XA'.out.below bB)
    have FB := Lib.hid (FA.out.below bB)
    have IB := Lib.hid (IA.out.below bB)
    clear hwB bB XA' FA IA TA
    obtain ⟨fB, rB, _⟩ := FB.out
    have RB := Lib.hid rB
    clear rB
    go_wp2_with fail
    refine (markTaskS_any _ _ _ fB 1 _ RB.out hn (by omega)).mono ?_
    rintro e wC ⟨rfl, gC⟩
    have XC := Lib.hid (XB.out.mark gC fun k hk => by simp only [Option.some.injEq] at hk; omega)
    have IC := Lib.hid (IB.out.keep (w' := wC) fun k hk => gC.block k (IB.out.lt k hk).2 (fun e => by simp only [Value.ownBlock, Option.some.injEq] at hk e; omega))
    obtain ⟨q1, hq1⟩ : ∃ q : Nat, ((1 : Nat) : Int) + 3 * (ts.length : Int) = (q : Int) ∧ q ≤ 5000000 := ⟨1 + 3 * ts.length, by omega, by omega⟩
    rw [hq1.1]
    obtain ⟨hq1', hq1⟩ := hq1
    clear hq1' gC XB FB RB IB
    go_wp2_with fail
    refine (markIntS_any _ _ _ _ q1 _ _ IC.out (by omega) (by omega)).mono ?_
    rintro e wD ⟨rfl, _, gD⟩
    have XD := Lib.hid (XC.out.mark gD fun k hk => by simp only [Value.ownBlock, Option.some.injEq] at hk; omega)
    have hk0 : ¬ (q1 : Int) + (os.length : Int) < 0 := by omega
    clear gD XC IC
    go_wp2_with fail
    refine (eqTaskS_same _ _ _ _ L _ (own_rowT XD.out.og.own) (own_rowT XD.out.o0) hnb').mono ?_
    rintro e wE ⟨rfl, bE⟩
    have XE := Lib.hid (XD.out.below bE)
    clear bE XD hk0
    go_wp2_with fail
    refine (markTaskF_any _ _ _ _ 1 _ _ XE.out.og hnb (by omega)).mono ?_
    rintro e wF ⟨rfl, oF, gF⟩
    have XF := Lib.hid (XE.out.own gF oF)
    clear oF gF XE
    have hp : ¬ ((1 : Nat) : Int) + 3 * (L.length : Int) < 0 := by omega
    go_wp2_with fail
    refine (heldTaskF_any _ _ _ 1 _ _ XF.out.og hnb (by omega)).mono ?_
    rintro e wG ⟨rfl, lG, hwG⟩
    have bG : Below wF.heap.size wF wG := by rw [hwG]; exact below_drewN _ _
    have XG := Lib.hid (XF.out.below bG)
    clear hwG bG XF
    go_wp2_with fail
    refine (toTaskS_any _ _ _ _ (HR.out.below XG.out.bl) hn').mono ?_
    rintro e wH ⟨rfl, rH, bH⟩
    have TH := Lib.hid rH
    have XH := Lib.hid (XG.out.below bH)
    clear rH bH XG
    go_wp2_with fail
    refine (toIntS_any _ _ _ _ _ (HO.out.below XH.out.bl) (by omega)).mono ?_
    rintro e wI ⟨rfl, iI, bI⟩
    have II := Lib.hid iI.intF'
    have TI := Lib.hid (TH.out.below bI)
    have XI := Lib.hid (XH.out.below bI)
    clear iI bI XH TH
    go_wp2_with fail
    refine (coreTasks_any _ _ _ _ ts n os c _ TI.out II.out hn' (by omega)).mono ?_
    rintro e wJ ⟨vh, rfl, oh, bJ⟩
    rw [← HL.out] at oh
    obtain ⟨ah, ch, rfl, -, -, -⟩ := oh.row
    have OH := Lib.hid (own_rowT oh)
    have XJ := Lib.hid (XI.out.below bJ)
    clear oh bJ XI TI II
    go_wp2_with fail
    refine (eqTaskS_same _ _ _ _ L _ OH.out (own_rowT XJ.out.o0) hnb').mono ?_
    rintro e wK ⟨rfl, bK⟩
    have XK := Lib.hid (XJ.out.below bK)
    clear bK XJ OH
    go_wp2_with fail
    refine (heldTaskF_any _ _ _ 1 _ _ XK.out.og hnb (by omega)).mono ?_
    rintro e wL ⟨rfl, lL, rfl⟩
    go_wp2
    go_ret
    exact ⟨rfl, below_drewN' XK.out.bl _⟩
  · have hn' : 1048576 < ts.length := by omega
    go_enter Try.func4, Try.ntmps4
    go_wp2_with (go_at_call 9; refine (szTaskS_big _ _ _ _ hn' hm).mono ?_; rintro e w' ⟨rfl, rfl⟩)
    go_ret
    exact ⟨rfl, Below.refl _ _⟩

end Go.Proofs.Ytilfmfhbdafogaa
