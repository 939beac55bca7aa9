/- laws.FnExactCeilings: for every task set and every slice of sections the program's Ceilings answers as the reference does, changes nothing, and its answer is memory of its own. Condition: the arguments hold what is said. -/
import Derived.Test.YtfacohicfcdamaaCopyC
import Derived.Test.YtfacohicfcdamaaSecImpl2
import Derived.Test.YtfacohicfcdamaaDrawSec
import Derived.Test.YtfacohicfcdamaaExactXA
import Derived.Test.YtfacohicfcdamaaMarkC
namespace Go.Proofs.Ytfacohicfcdamaa
open Go.RowKit Go.Deep

set_option maxRecDepth 100000 in
set_option maxHeartbeats 4000000 in
theorem fnExactCeilings_walk (a : Option Addr) (cap : Nat) (ts : List T3) (sa : Option Addr) (scap : Nat) (ss : List T3) (w : World) (hr : Row w a ts) (hm : ts.length ≤ maxLen) (hs : Row w sa ss) (hsm : ss.length ≤ maxLen) (hb : StB ss) :
    Calls Try.prog 4 #[.slice a ts.length cap, .slice sa ss.length scap] w fun e w' => e = .returned (.bool true) ∧ Below w.heap.size w w' := by
  have HR := Lib.hid hr
  have HS := Lib.hid hs
  have HSB := Lib.hid hb
  clear hr hs hb
  by_cases hn : ts.length ≤ 1048576
  · have hn' : ts.length ≤ 1099511627776 := by omega
    have h' : ¬ (1048576 - (ts.length : Int) < 0) := by omega
    have h0 : (0 : Int) ≤ 1048576 - (ts.length : Int) := by omega
    obtain ⟨room, hroom⟩ : ∃ room : Nat, (1048576 : Int) - (ts.length : Int) = (room : Int) := ⟨1048576 - ts.length, by omega⟩
    have hrm : room ≤ 1048576 := by omega
    by_cases hk : ss.length ≤ room
    · have hk' : ss.length ≤ 1099511627776 := by omega
      have h2 : ¬ ((room : Int) - (ss.length : Int) < 0) := by omega
      have hnb : ceL ts ss ≤ 1048576 := by unfold ceL; split <;> omega
      obtain ⟨n, hnn⟩ : ∃ n, n = ceL ts ss := ⟨_, rfl⟩
      obtain ⟨g, hg⟩ : ∃ g : Nat → Int, g = fun r => ((ce ts ss r : Nat) : Int) := ⟨_, rfl⟩
      rw [← hnn] at hnb
      have HN := Lib.hid hnn
      have HG := Lib.hid hg
      clear hnn hg
      go_enter Try.func4, Try.ntmps4
      go_wp2_with fail
      refine (szTaskS_small _ _ _ _ hn).mono ?_
      rintro e w' ⟨rfl, rfl⟩
      rw [hroom]
      clear hroom h' h0
      have h' : ¬ (room : Int) < 0 := by omega
      go_wp2_with fail
      refine (szSectionS_small _ _ _ _ _ hk hrm).mono ?_
      rintro e w' ⟨rfl, rfl⟩
      go_wp2_with fail
      refine (toTaskS_any _ _ _ _ HR.out hn').mono ?_
      rintro e w1 ⟨rfl, r1, b1⟩
      have R1 := Lib.hid r1
      clear r1
      go_wp2_with fail
      refine (toSectionS_any _ _ _ _ (HS.out.below b1) hk').mono ?_
      rintro e w2 ⟨rfl, i2, b2⟩
      have I2 := Lib.hid i2
      have R2 := Lib.hid (R1.out.below b2)
      have b02 := b1.trans (b2.mono b1.size)
      clear i2 b1 b2 R1
      go_wp2_with fail
      refine (specCeilings_any _ _ _ _ ts ss _ R2.out I2.out hn' hk').mono ?_
      rintro e w3 ⟨⟨v0, rfl, o0⟩, b3⟩
      rw [← HN.out, ← HG.out] at o0
      obtain ⟨a0, c0, rfl⟩ := own_shape o0
      have O3 := Lib.hid (o0.mono b02.size)
      have b03 := b02.trans (b3.mono b02.size)
      clear o0 b02 b3 R2 I2
      go_wp2_with fail
      refine (toTaskS_full _ _ _ _ (HR.out.below b03) hn').mono ?_
      rintro e w4 ⟨rfl, f4, b4⟩
      have O4 := Lib.hid (O3.out.below b4)
      have L0 := Lib.hid (show ∀ k, (Value.slice a0 n c0).ownBlock = some k → k < w3.heap.size from fun k hk => (O3.out.lt k hk).2)
      have F4 := Lib.hid f4
      have b04 := b03.trans (b4.mono b03.size)
      have hs4 : w3.heap.size < w4.heap.size := by
        obtain ⟨f, ⟨cur, hc, _⟩, _⟩ := f4
        exact (Array.getElem?_eq_some_iff.1 hc).1
      have hs3 := b03.size
      generalize hx0 : w3.heap.size = x0 at F4 L0 hs4 hs3 ⊢
      clear hx0 f4 b03 b4 O3
      go_wp2_with fail
      refine (toSectionS_full _ _ _ _ (HS.out.below b04) hk').mono ?_
      rintro e w5 ⟨rfl, i5, b5⟩
      have I5 := Lib.hid i5
      have F5 := Lib.hid (F4.out.below b5)
      have O5 := Lib.hid (O4.out.below b5)
      have b05 := b04.trans (b5.mono b04.size)
      have hs5 : w4.heap.size < w5.heap.size := by
        obtain ⟨f, ⟨cur, hc, _⟩, _⟩ := i5
        exact (Array.getElem?_eq_some_iff.1 hc).1
      generalize hx1 : w4.heap.size = x1 at I5 hs4 hs5 ⊢
      clear hx1 i5 b5 b04 F4 O4
      go_wp2_with fail
      refine (ceilings_any _ _ _ _ ts ss _ F5.out.row I5.out.row HSB.out hn' hk').mono ?_
      rintro e w6 ⟨⟨vg, rfl, og⟩, b6⟩
      rw [← HN.out, ← HG.out] at og
      obtain ⟨ag, cg, rfl⟩ := own_shape og
      have X6 := Lib.hid (show XA w w6 x0 w5.heap.size n (.slice a0 n c0) (.slice ag n cg) g g from ⟨O5.out.below b6, L0.out, og, b05.trans (b6.mono b05.size), hs3, by omega⟩)
      have F6 := Lib.hid (F5.out.below b6)
      have I6 := Lib.hid (I5.out.below b6)
      generalize hbg : w5.heap.size = bg at X6 hs5 ⊢
      clear hbg og b6 b05 F5 O5 I5
      go_wp2_with fail
      refine (eqIntS_same _ _ _ _ _ _ _ X6.out.og.intF' X6.out.o0.intF' hnb).mono ?_
      rintro e w7 ⟨rfl, n7, hw7⟩
      have b7 : Below w6.heap.size w6 w7 := by rw [hw7]; exact below_drewN _ _
      have X7 := Lib.hid (X6.out.below b7)
      have F7 := Lib.hid (F6.out.below b7)
      have I7 := Lib.hid (I6.out.below b7)
      clear hw7 b7 X6 F6 I6
      go_wp2_with fail
      refine (toTaskS_any _ _ _ _ (HR.out.below X7.out.bl) hn').mono ?_
      rintro e w8 ⟨rfl, r8, b8⟩
      have T8 := Lib.hid r8
      have X8 := Lib.hid (X7.out.below b8)
      have F8 := Lib.hid (F7.out.below b8)
      have I8 := Lib.hid (I7.out.below b8)
      clear r8 b8 X7 F7 I7
      go_wp2_with fail
      refine (eqTaskS_same _ _ _ _ _ _ F8.out.row T8.out hn').mono ?_
      rintro e w9 ⟨rfl, b9⟩
      have X9 := Lib.hid (X8.out.below b9)
      have F9 := Lib.hid (F8.out.below b9)
      have I9 := Lib.hid (I8.out.below b9)
      clear b9 X8 F8 T8 I8
      go_wp2_with fail
      refine (toSectionS_any _ _ _ _ (HS.out.below X9.out.bl) hk').mono ?_
      rintro e wA ⟨rfl, iA, bA⟩
      have TA := Lib.hid iA
      have XA' := Lib.hid (X9.out.below bA)
      have FA := Lib.hid (F9.out.below bA)
      have IA := Lib.hid (I9.out.below bA)
      clear iA bA X9 F9 I9
      go_wp2_with fail
      refine (eqSectionS_same _ _ _ _ _ _ IA.out.row TA.out hk').mono ?_
      rintro e wB ⟨rfl, bB⟩
      have XB := Lib.hid (XA'.out.below bB)
      have FB := Lib.hid (FA.out.below bB)
      have IB := Lib.hid (IA.out.below bB)
      clear bB XA' FA IA TA
      obtain ⟨fI, rI, _⟩ := IB.out
      have RI := Lib.hid rI
      clear rI
      obtain ⟨fB, rB, _⟩ := FB.out
      have RB := Lib.hid rB
      clear rB
      go_wp2_with fail
      refine (markTaskS_any _ _ _ fB 1 _ RB.out hn (by omega)).mono ?_
      rintro e wC ⟨rfl, gC⟩
      have XC := Lib.hid (XB.out.mark gC fun k hk => by simp only [Option.some.injEq] at hk; omega)
      have IC := Lib.hid (RI.out.of_block (gC.block _ RI.out.lt (fun e => by simp only [Option.some.injEq] at e; omega)))
      obtain ⟨q1, hq1⟩ : ∃ q : Nat, ((1 : Nat) : Int) + 3 * (ts.length : Int) = (q : Int) ∧ q ≤ 5000000 := ⟨1 + 3 * ts.length, by omega, by omega⟩
      rw [hq1.1]
      obtain ⟨hq1', hq1⟩ := hq1
      clear hq1' gC XB FB RB IB RI
      go_wp2_with fail
      refine (markSectionS_any _ _ _ fI q1 _ IC.out (by omega) (by omega)).mono ?_
      rintro e wD ⟨rfl, gD⟩
      have XD := Lib.hid (XC.out.mark gD fun k hk => by simp only [Option.some.injEq] at hk; omega)
      have hk0 : ¬ (q1 : Int) + 3 * (ss.length : Int) < 0 := by omega
      clear gD XC IC
      go_wp2_with fail
      refine (eqIntS_same _ _ _ _ _ _ _ XD.out.og.intF' XD.out.o0.intF' hnb).mono ?_
      rintro e wE ⟨rfl, nE, hwE⟩
      have bE : Below wD.heap.size wD wE := by rw [hwE]; exact below_drewN _ _
      have XE := Lib.hid (XD.out.below bE)
      clear hwE bE XD hk0
      go_wp2_with fail
      refine (markIntS_any _ _ _ _ 1 _ _ XE.out.og hnb (by omega)).mono ?_
      rintro e wF ⟨rfl, oF, gF⟩
      have XF := Lib.hid (XE.out.own gF oF)
      clear oF gF XE
      have hp : ¬ ((1 : Nat) : Int) + (n : Int) < 0 := by omega
      go_wp2_with fail
      refine (heldIntS_any _ _ _ 1 _ XF.out.og.intF' hnb (by omega)).mono ?_
      rintro e wG ⟨rfl, rfl⟩
      go_wp2_with fail
      refine (toTaskS_any _ _ _ _ (HR.out.below XF.out.bl) hn').mono ?_
      rintro e wH ⟨rfl, rH, bH⟩
      have TH := Lib.hid rH
      have XH := Lib.hid (XF.out.below bH)
      clear rH bH XF
      go_wp2_with fail
      refine (toSectionS_any _ _ _ _ (HS.out.below XH.out.bl) hk').mono ?_
      rintro e wI ⟨rfl, iI, bI⟩
      have II := Lib.hid iI
      have TI := Lib.hid (TH.out.below bI)
      have XI := Lib.hid (XH.out.below bI)
      clear iI bI XH TH
      go_wp2_with fail
      refine (ceilings_any _ _ _ _ ts ss _ TI.out II.out HSB.out hn' hk').mono ?_
      rintro e wJ ⟨⟨vh, rfl, oh⟩, bJ⟩
      rw [← HN.out, ← HG.out] at oh
      obtain ⟨ah, ch, rfl⟩ := own_shape oh
      have OH := Lib.hid oh.intF'
      have XJ := Lib.hid (XI.out.below bJ)
      clear oh bJ XI TI II
      go_wp2_with fail
      refine (eqIntS_same _ _ _ _ _ _ _ OH.out XJ.out.o0.intF' hnb).mono ?_
      rintro e wK ⟨rfl, nK, hwK⟩
      have bK : Below wJ.heap.size wJ wK := by rw [hwK]; exact below_drewN _ _
      have XK := Lib.hid (XJ.out.below bK)
      clear hwK bK XJ OH
      go_wp2_with fail
      refine (heldIntS_any _ _ _ 1 _ XK.out.og.intF' hnb (by omega)).mono ?_
      rintro e wL ⟨rfl, rfl⟩
      go_wp2
      go_ret
      exact ⟨rfl, XK.out.bl⟩
    · go_enter Try.func4, Try.ntmps4
      go_wp2_with fail
      refine (szTaskS_small _ _ _ _ hn).mono ?_
      rintro e w' ⟨rfl, rfl⟩
      rw [hroom]
      clear hroom h' h0
      have h' : ¬ (room : Int) < 0 := by omega
      go_wp2_with fail
      refine (szSectionS_big _ _ _ _ _ (by omega) hrm hsm).mono ?_
      rintro e w' ⟨rfl, rfl⟩
      go_wp2
      go_ret
      exact ⟨rfl, Below.refl _ _⟩
  · have hn' : 1048576 < ts.length := by omega
    go_enter Try.func4, Try.ntmps4
    go_wp2_with (go_at_call 11; refine (szTaskS_big _ _ _ _ hn' hm).mono ?_; rintro e w' ⟨rfl, rfl⟩)
    go_ret
    exact ⟨rfl, Below.refl _ _⟩

end Go.Proofs.Ytfacohicfcdamaa
