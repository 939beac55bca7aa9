/- laws.FnExactWorstChoices: for every program (a slice of whatever length, nil too, of nodes of whatever values) the program's WorstChoices answers as the reference does, does not change its argument, and its answer is memory of its own; the law returns true and leaves its argument as it was. No condition. -/
import Derived.Test.YtlcdmjcikbgnpaaPrgWstP
import Derived.Test.YtlcdmjcikbgnpaaMarkN
import Derived.Test.YtlcdmjcikbgnpaaExactXA
namespace Go.Proofs.Ytlcdmjcikbgnpaa
open Go.RowKit Go.Deep

set_option maxRecDepth 100000 in
set_option maxHeartbeats 4000000 in
/-- laws.FnExactWorstChoices. -/
theorem fnExactWorstChoices_any (a : Option Addr) (cap : Nat) (ts : List N5) (w : World) (hr : RowN w a ts) (hm : ts.length ≤ maxLen) :
    Calls Try.prog 12 #[.slice a ts.length cap] w fun e w' =>
      e = .returned (.bool true) ∧ Below w.heap.size w w' := by
  have HR := Lib.hid hr
  clear hr
  by_cases hn : ts.length ≤ 1048576
  · have hn' : ts.length ≤ 1099511627776 := by omega
    have h' : ¬ (1048576 - (ts.length : Int) < 0) := by omega
    have hnb : (wh8 ts).length ≤ 1048576 := Nat.le_trans (wh8_len ts) (by decide)
    obtain ⟨n, hnn⟩ : ∃ n, n = (wh8 ts).length := ⟨_, rfl⟩
    obtain ⟨g, hg⟩ : ∃ g : Nat → Int, g = fun k => (wh8 ts).getD k 0 := ⟨_, rfl⟩
    rw [← hnn] at hnb
    have HN := Lib.hid hnn
    have HG := Lib.hid hg
    clear hnn hg
    go_enter Try.func12, Try.ntmps12
    go_wp2_with (go_at_call 29; refine (szNodeS_small _ _ _ _ hn).mono ?_; rintro e w' ⟨rfl, rfl⟩)
    refine (toNodeS_any _ _ _ _ HR.out hn').mono ?_
    rintro e w1 ⟨rfl, r1, b1⟩
    have R1 := Lib.hid r1
    clear r1
    have R2 := R1
    have b02 := b1
    clear b1 R1
    go_wp2_with fail
    refine (specWorstChoices_any _ _ ts _ R2.out hn').mono ?_
    rintro e w3 ⟨v0, rfl, oc0, b3⟩
    have o0 := oc0.1
    clear oc0
    rw [← HN.out, ← HG.out] at o0
    obtain ⟨a0, c0, rfl⟩ := own_shape o0
    have O3 := Lib.hid (o0.mono b02.size)
    have b03 := b02.trans (b3.mono b02.size)
    clear o0 b02 b3 R2
    go_wp2_with fail
    refine (toNodeS_full _ _ _ _ (HR.out.below b03) hn').mono ?_
    rintro e w4 ⟨rfl, f4, b4⟩
    have O4 := Lib.hid (O3.out.below b4)
    have L0 := Lib.hid (show ∀ k, (Value.slice a0 n c0).ownBlock = some k → k < w3.heap.size from fun k hk => (O3.out.lt k hk).2)
    have F4 := Lib.hid f4
    have b04 := b03.trans (b4.mono b03.size)
    have hs4 : w3.heap.size < w4.heap.size := by
      obtain ⟨f, ⟨cur, hc, _⟩, _⟩ := f4
      exact (Array.getElem?_eq_some_iff.1 hc).1
    have hs3 := b03.size
    generalize hx0 : w3.heap.size = x0 at F4 L0 hs4 hs3 ⊢
    clear hx0 f4 b03 b4 O3
    have F5 := F4
    have O5 := O4
    have b05 := b04
    obtain ⟨w5, hw5⟩ : ∃ w5, w5 = w4 := ⟨_, rfl⟩
    rw [← hw5] at F5 O5 b05 hs4 ⊢
    have hs5 := hs4
    clear F4 O4 b04 hw5
    go_wp2_with fail
    refine (implWorstChoices_any _ _ ts _ F5.out.row hn').mono ?_
    rintro e w6 ⟨vg, rfl, og, b6⟩
    rw [← HN.out, ← HG.out] at og
    obtain ⟨ag, cg, rfl⟩ := own_shape og
    have X6 := Lib.hid (show XA w w6 x0 w5.heap.size n (.slice a0 n c0) (.slice ag n cg) g g from ⟨O5.out.below b6, L0.out, og, b05.trans (b6.mono b05.size), hs3, by omega⟩)
    have F6 := Lib.hid (F5.out.below b6)
    skip
    generalize hbg : w5.heap.size = bg at X6 hs5 ⊢
    clear hbg og b6 b05 F5 O5
    go_wp2_with fail
    refine (eqIntS_same _ _ _ _ _ _ _ X6.out.og.intF' X6.out.o0.intF' hnb).mono ?_
    rintro e w7 ⟨rfl, n7, hw7⟩
    have b7 : Below w6.heap.size w6 w7 := by rw [hw7]; exact below_drewN _ _
    have X7 := Lib.hid (X6.out.below b7)
    have F7 := Lib.hid (F6.out.below b7)
    skip
    clear hw7 b7 X6 F6
    go_wp2_with fail
    refine (toNodeS_any _ _ _ _ (HR.out.below X7.out.bl) hn').mono ?_
    rintro e w8 ⟨rfl, r8, b8⟩
    have T8 := Lib.hid r8
    have X8 := Lib.hid (X7.out.below b8)
    have F8 := Lib.hid (F7.out.below b8)
    skip
    clear r8 b8 X7 F7
    go_wp2_with fail
    refine (eqNodeS_same _ _ _ _ _ _ F8.out.row T8.out hn').mono ?_
    rintro e w9 ⟨rfl, b9⟩
    have X9 := Lib.hid (X8.out.below b9)
    have F9 := Lib.hid (F8.out.below b9)
    skip
    clear b9 X8 F8 T8
    have XB := X9
    have FB := F9
    clear X9 F9
    obtain ⟨fB, rB, _⟩ := FB.out
    have RB := Lib.hid rB
    clear rB
    go_wp2_with fail
    refine (markNodeS_any _ _ _ fB 1 _ RB.out hn (by omega)).mono ?_
    rintro e wC ⟨rfl, gC⟩
    have XC := Lib.hid (XB.out.mark gC fun k hk => by simp only [Option.some.injEq] at hk; omega)
    have XD := XC
    have hk0 : ¬ ((1 : Nat) : Int) + 5 * (ts.length : Int) < 0 := by omega
    clear gC XB FB RB XC
    go_wp2_with fail
    refine (eqIntS_same _ _ _ _ _ _ _ XD.out.og.intF' XD.out.o0.intF' hnb).mono ?_
    rintro e wE ⟨rfl, nE, hwE⟩
    have bE : Below wC.heap.size wC wE := by rw [hwE]; exact below_drewN _ _
    have XE := Lib.hid (XD.out.below bE)
    clear hwE bE XD hk0
    go_wp2_with fail
    refine (markIntS_any _ _ _ _ 1 _ _ XE.out.og hnb (by omega)).mono ?_
    rintro e wF ⟨rfl, oF, gF⟩
    have XF := Lib.hid (XE.out.own gF oF)
    clear oF gF XE
    have hp : ¬ ((1 : Nat) : Int) + (n : Int) < 0 := by omega
    go_wp2_with fail
    refine (heldIntS_any _ _ _ 1 _ XF.out.og.intF' hnb (by omega)).mono ?_
    rintro e wG ⟨rfl, rfl⟩
    go_wp2_with fail
    refine (toNodeS_any _ _ _ _ (HR.out.below XF.out.bl) hn').mono ?_
    rintro e wH ⟨rfl, rH, bH⟩
    have TH := Lib.hid rH
    have XH := Lib.hid (XF.out.below bH)
    clear rH bH XF
    have TI := TH
    have XI := XH
    clear XH TH
    go_wp2_with fail
    refine (implWorstChoices_any _ _ ts _ TI.out hn').mono ?_
    rintro e wJ ⟨vh, rfl, oh, bJ⟩
    rw [← HN.out, ← HG.out] at oh
    obtain ⟨ah, ch, rfl⟩ := own_shape oh
    have OH := Lib.hid oh.intF'
    have XJ := Lib.hid (XI.out.below bJ)
    clear oh bJ XI TI
    go_wp2_with fail
    refine (eqIntS_same _ _ _ _ _ _ _ OH.out XJ.out.o0.intF' hnb).mono ?_
    rintro e wK ⟨rfl, nK, hwK⟩
    have bK : Below wJ.heap.size wJ wK := by rw [hwK]; exact below_drewN _ _
    have XK := Lib.hid (XJ.out.below bK)
    clear hwK bK XJ OH
    go_wp2_with fail
    refine (heldIntS_any _ _ _ 1 _ XK.out.og.intF' hnb (by omega)).mono ?_
    rintro e wL ⟨rfl, rfl⟩
    go_wp2
    go_ret
    exact ⟨rfl, XK.out.bl⟩
  · have hn' : 1048576 < ts.length := by omega
    go_enter Try.func12, Try.ntmps12
    go_wp2_with (go_at_call 29; refine (szNodeS_big _ _ _ _ hn' hm).mono ?_; rintro e w' ⟨rfl, rfl⟩)
    go_ret
    exact ⟨rfl, Below.refl _ _⟩

end Go.Proofs.Ytlcdmjcikbgnpaa
