/- laws.FnExactRunResources: for every task set, every list of sections and every list of jobs (slices of whatever length, nil too, of whatever values) the program's RunResources answers as the reference does, every field, changes no argument, and its answer is memory of its own; the law returns true and leaves its arguments as they were. No condition. -/
import Derived.Test.YtlagghoohloklaaExactRunBase
import Derived.Test.YtlagghoohloklaaResRunB
import Derived.Test.YtlagghoohloklaaMarkC
import Derived.Test.YtlagghoohloklaaCopyC
namespace Go.Proofs.Ytlagghoohloklaa
open Go.RowKit Go.Deep

theorem lenR_le (ts ss : List T3) (js : List J4) : lenRR ts ss js ≤ 120 := by unfold lenRR; split <;> omega
theorem lenF_le (ts ss : List T3) (js : List J4) : lenFR ts ss js ≤ 60 := by
  unfold lenFR
  split
  · rename_i h
    exact (legB_iff.1 (okR_iff.1 h).2).2.1
  · omega
/-- The reference's schedule, its variable in block s0; its slices lie below. -/
structure X0 (w W : World) (s0 n m : Nat) (fr ff : Nat → Int) (r0 f0 : Option Addr) (c1 c2 b0 : Nat) : Prop where
  z0 : W.cell? ⟨s0, 0, none⟩ = some (.slice r0 n c1)
  z1 : W.cell? ⟨s0, 1, none⟩ = some (.slice f0 m c2)
  o1 : OwnI W b0 (.slice r0 n c1) n fr
  o2 : OwnI W b0 (.slice f0 m c2) m ff
  lo : ∀ k, (Value.slice r0 n c1).ownBlock = some k ∨ (Value.slice f0 m c2).ownBlock = some k → k < s0
  bl : Below w.heap.size w W
theorem X0.below {w W W' : World} {s0 n m b0 c1 c2 : Nat} {fr ff : Nat → Int} {r0 f0 : Option Addr} (h : X0 w W s0 n m fr ff r0 f0 c1 c2 b0) (hb : Below W.heap.size W W') : X0 w W' s0 n m fr ff r0 f0 c1 c2 b0 := by
  have hl := World.block_lt_of_cell? W ⟨s0, 0, none⟩ h.z0
  exact ⟨(hb.cell (p := ⟨s0, 0, none⟩) hl).trans h.z0, (hb.cell (p := ⟨s0, 1, none⟩) hl).trans h.z1, h.o1.below hb, h.o2.below hb, h.lo, h.bl.trans (hb.mono h.bl.size)⟩
theorem X0.start {w w3 : World} {n m b0 c1 c2 : Nat} {fr ff : Nat → Int} {r0 f0 : Option Addr} (o1 : OwnI w3 b0 (.slice r0 n c1) n fr) (o2 : OwnI w3 b0 (.slice f0 m c2) m ff) (bl : Below w.heap.size w w3) :
    X0 w (w3.alloc (.cells #[.slice r0 n c1, .slice f0 m c2] 30)) w3.heap.size n m fr ff r0 f0 c1 c2 b0 :=
  ⟨by simp [go_sem], by simp [go_sem], o1.alloc _, o2.alloc _, fun k hk => hk.elim (fun h => (o1.lt k h).2) (fun h => (o2.lt k h).2), bl.alloc bl.size _⟩
theorem X0.xr {w w6 : World} {s0 n m b0 bg : Nat} {fr ff gr gf : Nat → Int} {r0 f0 rg fg : Option Addr} {c1 c2 c3 c4 : Nat} (h : X0 w w6 s0 n m fr ff r0 f0 c1 c2 b0) (g1 : OwnI w6 bg (.slice rg n c3) n gr) (g2 : OwnI w6 bg (.slice fg m c4) m gf) :
    XR w (w6.alloc (.cells #[.slice rg n c3, .slice fg m c4] 30)) s0 w6.heap.size n m fr ff gr gf r0 f0 rg fg c1 c2 c3 c4 b0 bg := by
  have hl := World.block_lt_of_cell? w6 ⟨s0, 0, none⟩ h.z0
  have hb := below_box w6 (.cells #[.slice rg n c3, .slice fg m c4] 30)
  exact ⟨(hb.cell (p := ⟨s0, 0, none⟩) hl).trans h.z0, (hb.cell (p := ⟨s0, 1, none⟩) hl).trans h.z1, by simp [go_sem], by simp [go_sem], Nat.lt_of_lt_of_le hl hb.size, by simp, h.o1.below hb, h.o2.below hb, g1.below hb, g2.below hb, h.bl.alloc h.bl.size _⟩
/-- The program's schedule has been marked; the reference's and both variables are as they were. -/
theorem XR.marked {w W W' : World} {s0 sg n m : Nat} {fr ff gr gf hr hf : Nat → Int} {r0 f0 rg fg : Option Addr} {c1 c2 c3 c4 b0 bg : Nat} (h : XR w W s0 sg n m fr ff gr gf r0 f0 rg fg c1 c2 c3 c4 b0 bg)
    (hlo : ∀ k, (Value.slice r0 n c1).ownBlock = some k ∨ (Value.slice f0 m c2).ownBlock = some k → k < s0) (hs : s0 < bg) (hw : w.heap.size ≤ bg) (hy : W'.cell? ⟨sg, 0, none⟩ = some (.slice rg n c3) ∧ W'.cell? ⟨sg, 1, none⟩ = some (.slice fg m c4))
    (g1 : OwnI W' bg (.slice rg n c3) n hr) (g2 : OwnI W' bg (.slice fg m c4) m hf) (hb : Below bg W W') : XR w W' s0 sg n m fr ff hr hf r0 f0 rg fg c1 c2 c3 c4 b0 bg :=
  ⟨(hb.cell (p := ⟨s0, 0, none⟩) hs).trans h.z0, (hb.cell (p := ⟨s0, 1, none⟩) hs).trans h.z1, hy.1, hy.2, Nat.lt_of_lt_of_le h.l0 hb.size, Nat.lt_of_lt_of_le h.lg hb.size,
    h.o1.of_block (fun k hk => hb.block k (by have := hlo k (.inl hk); omega)), h.o2.of_block (fun k hk => hb.block k (by have := hlo k (.inr hk); omega)), g1, g2, h.bl.trans (hb.mono hw)⟩

set_option maxRecDepth 100000 in
set_option maxHeartbeats 4000000 in
/-- laws.FnExactRunResources. -/
theorem fnExactRunResources_any (a : Option Addr) (cap : Nat) (ts : List T3) (oa : Option Addr) (ocap : Nat) (os : List T3) (ja : Option Addr) (jcap : Nat) (js : List J4) (w : World) (hr : Row w a ts) (hm : ts.length ≤ maxLen) (ho : Row w oa os) (hom : os.length ≤ maxLen) (hst : StB os) (hj : RowJ w ja js) (hjm : js.length ≤ maxLen) :
    Calls Try.prog 11 #[.slice a ts.length cap, .slice oa os.length ocap, .slice ja js.length jcap] w fun e w' =>
      e = .returned (.bool true) ∧ Below w.heap.size w w' := by
  have HR := Lib.hid hr
  have HJ := Lib.hid hj
  have HO := Lib.hid ho
  have HST := Lib.hid hst
  clear hr hj ho hst
  by_cases hn : ts.length ≤ 1048576
  · by_cases hol' : 1048576 - ts.length < os.length
    · have h' : ¬ (1048576 - (ts.length : Int) < 0) := by omega
      go_enter Try.func11, Try.ntmps11
      go_wp2_with fail
      refine (szTaskS_small _ _ _ _ hn).mono ?_
      rintro e w' ⟨rfl, rfl⟩
      go_wp2_with fail
      rw [show (1048576 : Int) - (ts.length : Int) = ((1048576 - ts.length : Nat) : Int) by omega]
      refine (szSectionS_big _ _ _ (1048576 - ts.length) _ hol' (by omega) hom).mono ?_
      rintro e w' ⟨rfl, rfl⟩
      go_wp2
      go_ret
      exact ⟨rfl, Below.refl _ _⟩
    have hol : os.length ≤ 1048576 - ts.length := by omega
    have hon : os.length ≤ 1048576 := by omega
    clear hol'
    by_cases hjl : js.length ≤ 1048576 - ts.length - os.length
    · have hn' : ts.length ≤ 1099511627776 := by omega
      have hon' : os.length ≤ 1099511627776 := by omega
      have hjn' : js.length ≤ 1099511627776 := by omega
      have h' : ¬ (1048576 - (ts.length : Int) < 0) := by omega
      have hlr := lenR_le ts os js
      have hlf := lenF_le ts os js
      obtain ⟨LR, hLR⟩ : ∃ l, l = lenRR ts os js := ⟨_, rfl⟩
      obtain ⟨LF, hLF⟩ : ∃ l, l = lenFR ts os js := ⟨_, rfl⟩
      rw [← hLR] at hlr
      rw [← hLF] at hlf
      have HLR := Lib.hid hLR
      have HLF := Lib.hid hLF
      clear hLR hLF
      go_enter Try.func11, Try.ntmps11
      go_wp2_with fail
      refine (szTaskS_small _ _ _ _ hn).mono ?_
      rintro e w' ⟨rfl, rfl⟩
      go_wp2_with fail
      rw [show (1048576 : Int) - (ts.length : Int) = ((1048576 - ts.length : Nat) : Int) by omega]
      refine (szSectionS_small _ _ _ (1048576 - ts.length) _ hol (by omega)).mono ?_
      rintro e w' ⟨rfl, rfl⟩
      have h2 : ¬ (((1048576 - ts.length : Nat) : Int) - (os.length : Int) < 0) := by omega
      go_wp2_with fail
      rw [show ((1048576 - ts.length : Nat) : Int) - (os.length : Int) = ((1048576 - ts.length - os.length : Nat) : Int) by omega]
      refine (szJobS_small _ _ _ (1048576 - ts.length - os.length) _ hjl (by omega)).mono ?_
      rintro e w' ⟨rfl, rfl⟩
      have h'' : ¬ (((1048576 - ts.length - os.length : Nat) : Int) - (js.length : Int) < 0) := by omega
      go_wp2_with fail
      clear h' h2 h''
      refine (toTaskS_any _ _ _ _ HR.out hn').mono ?_
      rintro e w1 ⟨rfl, r1, b1⟩
      have R1 := Lib.hid r1
      clear r1
      go_wp2_with fail
      refine (toSectionS_any _ _ _ _ (HO.out.below b1) hon').mono ?_
      rintro e wa ⟨rfl, ia, ba⟩
      have IA := Lib.hid ia
      have RA := Lib.hid (R1.out.below ba)
      have b1a := b1.trans (ba.mono b1.size)
      clear ia ba R1
      go_wp2_with fail
      refine (toJobS_any _ _ _ _ (HJ.out.below b1a) hjn').mono ?_
      rintro e w2 ⟨rfl, j2, b2⟩
      have J2 := Lib.hid j2
      have R2 := Lib.hid (RA.out.below b2)
      have I2 := Lib.hid (IA.out.below b2)
      have b12 := b1a.trans (b2.mono b1a.size)
      clear j2 RA IA b1a
      go_wp2_with fail
      refine (specRunResources_any _ _ _ _ _ _ ts os js _ R2.out I2.out J2.out.rowJ hn' hon' hjn').mono ?_
      rintro e w3 ⟨⟨vr, vf, rfl, o1, o2, ap⟩, b3⟩
      rw [← HLR.out] at o1
      rw [← HLF.out] at o2
      obtain ⟨r0, c1, rfl⟩ := own_shape o1
      obtain ⟨f0, c2, rfl⟩ := own_shape o2
      have b13 := b12.trans (b3.mono b12.size)
      have X3 := Lib.hid (X0.start o1 o2 b13)
      have hws := b13.size
      clear o1 o2 ap J2 R2 I2 b1 b2 b3 b12 b13
      go_wp2_with fail
      generalize hA : w3.alloc (.cells #[.slice r0 LR c1, .slice f0 LF c2] 30) = A1 at X3 ⊢
      have hs0 : w3.heap.size < A1.heap.size := by rw [← hA]; simp
      clear hA
      generalize hs : w3.heap.size = s0 at X3 hs0 hws ⊢
      clear hs
      refine (toTaskS_full _ _ _ _ (HR.out.below X3.out.bl) hn').mono ?_
      rintro e w4 ⟨rfl, F4', b4⟩
      have F4 := Lib.hid F4'
      have X4 := Lib.hid (X3.out.below b4)
      have hs4 : A1.heap.size < w4.heap.size := by obtain ⟨f, hrow, _⟩ := F4'; exact hrow.lt
      clear F4' X3 b4
      generalize ht0 : A1.heap.size = t0 at F4 hs0 hs4 ⊢
      clear ht0
      go_wp2_with fail
      refine (toSectionS_full _ _ _ _ (HO.out.below X4.out.bl) hon').mono ?_
      rintro e wb ⟨rfl, ib, bb⟩
      have IB := Lib.hid ib
      have FB := Lib.hid (F4.out.below bb)
      have XB := Lib.hid (X4.out.below bb)
      have hsb : w4.heap.size < wb.heap.size := by obtain ⟨f, hrow, _⟩ := ib; exact hrow.lt
      clear ib F4 X4 bb
      generalize hi0 : w4.heap.size = i0 at IB hs4 hsb ⊢
      clear hi0
      go_wp2_with fail
      refine (toJobS_any _ _ _ _ (HJ.out.below XB.out.bl) hjn').mono ?_
      rintro e w5 ⟨rfl, j5, b5⟩
      have J5 := Lib.hid j5
      have I5 := Lib.hid (IB.out.below b5)
      have F5 := Lib.hid (FB.out.below b5)
      have X5 := Lib.hid (XB.out.below b5)
      have hs5 : wb.heap.size < w5.heap.size := by
        obtain ⟨_, ⟨e, _⟩ | ⟨g, _, cur, e, _, hb, _⟩⟩ := j5
        · simp at e
        · simp only [Value.slice.injEq, Option.some.injEq, Addr.mk.injEq, and_true] at e
          rw [e.1]
          exact (Array.getElem?_eq_some_iff.1 hb).1
      clear j5 FB XB IB b5
      generalize hj0 : wb.heap.size = j0 at J5 hsb hs5 ⊢
      clear hj0
      go_wp2_with fail
      refine (runResources_any _ _ _ _ _ _ ts os js _ F5.out.row I5.out.row J5.out.rowJ HST.out hn' hon' hjn').mono ?_
      rintro e w6 ⟨⟨vr, vf, rfl, o1, o2, ap⟩, b6⟩
      rw [← HLR.out] at o1
      rw [← HLF.out] at o2
      obtain ⟨rg, c3, rfl⟩ := own_shape o1
      obtain ⟨fg, c4, rfl⟩ := own_shape o2
      have AP := Lib.hid ap
      have XX := Lib.hid ((X5.out.below b6).xr o1 o2)
      have LO := Lib.hid X5.out.lo
      have J6 := Lib.hid ((J5.out.below b6).below (below_box w6 (.cells #[.slice rg LR c3, .slice fg LF c4] 30)))
      have F6 := Lib.hid ((F5.out.below b6).below (below_box w6 (.cells #[.slice rg LR c3, .slice fg LF c4] 30)))
      have I6 := Lib.hid ((I5.out.below b6).below (below_box w6 (.cells #[.slice rg LR c3, .slice fg LF c4] 30)))
      have hs6 := b6.size
      have GL := Lib.hid (show ∀ k, (Value.slice rg LR c3).ownBlock = some k ∨ (Value.slice fg LF c4).ownBlock = some k → k < w6.heap.size from fun k hk => hk.elim (fun h => (o1.lt k h).2) (fun h => (o2.lt k h).2))
      clear o1 o2 ap F5 J5 I5 X5 b6
      have y0 := XX.out.y0
      have y1 := XX.out.y1
      have z0 := XX.out.z0
      have z1 := XX.out.z1
      generalize hA : w6.alloc (.cells #[.slice rg LR c3, .slice fg LF c4] 30) = A2 at XX J6 F6 I6 y0 y1 z0 z1
      go_wp2_with fail
      clear hA y0 y1 z0 z1
      generalize hsg : w6.heap.size = sg at XX GL hs6 ⊢
      generalize hbg : w5.heap.size = bg at XX hs5 hs6 ⊢
      clear hsg hbg
      refine (eqSchedule_same _ _ _ _ _ _ _ _ LR LF (srpF ts os js) (srpFin ts os js) _ XX.out.g1.intF' XX.out.g2.intF' XX.out.o1.intF' XX.out.o2.intF' (by omega) (by omega)).mono ?_
      rintro e w7 ⟨rfl, b7⟩
      have X7 := Lib.hid (XX.out.below b7)
      have J7 := Lib.hid (J6.out.below b7)
      have F7 := Lib.hid (F6.out.below b7)
      have I7 := Lib.hid (I6.out.below b7)
      clear XX J6 F6 I6 b7
      go_wp2_with fail
      refine (toTaskS_any _ _ _ _ (HR.out.below X7.out.bl) hn').mono ?_
      rintro e w8 ⟨rfl, r8, b8⟩
      have R8 := Lib.hid r8
      have X8 := Lib.hid (X7.out.below b8)
      have J8 := Lib.hid (J7.out.below b8)
      have F8 := Lib.hid (F7.out.below b8)
      have I8 := Lib.hid (I7.out.below b8)
      clear r8 X7 J7 F7 I7 b8
      go_wp2_with fail
      refine (eqTaskS_same _ _ _ _ ts _ F8.out.row R8.out hn').mono ?_
      rintro e w9 ⟨rfl, b9⟩
      have X9 := Lib.hid (X8.out.below b9)
      have J9 := Lib.hid (J8.out.below b9)
      have F9 := Lib.hid (F8.out.below b9)
      have I9 := Lib.hid (I8.out.below b9)
      clear X8 J8 F8 R8 I8 b9
      go_wp2_with fail
      refine (toSectionS_any _ _ _ _ (HO.out.below X9.out.bl) hon').mono ?_
      rintro e wc ⟨rfl, ic, bc⟩
      have TC := Lib.hid ic
      have XC := Lib.hid (X9.out.below bc)
      have JC := Lib.hid (J9.out.below bc)
      have FC := Lib.hid (F9.out.below bc)
      have IC := Lib.hid (I9.out.below bc)
      clear ic X9 J9 F9 I9 bc
      go_wp2_with fail
      refine (eqSectionS_same _ _ _ _ os _ IC.out.row TC.out hon').mono ?_
      rintro e wd ⟨rfl, bd⟩
      have X9 := Lib.hid (XC.out.below bd)
      have J9 := Lib.hid (JC.out.below bd)
      have F9 := Lib.hid (FC.out.below bd)
      have I9 := Lib.hid (IC.out.below bd)
      clear bd XC JC FC IC TC
      go_wp2_with fail
      refine (toJobS_any _ _ _ _ (HJ.out.below X9.out.bl) hjn').mono ?_
      rintro e w10 ⟨rfl, r10, b10⟩
      have R10 := Lib.hid r10.rowJ
      have X10 := Lib.hid (X9.out.below b10)
      have J10 := Lib.hid (J9.out.below b10)
      have F10 := Lib.hid (F9.out.below b10)
      have I10 := Lib.hid (I9.out.below b10)
      clear r10 X9 J9 F9 I9 b10
      go_wp2_with fail
      refine (eqJobS_same _ _ _ _ js _ J10.out.rowJ R10.out hjn').mono ?_
      rintro e w11 ⟨rfl, b11⟩
      have X11 := Lib.hid (X10.out.below b11)
      have J11 := Lib.hid (J10.out.below b11)
      obtain ⟨fs11, is11, _⟩ := I10.out.below b11
      have I11 := Lib.hid is11
      obtain ⟨f11, rf11, _⟩ := F10.out.below b11
      have RF11 := Lib.hid rf11
      clear X10 J10 F10 R10 I10 b11 rf11 is11
      go_wp2_with fail
      refine (markTaskS_any _ _ _ _ 1 _ RF11.out hn (by omega)).mono ?_
      rintro e w12 ⟨rfl, g12⟩
      have X12 := Lib.hid (X11.out.mark g12 (fun k hk => by simp only [Option.some.injEq] at hk; omega) LO.out)
      have J12 := Lib.hid (J11.out.apart g12 (fun k hk e => by simp only [Value.ownBlock, Option.some.injEq] at hk e; omega))
      have I12 := Lib.hid (I11.out.of_block (g12.block i0 I11.out.lt (fun e => by simp only [Option.some.injEq] at e; omega)))
      clear X11 J11 I11 RF11 g12
      obtain ⟨q1, hq1⟩ : ∃ q : Nat, ((1 : Nat) : Int) + 3 * (ts.length : Int) = (q : Int) ∧ q ≤ 10000000 := ⟨1 + 3 * ts.length, by omega, by omega⟩
      rw [hq1.1]
      obtain ⟨hq1', hq1⟩ := hq1
      clear hq1'
      go_wp2_with fail
      refine (markSectionS_any _ _ _ _ q1 _ I12.out hon (by omega)).mono ?_
      rintro e wf ⟨rfl, gf⟩
      have XF := Lib.hid (X12.out.mark gf (fun k hk => by simp only [Option.some.injEq] at hk; omega) LO.out)
      have JF := Lib.hid (J12.out.apart gf (fun k hk e => by simp only [Value.ownBlock, Option.some.injEq] at hk e; omega))
      clear X12 J12 I12 gf
      obtain ⟨q2, hq2⟩ : ∃ q : Nat, (q1 : Int) + 3 * (os.length : Int) = (q : Int) ∧ q ≤ 20000000 := ⟨q1 + 3 * os.length, by omega, by omega⟩
      rw [hq2.1]
      obtain ⟨hq2', hq2⟩ := hq2
      clear hq2'
      go_wp2_with fail
      refine (markJobS_any _ _ _ _ q2 _ _ JF.out.ownF (by omega) (by omega)).mono ?_
      rintro e w13 ⟨rfl, _, g13⟩
      have X13 := Lib.hid (XF.out.mark g13 (fun k hk => by simp only [Value.ownBlock, Option.some.injEq] at hk; omega) LO.out)
      clear XF JF g13
      have hk0 : ¬ (q2 : Int) + 4 * (js.length : Int) < 0 := by omega
      have y0 := X13.out.y0
      have y1 := X13.out.y1
      have z0 := X13.out.z0
      have z1 := X13.out.z1
      go_wp2_with fail
      refine (eqSchedule_same _ _ _ _ _ _ _ _ LR LF (srpF ts os js) (srpFin ts os js) _ X13.out.g1.intF' X13.out.g2.intF' X13.out.o1.intF' X13.out.o2.intF' (by omega) (by omega)).mono ?_
      rintro e w14 ⟨rfl, b14⟩
      have X14 := Lib.hid (X13.out.below b14)
      clear X13 b14 y0 y1 z0 z1 hk0
      have y0 := X14.out.y0
      have y1 := X14.out.y1
      go_wp2_with fail
      refine (markSchedule_any _ _ _ _ _ _ _ _ 1 _ _ X14.out.g1 X14.out.g2 AP.out (by have := X14.out.lg; omega) (by omega) (by omega) (by omega)).mono ?_
      rintro e w15 ⟨rfl, m1, m2, b15, k15⟩
      have hsgl := X14.out.lg
      have hnb := k15 sg hsgl (fun e => by have := GL.out sg (.inl e.symm); omega) (fun e => by have := GL.out sg (.inr e.symm); omega)
      have X15 := Lib.hid (X14.out.marked LO.out (by omega) (by omega) ⟨(World.cell?_of_block (a := ⟨sg, 0, none⟩) hnb).trans y0, (World.cell?_of_block (a := ⟨sg, 1, none⟩) hnb).trans y1⟩ m1 m2 b15)
      clear X14 m1 m2 b15 k15 y0 y1 hsgl hnb
      have y0 := X15.out.y0
      have y1 := X15.out.y1
      go_wp2_with fail
      refine (heldSchedule_any _ _ _ _ _ _ 1 _ X15.out.g1.intF' X15.out.g2.intF' (by omega) (by omega) (by omega)).mono ?_
      rintro e w16 ⟨rfl, b16⟩
      have X16 := Lib.hid (X15.out.below b16)
      clear X15 b16 y0 y1
      have hp : ¬ ((1 : Nat) : Int) + (LR : Int) + (LF : Int) < 0 := by omega
      go_wp2_with fail
      refine (toTaskS_any _ _ _ _ (HR.out.below X16.out.bl) hn').mono ?_
      rintro e w17 ⟨rfl, r17, b17⟩
      have R17 := Lib.hid r17
      have X17 := Lib.hid (X16.out.below b17)
      clear r17 X16 b17
      go_wp2_with fail
      refine (toSectionS_any _ _ _ _ (HO.out.below X17.out.bl) hon').mono ?_
      rintro e wg ⟨rfl, ig, bg'⟩
      have IG := Lib.hid ig
      have RG := Lib.hid (R17.out.below bg')
      have XG := Lib.hid (X17.out.below bg')
      clear ig X17 R17 bg'
      go_wp2_with fail
      refine (toJobS_any _ _ _ _ (HJ.out.below XG.out.bl) hjn').mono ?_
      rintro e w18 ⟨rfl, r18, b18⟩
      have I18 := Lib.hid (IG.out.below b18)
      have J18 := Lib.hid r18.rowJ
      have R18 := Lib.hid (RG.out.below b18)
      have X18 := Lib.hid (XG.out.below b18)
      clear r18 XG RG IG b18
      go_wp2_with fail
      refine (runResources_any _ _ _ _ _ _ ts os js _ R18.out I18.out J18.out HST.out hn' hon' hjn').mono ?_
      rintro e w19 ⟨⟨vr, vf, rfl, o1, o2, ap⟩, b19⟩
      rw [← HLR.out] at o1
      rw [← HLF.out] at o2
      obtain ⟨rh, c5, rfl⟩ := own_shape o1
      obtain ⟨fh, c6, rfl⟩ := own_shape o2
      have bx := below_box w19 (.cells #[.slice rh LR c5, .slice fh LF c6] 30)
      have X19 := Lib.hid ((X18.out.below b19).below bx)
      have H19 := Lib.hid (And.intro (o1.below bx).intF' (o2.below bx).intF')
      clear o1 o2 ap X18 R18 J18 I18 b19 bx
      have z0 := X19.out.z0
      have z1 := X19.out.z1
      generalize hA : w19.alloc (.cells #[.slice rh LR c5, .slice fh LF c6] 30) = A3 at X19 H19 z0 z1
      have v0 : A3.cell? ⟨w19.heap.size, 0, none⟩ = some (.slice rh LR c5) := by rw [← hA]; simp [go_sem]
      have v1 : A3.cell? ⟨w19.heap.size, 1, none⟩ = some (.slice fh LF c6) := by rw [← hA]; simp [go_sem]
      go_wp2_with fail
      clear hA v0 v1 z0 z1
      refine (eqSchedule_same _ _ _ _ _ _ _ _ LR LF (srpF ts os js) (srpFin ts os js) _ H19.out.1 H19.out.2 X19.out.o1.intF' X19.out.o2.intF' (by omega) (by omega)).mono ?_
      rintro e w20 ⟨rfl, b20⟩
      have X20 := Lib.hid (X19.out.below b20)
      clear X19 H19 b20
      have y0 := X20.out.y0
      have y1 := X20.out.y1
      go_wp2_with fail
      refine (heldSchedule_any _ _ _ _ _ _ 1 _ X20.out.g1.intF' X20.out.g2.intF' (by omega) (by omega) (by omega)).mono ?_
      rintro e w21 ⟨rfl, b21⟩
      have X21 := Lib.hid (X20.out.below b21)
      clear X20 b21 y0 y1
      go_wp2
      go_ret
      exact ⟨rfl, X21.out.bl⟩
    · have h' : ¬ (1048576 - (ts.length : Int) < 0) := by omega
      have hjl' : 1048576 - ts.length - os.length < js.length := by omega
      go_enter Try.func11, Try.ntmps11
      go_wp2_with fail
      refine (szTaskS_small _ _ _ _ hn).mono ?_
      rintro e w' ⟨rfl, rfl⟩
      go_wp2_with fail
      rw [show (1048576 : Int) - (ts.length : Int) = ((1048576 - ts.length : Nat) : Int) by omega]
      refine (szSectionS_small _ _ _ (1048576 - ts.length) _ hol (by omega)).mono ?_
      rintro e w' ⟨rfl, rfl⟩
      have h2 : ¬ (((1048576 - ts.length : Nat) : Int) - (os.length : Int) < 0) := by omega
      go_wp2_with fail
      rw [show ((1048576 - ts.length : Nat) : Int) - (os.length : Int) = ((1048576 - ts.length - os.length : Nat) : Int) by omega]
      refine (szJobS_big _ _ _ (1048576 - ts.length - os.length) _ hjl' hjm (by omega)).mono ?_
      rintro e w' ⟨rfl, rfl⟩
      go_wp2
      go_ret
      exact ⟨rfl, Below.refl _ _⟩
  · have hn' : 1048576 < ts.length := by omega
    go_enter Try.func11, Try.ntmps11
    go_wp2_with (go_at_call 26; refine (szTaskS_big _ _ _ _ hn' hm).mono ?_; rintro e w' ⟨rfl, rfl⟩)
    go_ret
    exact ⟨rfl, Below.refl _ _⟩

end Go.Proofs.Ytlagghoohloklaa
