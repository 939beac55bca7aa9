/- laws.FnExactRunServers: for every task set, every list of jobs, of servers and of requests (slices of whatever length, nil too, of whatever values) the program's RunServers answers as the reference does, every field, changes no argument, and its answer is memory of its own; the law returns true and leaves its arguments as they were. No condition. -/
import Derived.Test.YtipnemngphglkaaSrvMark
import Derived.Test.YtipnemngphglkaaCopyJ
namespace Go.Proofs.Ytipnemngphglkaa
open Go.RowKit Go.Deep

theorem len_tot (als : List (List A2)) (k : Nat) : (als.getD k []).length ≤ tot als als.length := by
  by_cases hk : k < als.length
  · have h1 := tot_mono als (show k + 1 ≤ als.length by omega)
    have h2 : tot als (k + 1) = tot als k + (als.getD k []).length := rfl
    omega
  · rw [List.getD_eq_getElem?_getD, List.getElem?_eq_none_iff.2 (by omega)]
    exact Nat.zero_le _

/-- What the walk keeps while the arguments are marked: the reference's answer lies below A1, the program's from hi on, the arguments between. -/
structure KP (A1 W : World) (hi : Nat) (its : List It) (ts : List T3) (js : List J4) (ss : List A2) (als : List (List A2)) (t0 j0 s1 a1 : Nat) : Prop where
  hb : Below A1.heap.size A1 W
  hs : hi ≤ W.heap.size
  po : Pool W hi its
  n0 : Nums A1.heap.size hi W (some ⟨t0, 0, none⟩) (ts.length * 3)
  n1 : Nums A1.heap.size hi W (some ⟨j0, 0, none⟩) (js.length * 4)
  n2 : Nums A1.heap.size hi W (some ⟨s1, 0, none⟩) (ss.length * 2)
  n3 : NumsS A1.heap.size hi W (some ⟨a1, 0, none⟩) als
variable {A1 W W' : World} {hi : Nat} {its : List It} {ts : List T3} {js : List J4} {ss : List A2} {als : List (List A2)} {t0 j0 s1 a1 : Nat}
theorem KP.below (h : KP A1 W hi its ts js ss als t0 j0 s1 a1) (hb : Below W.heap.size W W') : KP A1 W' hi its ts js ss als t0 j0 s1 a1 :=
  ⟨h.hb.trans (hb.mono h.hb.size), Nat.le_trans h.hs hb.size, h.po.below hb, h.n0.mk (Mk.of_below (lo := 0) (hi := 0) hb), h.n1.mk (Mk.of_below (lo := 0) (hi := 0) hb), h.n2.mk (Mk.of_below (lo := 0) (hi := 0) hb), h.n3.mk (Mk.of_below (lo := 0) (hi := 0) hb)⟩
theorem KP.mk' (h : KP A1 W hi its ts js ss als t0 j0 s1 a1) (k : Mk A1.heap.size hi W W') : KP A1 W' hi its ts js ss als t0 j0 s1 a1 :=
  ⟨k.below.elim (fun hb => h.hb.trans hb) (fun hl => absurd h.hb.size (by omega)), Nat.le_trans h.hs k.size, h.po.mk' k (Nat.le_refl _), h.n0.mk k, h.n1.mk k, h.n2.mk k, h.n3.mk k⟩
/-- The arguments' copies, as yet unmarked. -/
structure KR (W : World) (ts : List T3) (js : List J4) (ss : List A2) (als : List (List A2)) (t0 j0 s1 a1 : Nat) : Prop where
  r0 : Row W (some ⟨t0, 0, none⟩) ts
  r1 : RowJ W (some ⟨j0, 0, none⟩) js
  r2 : Row2 W (some ⟨s1, 0, none⟩) ss
  r3 : RowSS W (some ⟨a1, 0, none⟩) als
theorem KR.below (h : KR W ts js ss als t0 j0 s1 a1) (hb : Below W.heap.size W W') : KR W' ts js ss als t0 j0 s1 a1 := ⟨h.r0.below hb, h.r1.below hb, h.r2.below hb, h.r3.below hb⟩

set_option maxRecDepth 100000 in
set_option maxHeartbeats 8000000 in
/-- laws.FnExactRunServers. -/
theorem fnExactRunServers_any (a : Option Addr) (cap : Nat) (ts : List T3) (ja : Option Addr) (jcap : Nat) (js : List J4) (sa : Option Addr) (scap : Nat) (ss : List A2) (aa : Option Addr) (acap : Nat) (als : List (List A2)) (w : World) (hr : Row w a ts) (hm : ts.length ≤ maxLen) (hj : RowJ w ja js) (hjm : js.length ≤ maxLen) (hs : Row2 w sa ss) (hsm : ss.length ≤ maxLen) (hA : RowSS w aa als) (ham : als.length ≤ maxLen) (hal : ∀ k, (als.getD k []).length ≤ maxLen) :
    Calls Try.prog 13 #[.slice a ts.length cap, .slice ja js.length jcap, .slice sa ss.length scap, .slice aa als.length acap] w fun e w' =>
      e = .returned (.bool true) ∧ Below w.heap.size w w' := by
  have HR := Lib.hid hr
  have HJ := Lib.hid hj
  have HS := Lib.hid hs
  have HA := Lib.hid hA
  have HAL := Lib.hid hal
  clear hr hj hs hA hal
  by_cases hn : ts.length ≤ 1048576
  · have h' : ¬ (1048576 - (ts.length : Int) < 0) := by omega
    by_cases hjl : js.length ≤ 1048576 - ts.length
    · have h'' : ¬ (((1048576 - ts.length : Nat) : Int) - (js.length : Int) < 0) := by omega
      by_cases hsl : ss.length ≤ 1048576 - ts.length - js.length
      · have h''' : ¬ (((1048576 - ts.length - js.length : Nat) : Int) - (ss.length : Int) < 0) := by omega
        go_enter Try.func13, Try.ntmps13
        go_wp2_with fail
        refine (szTaskS_small _ _ _ _ hn).mono ?_
        rintro e w' ⟨rfl, rfl⟩
        go_wp2_with fail
        rw [show (1048576 : Int) - (ts.length : Int) = ((1048576 - ts.length : Nat) : Int) by omega]
        refine (szJobS_small _ _ _ (1048576 - ts.length) _ hjl (by omega)).mono ?_
        rintro e w' ⟨rfl, rfl⟩
        go_wp2_with fail
        rw [show ((1048576 - ts.length : Nat) : Int) - (js.length : Int) = ((1048576 - ts.length - js.length : Nat) : Int) by omega]
        refine (szServerS_small _ _ _ ((1048576 - ts.length - js.length : Nat) : Int) _ (by omega) (by omega)).mono ?_
        rintro e w' ⟨rfl, rfl⟩
        go_wp2_with fail
        rw [show ((1048576 - ts.length - js.length : Nat) : Int) - (ss.length : Int) = ((1048576 - ts.length - js.length - ss.length : Nat) : Int) by omega]
        refine (szArrivalSS_any _ _ als (1048576 - ts.length - js.length - ss.length) _ HA.out ham HAL.out (by omega)).mono ?_
        rintro e w' ⟨rfl | ⟨q, hq, rfl⟩, rfl⟩
        · go_wp2
          go_ret
          exact ⟨rfl, Below.refl _ _⟩
        have hq0 : ¬ (q : Int) < 0 := by omega
        have htt : tot als als.length ≤ 1048576 := by omega
        have haa : als.length ≤ 1048576 := by omega
        have hss : ss.length ≤ 1048576 := by omega
        have hjj : js.length ≤ 1048576 := by omega
        have HL := Lib.hid (fun k => Nat.le_trans (len_tot als k) htt)
        have HL' := Lib.hid (fun k => Nat.le_trans (HL.out k) (show 1048576 ≤ 1099511627776 by omega))
        clear hq HAL hm hjm hsm ham h' h'' h'''
        have hn' : ts.length ≤ 1099511627776 := by omega
        have hjn' : js.length ≤ 1099511627776 := by omega
        have hsn' : ss.length ≤ 1099511627776 := by omega
        have han' : als.length ≤ 1099511627776 := by omega
        have hlr := lN_le ts js ss als
        have hlf := lM_le ts js ss als
        have hls := (lS_le ts js ss als).1
        have hlt := tot_mono als (lS_le ts js ss als).2
        obtain ⟨LR, hLR⟩ : ∃ l, l = lN ts js ss als := ⟨_, rfl⟩
        obtain ⟨LF, hLF⟩ : ∃ l, l = lM ts js ss als := ⟨_, rfl⟩
        obtain ⟨LS, hLS⟩ : ∃ l, l = lS ts js ss als := ⟨_, rfl⟩
        rw [← hLR] at hlr
        rw [← hLF] at hlf
        rw [← hLS] at hls hlt
        have hT : tot als LS ≤ 1048576 := by omega
        have HLL := Lib.hid (And.intro hLR (And.intro hLF hLS))
        clear hLR hLF hLS hlt
        obtain ⟨fr, hfr⟩ : ∃ f, f = fun u => optI ((cbOf js ss als).run u) := ⟨_, rfl⟩
        obtain ⟨ff, hff⟩ : ∃ f, f = (cbOf js ss als).fin 120 := ⟨_, rfl⟩
        obtain ⟨fc, hfc⟩ : ∃ f, f = fun u => optI ((cbOf js ss als).K u) := ⟨_, rfl⟩
        obtain ⟨fd, hfd⟩ : ∃ f, f = (cbOf js ss als).dn 120 := ⟨_, rfl⟩
        have GP := Lib.hid (show ∀ (base : Nat) (e : Ending) (W : World), SrvGot base ts js ss als e W → ∃ (ra fa ca va : Option Addr) (c1 c2 c3 c4 : Nat) (iv : Nat → Value), e = .returned (.agg #[.slice ra LR c1, .slice fa LF c2, .slice ca LR c3, .slice va LS c4]) ∧ Pool W base (gl (.slice ra LR c1) (.slice fa LF c2) (.slice ca LR c3) (.slice va LS c4) iv LR LF LS als fr ff fc fd []) from fun base e W hg => by
          rw [hfr, hff, hfc, hfd, HLL.out.1, HLL.out.2.1, HLL.out.2.2]
          exact hg.gp)
        clear hfr hff hfc hfd HLL
        go_wp2_with fail
        clear hq0
        refine (toTaskS_any _ _ _ _ HR.out hn').mono ?_
        rintro e w1 ⟨rfl, r1, b1⟩
        have R1 := Lib.hid r1
        have B1 := Lib.hid b1
        clear r1 b1
        go_wp2_with fail
        refine (toJobS_any _ _ _ _ (HJ.out.below B1.out) hjn').mono ?_
        rintro e w2 ⟨rfl, j2, b2⟩
        have J2 := Lib.hid j2
        have R2 := Lib.hid (R1.out.below b2)
        have B2 := Lib.hid (B1.out.trans (b2.mono B1.out.size))
        clear j2 R1 B1 b2
        go_wp2_with fail
        refine (toServerS_any _ _ _ _ (HS.out.below B2.out) hsn').mono ?_
        rintro e w3 ⟨rfl, s3, b3⟩
        have S3 := Lib.hid s3
        have J3 := Lib.hid (J2.out.below b3)
        have R3 := Lib.hid (R2.out.below b3)
        have B3 := Lib.hid (B2.out.trans (b3.mono B2.out.size))
        clear s3 J2 R2 B2 b3
        go_wp2_with fail
        refine (toArrivalSS_any _ _ _ _ (HA.out.below B3.out) han' HL'.out).mono ?_
        rintro e w4 ⟨rfl, a4, b4⟩
        have A4 := Lib.hid a4
        have S4 := Lib.hid (S3.out.below b4)
        have J4' := Lib.hid (J3.out.below b4)
        have R4 := Lib.hid (R3.out.below b4)
        have B4 := Lib.hid (B3.out.trans (b4.mono B3.out.size))
        clear a4 S3 J3 R3 B3 b4
        go_wp2_with fail
        refine (specRunServers_any _ _ _ _ _ _ _ _ ts js ss als _ R4.out J4'.out.rowJ S4.out.row2 A4.out.row hn' hjn' hsn' han' (fun k _ => HL'.out k)).mono ?_
        rintro e w5 ⟨g5, b5⟩
        obtain ⟨ra, fa, ca, va, c1, c2, c3, c4, iv, rfl, p5⟩ := GP.out _ _ _ g5
        have B5 := Lib.hid (B4.out.trans (b5.mono B4.out.size))
        have p5' := box4 (a := .slice ra LR c1) (b := .slice fa LF c2) (c := .slice ca LR c3) (d := .slice va LS c4) (t := 52)  p5 b5.size
        rw [gl_add] at p5'
        have P5 := Lib.hid p5'
        have BA := Lib.hid (B5.out.alloc B5.out.size (.cells #[.slice ra LR c1, .slice fa LF c2, .slice ca LR c3, .slice va LS c4] 52))
        clear p5 p5' g5 b5 A4 S4 J4' R4 B4 B5
        go_wp2_with fail
        generalize hA : w5.alloc (.cells #[.slice ra LR c1, .slice fa LF c2, .slice ca LR c3, .slice va LS c4] 52) = A1 at P5 BA ⊢
        clear hA
        generalize hs0 : w5.heap.size = s0 at P5 ⊢
        clear hs0
        refine (toTaskS_full _ _ _ _ (HR.out.below BA.out) hn').mono ?_
        rintro e w6 ⟨rfl, f6, b6⟩
        have F6 := Lib.hid f6
        have B6 := Lib.hid b6
        have hs6 : A1.heap.size < w6.heap.size := by obtain ⟨f, hrow, _⟩ := f6; exact hrow.lt
        clear f6 b6
        go_wp2_with fail
        refine (toJobS_any _ _ _ _ (HJ.out.below (BA.out.trans (B6.out.mono BA.out.size))) hjn').mono ?_
        rintro e w7 ⟨rfl, j7, b7⟩
        have J7 := Lib.hid j7
        have F7 := Lib.hid (F6.out.below b7)
        have B7 := Lib.hid (B6.out.trans (b7.mono B6.out.size))
        have hs7 : w6.heap.size < w7.heap.size := (World.ownsRow.lt j7 w6.heap.size rfl).2
        clear j7 F6 B6 b7
        go_wp2_with fail
        refine (toServerS_any _ _ _ _ (HS.out.below (BA.out.trans (B7.out.mono BA.out.size))) hsn').mono ?_
        rintro e w8 ⟨rfl, s8, b8⟩
        have S8 := Lib.hid s8
        have J8 := Lib.hid (J7.out.below b8)
        have F8 := Lib.hid (F7.out.below b8)
        have B8 := Lib.hid (B7.out.trans (b8.mono B7.out.size))
        have hs8 : w7.heap.size < w8.heap.size := (s8.lt w7.heap.size rfl).2
        clear s8 J7 F7 B7 b8
        go_wp2_with fail
        refine (toArrivalSS_any _ _ _ _ (HA.out.below (BA.out.trans (B8.out.mono BA.out.size))) han' HL'.out).mono ?_
        rintro e w9 ⟨rfl, a9, b9⟩
        have hs9 := b9.size
        have B9 := Lib.hid (B8.out.trans (b9.mono B8.out.size))
        have K9 := Lib.hid (KR.mk (F8.out.below b9).row (J8.out.below b9).rowJ (S8.out.below b9).row2 a9.row)
        have N9 := Lib.hid (show Nums A1.heap.size w9.heap.size w9 (some ⟨A1.heap.size, 0, none⟩) (ts.length * 3) ∧ Nums A1.heap.size w9.heap.size w9 (some ⟨w6.heap.size, 0, none⟩) (js.length * 4) ∧ Nums A1.heap.size w9.heap.size w9 (some ⟨w7.heap.size, 0, none⟩) (ss.length * 2) ∧ NumsS A1.heap.size w9.heap.size w9 (some ⟨w8.heap.size, 0, none⟩) als from
          ⟨(F8.out.below b9).nums (Nat.le_refl _) (by omega), (J8.out.below b9).nums (by omega) (by omega), (S8.out.below b9).nums (fun m _ => F2_num _ m) (by omega) (Nat.le_refl _), a9.nums (by omega) (Nat.le_refl _)⟩)
        clear a9 F8 J8 S8 B8 b9 hs6 hs7 hs8 hs9
        generalize hj0 : w6.heap.size = j0 at K9 N9 ⊢
        generalize hs1 : w7.heap.size = s1 at K9 N9 ⊢
        generalize ha1 : w8.heap.size = a1 at K9 N9 ⊢
        clear hj0 hs1 ha1
        go_wp2_with fail
        refine (runServers_any _ _ _ _ _ _ _ _ ts js ss als _ K9.out.r0 K9.out.r1 K9.out.r2 K9.out.r3 hn' hjn' hsn' han' (fun k _ => HL'.out k)).mono ?_
        rintro e w10 ⟨g10, b10⟩
        obtain ⟨rg, fg, cg, vg, d1, d2, d3, d4, iv', rfl, p10⟩ := GP.out _ _ _ g10
        have p10' := box4 (a := .slice rg LR d1) (b := .slice fg LF d2) (c := .slice cg LR d3) (d := .slice vg LS d4) (t := 52)  p10 b10.size
        rw [gl_add] at p10'
        have bx := b10.alloc b10.size (.cells #[.slice rg LR d1, .slice fg LF d2, .slice cg LR d3, .slice vg LS d4] 52)
        have KA := Lib.hid (show KP A1 (w10.alloc (.cells #[.slice rg LR d1, .slice fg LF d2, .slice cg LR d3, .slice vg LS d4] 52)) w9.heap.size _ ts js ss als _ _ _ _ from ⟨B9.out.trans (bx.mono B9.out.size), bx.size, p10', N9.out.1.mk (Mk.of_below (lo := 0) (hi := 0) bx), N9.out.2.1.mk (Mk.of_below (lo := 0) (hi := 0) bx), N9.out.2.2.1.mk (Mk.of_below (lo := 0) (hi := 0) bx), N9.out.2.2.2.mk (Mk.of_below (lo := 0) (hi := 0) bx)⟩)
        have KB := Lib.hid (K9.out.below bx)
        have HBG := Lib.hid (show A1.heap.size ≤ w9.heap.size from B9.out.size)
        clear p10 p10' g10 b10 bx K9 N9 B9
        generalize hA : w10.alloc (.cells #[.slice rg LR d1, .slice fg LF d2, .slice cg LR d3, .slice vg LS d4] 52) = A2 at KA KB
        obtain ⟨y0, y1, y2, y3⟩ := cell4x KA.out.po
        obtain ⟨z0, z1, z2, z3⟩ := cell4x (P5.out.below KA.out.hb)
        go_wp2_with fail
        clear hA y0 y1 y2 y3 z0 z1 z2 z3
        generalize hsg : w10.heap.size = sg at KA ⊢
        generalize hbg : w9.heap.size = bg at KA HBG ⊢
        clear hsg hbg
        refine (eqServerRun_same _ KA.out.po.ri (P5.out.below KA.out.hb).ri (by omega) (by omega) (by omega) HL.out).mono ?_
        rintro e w11 ⟨rfl, b11⟩
        have K11 := Lib.hid (KA.out.below b11)
        have Q11 := Lib.hid (KB.out.below b11)
        clear KA KB b11
        go_wp2_with fail
        refine (toTaskS_any _ _ _ _ (HR.out.below (BA.out.trans (K11.out.hb.mono BA.out.size))) hn').mono ?_
        rintro e w12 ⟨rfl, x, b⟩
        have R := Lib.hid x
        have K12 := Lib.hid (K11.out.below b)
        have Q12 := Lib.hid (Q11.out.below b)
        clear x b K11 Q11
        go_wp2_with fail
        refine (eqTaskS_same _ _ _ _ ts _ Q12.out.r0 R.out hn').mono ?_
        rintro e w13 ⟨rfl, b⟩
        have K13 := Lib.hid (K12.out.below b)
        have Q13 := Lib.hid (Q12.out.below b)
        clear R b K12 Q12
        go_wp2_with fail
        refine (toJobS_any _ _ _ _ (HJ.out.below (BA.out.trans (K13.out.hb.mono BA.out.size))) hjn').mono ?_
        rintro e w14 ⟨rfl, x, b⟩
        have R := Lib.hid x.rowJ
        have K14 := Lib.hid (K13.out.below b)
        have Q14 := Lib.hid (Q13.out.below b)
        clear x b K13 Q13
        go_wp2_with fail
        refine (eqJobS_same _ _ _ _ js _ Q14.out.r1 R.out hjn').mono ?_
        rintro e w15 ⟨rfl, b⟩
        have K15 := Lib.hid (K14.out.below b)
        have Q15 := Lib.hid (Q14.out.below b)
        clear R b K14 Q14
        go_wp2_with fail
        refine (toServerS_any _ _ _ _ (HS.out.below (BA.out.trans (K15.out.hb.mono BA.out.size))) hsn').mono ?_
        rintro e w16 ⟨rfl, x, b⟩
        have R := Lib.hid x.row2
        have K16 := Lib.hid (K15.out.below b)
        have Q16 := Lib.hid (Q15.out.below b)
        clear x b K15 Q15
        go_wp2_with fail
        refine (eqServerS_same _ _ _ _ ss _ Q16.out.r2 R.out hsn').mono ?_
        rintro e w17 ⟨rfl, b⟩
        have K17 := Lib.hid (K16.out.below b)
        have Q17 := Lib.hid (Q16.out.below b)
        clear R b K16 Q16
        go_wp2_with fail
        refine (toArrivalSS_any _ _ _ _ (HA.out.below (BA.out.trans (K17.out.hb.mono BA.out.size))) han' HL'.out).mono ?_
        rintro e w18 ⟨rfl, x, b⟩
        have R := Lib.hid x.row
        have K18 := Lib.hid (K17.out.below b)
        have Q18 := Lib.hid (Q17.out.below b)
        clear x b K17 Q17
        go_wp2_with fail
        refine (eqArrivalSS_same _ _ _ _ als _ Q18.out.r3 R.out han' HL'.out).mono ?_
        rintro e w19 ⟨rfl, b⟩
        have K19 := Lib.hid (K18.out.below b)
        have Q19 := Lib.hid (Q18.out.below b)
        clear R b K18 Q18
        clear Q19
        go_wp2_with fail
        refine (markTaskS_mk _ _ _ 1 _ K19.out.n0 hn (by omega)).mono ?_
        rintro e w20 ⟨rfl, m20⟩
        have K20 := Lib.hid (K19.out.mk' m20)
        clear K19 m20
        go_wp2_with fail
        refine (markJobS_mk _ _ _ (1 + 3 * ts.length) _ K20.out.n1 hjj (by omega)).mono ?_
        rintro e w21 ⟨rfl, m21⟩
        have K21 := Lib.hid (K20.out.mk' m21)
        clear K20 m21
        go_wp2_with fail
        refine (markServerS_any _ _ _ (1 + 3 * ts.length + 4 * js.length) _ K21.out.n2 hss (by omega)).mono ?_
        rintro e w22 ⟨rfl, m22⟩
        have K22 := Lib.hid (K21.out.mk' m22)
        clear K21 m22
        go_wp2_with fail
        refine (markArrivalSS_any _ _ (1 + 3 * ts.length + 4 * js.length + 2 * ss.length) als _ K22.out.n3 htt haa (by omega)).mono ?_
        rintro e w23 ⟨rfl, m23⟩
        have K23 := Lib.hid (K22.out.mk' m23)
        clear K22 m23
        have hk0 : ¬ ((1 + 3 * ts.length + 4 * js.length + 2 * ss.length + 2 * tot als als.length : Nat) : Int) < 0 := by omega
        obtain ⟨y0, y1, y2, y3⟩ := cell4x K23.out.po
        obtain ⟨z0, z1, z2, z3⟩ := cell4x (P5.out.below K23.out.hb)
        go_wp2_with fail
        clear hk0 y0 y1 y2 y3 z0 z1 z2 z3
        refine (eqServerRun_same _ K23.out.po.ri (P5.out.below K23.out.hb).ri (by omega) (by omega) (by omega) HL.out).mono ?_
        rintro e w24 ⟨rfl, b24⟩
        have K24 := Lib.hid (K23.out.below b24)
        clear K23 b24
        obtain ⟨M, hM⟩ : ∃ M : Nat, M = 1 + LR + LF + LR + tot als LS := ⟨_, rfl⟩
        have HM := Lib.hid hM
        clear hM
        obtain ⟨y0, y1, y2, y3⟩ := cell4x K24.out.po
        go_wp2_with fail
        clear y0 y1 y2 y3
        refine (markServerRun_any K24.out.po K24.out.hs (by omega) (by omega) (by omega) hT).mono ?_
        rintro e w25 ⟨rfl, p25, b25⟩
        have P25 := Lib.hid p25
        have B25 := Lib.hid (K24.out.hb.trans (b25.mono HBG.out))
        rw [← HM.out]
        clear p25 b25 K24
        obtain ⟨y0, y1, y2, y3⟩ := cell4x P25.out
        go_wp2_with fail
        clear y0 y1 y2 y3
        refine (heldServerRun_any _ P25.out.ri (by omega) (by omega) (by omega) hT).mono ?_
        rintro e w26 ⟨rfl, b26⟩
        have P26 := Lib.hid (P25.out.below b26)
        have B26 := Lib.hid (B25.out.trans (b26.mono B25.out.size))
        rw [← HM.out]
        clear b26 P25 B25
        have hM0 : ¬ (M : Int) < 0 := by omega
        go_wp2_with fail
        refine (toTaskS_any _ _ _ _ (HR.out.below (BA.out.trans (B26.out.mono BA.out.size))) hn').mono ?_
        rintro e w27 ⟨rfl, r27, b⟩
        have R27 := Lib.hid r27
        have P27 := Lib.hid (P26.out.below b)
        have B27 := Lib.hid (B26.out.trans (b.mono B26.out.size))
        clear r27 b P26 B26
        go_wp2_with fail
        refine (toJobS_any _ _ _ _ (HJ.out.below (BA.out.trans (B27.out.mono BA.out.size))) hjn').mono ?_
        rintro e w28 ⟨rfl, j28, b⟩
        have J28 := Lib.hid j28.rowJ
        have R28 := Lib.hid (R27.out.below b)
        have P28 := Lib.hid (P27.out.below b)
        have B28 := Lib.hid (B27.out.trans (b.mono B27.out.size))
        clear j28 b R27 P27 B27
        go_wp2_with fail
        refine (toServerS_any _ _ _ _ (HS.out.below (BA.out.trans (B28.out.mono BA.out.size))) hsn').mono ?_
        rintro e w29 ⟨rfl, s29, b⟩
        have S29 := Lib.hid s29.row2
        have J29 := Lib.hid (J28.out.below b)
        have R29 := Lib.hid (R28.out.below b)
        have P29 := Lib.hid (P28.out.below b)
        have B29 := Lib.hid (B28.out.trans (b.mono B28.out.size))
        clear s29 b J28 R28 P28 B28
        go_wp2_with fail
        refine (toArrivalSS_any _ _ _ _ (HA.out.below (BA.out.trans (B29.out.mono BA.out.size))) han' HL'.out).mono ?_
        rintro e w30 ⟨rfl, a30, b⟩
        have A30 := Lib.hid a30.row
        have S30 := Lib.hid (S29.out.below b)
        have J30 := Lib.hid (J29.out.below b)
        have R30 := Lib.hid (R29.out.below b)
        have P30 := Lib.hid (P29.out.below b)
        have B30 := Lib.hid (B29.out.trans (b.mono B29.out.size))
        clear a30 b S29 J29 R29 P29 B29
        go_wp2_with fail
        refine (runServers_any _ _ _ _ _ _ _ _ ts js ss als _ R30.out J30.out S30.out A30.out hn' hjn' hsn' han' (fun k _ => HL'.out k)).mono ?_
        rintro e w31 ⟨g31, b31⟩
        obtain ⟨rh, fh, ch, vh, e1, e2, e3, e4, iv'', rfl, p31⟩ := GP.out _ _ _ g31
        have p31' := box4 (a := .slice rh LR e1) (b := .slice fh LF e2) (c := .slice ch LR e3) (d := .slice vh LS e4) (t := 52)  p31 b31.size
        rw [gl_add] at p31'
        have bx := b31.alloc b31.size (.cells #[.slice rh LR e1, .slice fh LF e2, .slice ch LR e3, .slice vh LS e4] 52)
        have H31 := Lib.hid p31'
        have P31 := Lib.hid (P30.out.below bx)
        have B31 := Lib.hid (B30.out.trans (bx.mono B30.out.size))
        clear p31 p31' g31 b31 bx A30 S30 J30 R30 P30 B30
        generalize hA : w31.alloc (.cells #[.slice rh LR e1, .slice fh LF e2, .slice ch LR e3, .slice vh LS e4] 52) = A3 at H31 P31 B31
        obtain ⟨v0, v1, v2, v3⟩ := cell4x H31.out
        obtain ⟨z0, z1, z2, z3⟩ := cell4x (P5.out.below B31.out)
        go_wp2_with fail
        clear hA v0 v1 v2 v3 z0 z1 z2 z3
        refine (eqServerRun_same _ H31.out.ri (P5.out.below B31.out).ri (by omega) (by omega) (by omega) HL.out).mono ?_
        rintro e w32 ⟨rfl, b32⟩
        have P32 := Lib.hid (P31.out.below b32)
        have B32 := Lib.hid (B31.out.trans (b32.mono B31.out.size))
        clear b32 H31 P31 B31
        obtain ⟨y0, y1, y2, y3⟩ := cell4x P32.out
        go_wp2_with fail
        clear y0 y1 y2 y3
        refine (heldServerRun_any _ P32.out.ri (by omega) (by omega) (by omega) hT).mono ?_
        rintro e w33 ⟨rfl, b33⟩
        have B33 := Lib.hid (B32.out.trans (b33.mono B32.out.size))
        rw [← HM.out]
        clear b33 P32 B32
        go_wp2
        go_ret
        exact ⟨rfl, BA.out.trans (B33.out.mono BA.out.size)⟩
      · have hsl' : ((1048576 - ts.length - js.length : Nat) : Int) < (ss.length : Int) := by omega
        go_enter Try.func13, Try.ntmps13
        go_wp2_with fail
        refine (szTaskS_small _ _ _ _ hn).mono ?_
        rintro e w' ⟨rfl, rfl⟩
        go_wp2_with fail
        rw [show (1048576 : Int) - (ts.length : Int) = ((1048576 - ts.length : Nat) : Int) by omega]
        refine (szJobS_small _ _ _ (1048576 - ts.length) _ hjl (by omega)).mono ?_
        rintro e w' ⟨rfl, rfl⟩
        go_wp2_with fail
        rw [show ((1048576 - ts.length : Nat) : Int) - (js.length : Int) = ((1048576 - ts.length - js.length : Nat) : Int) by omega]
        refine (szServerS_big _ _ _ ((1048576 - ts.length - js.length : Nat) : Int) _ hsl' (by omega) (by omega) hsm).mono ?_
        rintro e w' ⟨rfl, rfl⟩
        go_wp2
        go_ret
        exact ⟨rfl, Below.refl _ _⟩
    · have hjl' : 1048576 - ts.length < js.length := by omega
      go_enter Try.func13, Try.ntmps13
      go_wp2_with fail
      refine (szTaskS_small _ _ _ _ hn).mono ?_
      rintro e w' ⟨rfl, rfl⟩
      go_wp2_with fail
      rw [show (1048576 : Int) - (ts.length : Int) = ((1048576 - ts.length : Nat) : Int) by omega]
      refine (szJobS_big _ _ _ (1048576 - ts.length) _ hjl' hjm (by omega)).mono ?_
      rintro e w' ⟨rfl, rfl⟩
      go_wp2
      go_ret
      exact ⟨rfl, Below.refl _ _⟩
  · have hn' : 1048576 < ts.length := by omega
    go_enter Try.func13, Try.ntmps13
    go_wp2_with (go_at_call 40; refine (szTaskS_big _ _ _ _ hn' hm).mono ?_; rintro e w' ⟨rfl, rfl⟩)
    go_ret
    exact ⟨rfl, Below.refl _ _⟩

end Go.Proofs.Ytipnemngphglkaa
