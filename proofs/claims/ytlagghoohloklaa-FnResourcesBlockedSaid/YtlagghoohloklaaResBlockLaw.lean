/- The walk of laws.FnResourcesBlocked, for whatever code. Condition: the argument is a slice of bytes. -/
import Derived.Test.YtlagghoohloklaaResRunB
import Derived.Test.YtlagghoohloklaaSame
namespace Go.Proofs.Ytlagghoohloklaa
open Go.RowKit Go.Deep

theorem mxF_12R {f : Nat → Nat} {B : Nat} : ∀ {n : Nat}, (∀ i, i < n → f i ≤ B) → mxF f n ≤ B
  | 0, _ => Nat.zero_le _
  | n + 1, h => by
    simp only [mxF]
    have := mxF_12R (f := f) (B := B) (n := n) fun i hi => h i (by omega)
    have := h n (by omega)
    omega
theorem lows_t (S : Srp) (D s : Nat) : ∀ t, S.lows D s t ≤ t
  | 0 => Nat.le_refl _
  | t + 1 => by
    have := lows_t S D s t
    rw [S.lows_succ]
    split <;> omega
theorem fin_cases {ts ss : List T3} {js : List J4} (h : okR ts ss js = true) {i : Nat} (hi : i < js.length) :
    srpFin ts ss js i = -1 ∨ ∃ f : Nat, srpFin ts ss js i = (f : Int) + 1 ∧ f < 120 ∧ jrel js i ≤ f ∧ (srpP ts ss js).lows (jdl js i) (jrel js i) (f + 1) ≤ mxF (sln ss) ss.length := by
  have hx := (leg_nat (okR_iff.1 h).2 hi).2.2.1
  have hl : ss.length = ts.length := (scB_iff.1 (okR_iff.1 h).1).2.1
  by_cases h0 : 0 < (srpP ts ss js).gen.left 120 i
  · exact .inl ((srpP ts ss js).gen.fin_open h0)
  · obtain ⟨f, hf, hf1, hf2, _⟩ := (srpP ts ss js).gen.fin_done (srpP ts ss js).fair (t := 120) (i := i) (show 0 < jex js i by omega) (by omega)
    refine .inr ⟨f, hf, hf1, ((srpP ts ss js).fair f i hf2).2.1, ?_⟩
    rw [hl]
    exact srp_blocked h hi hf2
set_option maxRecDepth 100000 in
set_option maxHeartbeats 8000000 in
/-- laws.FnResourcesBlocked. -/
theorem fnResourcesBlocked_walk (a : Option Addr) (len cap : Nat) (w : World) (hb : Byts w a len cap) :
    Calls Try.prog 9 #[.slice a len cap] w fun e w' => e = .returned (.bool true) ∧ Below w.heap.size w w' := by
  have hm : cap ≤ maxLen := hb.2.2
  have hlc : len ≤ cap := hb.2.1
  unfold maxLen at hm
  have HB := Lib.hid hb
  clear hb
  by_cases hl : 1048576 < len
  · have hl' : (1048576 : Int) < len := by omega
    go_enter Try.func9, Try.ntmps9
    go_wp2
    go_ret
    exact ⟨rfl, Below.refl _ _⟩
  have hl' : ¬ (1048576 : Int) < len := by omega
  go_enter Try.func9, Try.ntmps9
  go_wp2_with fail
  refine (drawRunResources_any _ _ _ _ HB.out).mono ?_
  rintro e w1 ⟨g, cap1, sg, scap, jcap, ja, ts, ss, js, rfl, hn, hlc1, hcm1, hsn, hst, hjn, hr1, hos, hoj, b1⟩
  have R1 := Lib.hid hr1
  have OJ1 := Lib.hid hoj
  have RJ1 := Lib.hid hoj.rowJ
  have OS1 := Lib.hid hos
  have RS1 := Lib.hid hos.row
  have STB := Lib.hid hst
  clear hr1 hoj hos hst HB
  go_wp2_with fail
  refine (runResources_any _ _ _ _ _ _ ts ss js _ R1.out RS1.out RJ1.out STB.out (by omega) (by omega) (by omega)).mono ?_
  rintro e w2 ⟨⟨vr, vf, rfl, o1, o2, ap⟩, b2⟩
  obtain ⟨ra, rc, rfl⟩ := own_shape o1
  obtain ⟨fa, fc, rfl⟩ := own_shape o2
  have B2 : Below w.heap.size w w2 := b1.trans (b2.mono b1.size)
  have hs1 := b1.size
  have hs2 := b2.size
  obtain ⟨LR, hLR⟩ : ∃ LR, LR = lenRR ts ss js := ⟨_, rfl⟩
  obtain ⟨LF, hLF⟩ : ∃ LF, LF = lenFR ts ss js := ⟨_, rfl⟩
  rw [← hLR] at o1
  rw [← hLF] at o2
  have hlr : LR ≤ 120 := by rw [hLR, lenRR]; split <;> omega
  have hlf : LF ≤ 61 := by rw [hLF, lenFR]; split <;> omega
  have HLR := Lib.hid hLR
  have HLF := Lib.hid hLF
  rw [← hLR, ← hLF]
  have O1 := Lib.hid o1
  have O2 := Lib.hid o2
  have AP := Lib.hid ap
  clear hLR hLF o1 o2 ap
  go_wp2
  have X := fun o => (b2.trans ((below_box w2 o).mono hs2)).drew
  have R3 := Lib.hid fun o => R1.out.below (X o)
  have RJ3 := Lib.hid fun o => RJ1.out.below (X o)
  have RS3 := Lib.hid fun o => RS1.out.below (X o)
  have P1 := Lib.hid fun o => (O1.out.alloc o).drew
  have P2 := Lib.hid fun o => (O2.out.alloc o).drew
  have BX := Lib.hid fun o => (B2.trans ((below_box w2 o).mono (Nat.le_trans hs1 hs2))).drew
  clear X
  refine wp_region_noPanic ?_
  refine wp_region_held_drew (S := fun w' => w'.cell? ⟨w2.heap.size, 0, none⟩ = some (.slice ra LR rc) ∧ w'.cell? ⟨w2.heap.size, 1, none⟩ = some (.slice fa LF fc)) (by kernel_rfl) ?_ (fun hHeld => ?_)
  · (try dsimp only)
    (first | exact ⟨by simp [go_sem], by simp [go_sem]⟩ | exact ⟨(HB4.out.cell (p := ⟨w2.heap.size, 0, none⟩) (by simp)).trans hHeld.1, (HB4.out.cell (p := ⟨w2.heap.size, 1, none⟩) (by simp)).trans hHeld.2⟩ | exact ⟨(HB5.out.cell (p := ⟨w2.heap.size, 0, none⟩) (by have := HB4.out.size; simp at this; simp; omega)).trans hHeld.1, (HB5.out.cell (p := ⟨w2.heap.size, 1, none⟩) (by have := HB4.out.size; simp at this; simp; omega)).trans hHeld.2⟩)
  refine wpAnyH_take (i := 0) (v := ?_) (toArr_get _ 0 _ rfl) (by kernel_rfl) (by kernel_rfl) (by kernel_rfl) (fun _ _ _ h => h) (Or.inl ⟨by rfl, ?_⟩) (by assumption) ?_
  rotate_left
  · (intro w hSw; (try dsimp only at hSw); go_simp; (try with_reducible rfl))
  (try simp only [Act.put, List.setIfInBounds_toArray, List.set_cons_zero, List.set_cons_succ])
  refine wpAnyH_take (i := 1) (v := ?_) (toArr_get _ 1 _ rfl) (by kernel_rfl) (by kernel_rfl) (by kernel_rfl) (fun _ _ _ h => h) (Or.inl ⟨by rfl, ?_⟩) (by assumption) ?_
  rotate_left
  · (intro w hSw; (try dsimp only at hSw); go_simp; (try with_reducible rfl))
  (try simp only [Act.put, List.setIfInBounds_toArray, List.set_cons_zero, List.set_cons_succ])
  refine wpAnyH_take (i := 2) (v := ?_) (toArr_get _ 2 _ rfl) (by kernel_rfl) (by kernel_rfl) (by kernel_rfl) (fun _ _ _ h => h) (Or.inl ⟨by rfl, ?_⟩) (by assumption) ?_
  rotate_left
  · (intro w hSw; (try dsimp only at hSw); go_simp; (try with_reducible rfl))
  (try simp only [Act.put, List.setIfInBounds_toArray, List.set_cons_zero, List.set_cons_succ])
  refine wpAnyH_take (i := 3) (v := ?_) (toArr_get _ 3 _ rfl) (by kernel_rfl) (by kernel_rfl) (by kernel_rfl) (fun _ _ _ h => h) (Or.inl ⟨by rfl, ?_⟩) (by assumption) ?_
  rotate_left
  · (intro w hSw; (try dsimp only at hSw); go_simp; (try with_reducible rfl))
  (try simp only [Act.put, List.setIfInBounds_toArray, List.set_cons_zero, List.set_cons_succ])
  refine wpAnyH_ready (rs := [4]) (by kernel_rfl) (by simp) ?_
  refine AllReadyH.cons (toArr_get _ 4 _ rfl) (fun K hK => ?_) ?_
  · go_simp
    refine (specRunResources_any _ _ _ _ _ _ ts ss js _ (R3.out _) (RS3.out _) (RJ3.out _) (by omega) (by omega) (by omega)).mono ?_
    rintro e w4 ⟨⟨vr', vf', rfl, p1, p2, _⟩, b4⟩
    obtain ⟨ra', rc', rfl⟩ := own_shape p1
    obtain ⟨fa', fc', rfl⟩ := own_shape p2
    rw [← HLR.out] at p1
    rw [← HLF.out] at p2
    rw [← HLR.out, ← HLF.out]
    have I1 := Lib.hid (((P1.out _).below b4).intF')
    have I2 := Lib.hid (((P2.out _).below b4).intF')
    have I3 := Lib.hid p1.intF'
    have I4 := Lib.hid p2.intF'
    have HB4 := Lib.hid b4
    clear p1 p2 b4
    go_wp2_with fail
    refine hK.out _ _ ?_ (fun hHeld2 => ?_)
    · (try dsimp only)
      (first | exact ⟨by simp [go_sem], by simp [go_sem]⟩ | exact ⟨(HB4.out.cell (p := ⟨w2.heap.size, 0, none⟩) (by simp)).trans hHeld.1, (HB4.out.cell (p := ⟨w2.heap.size, 1, none⟩) (by simp)).trans hHeld.2⟩ | exact ⟨(HB5.out.cell (p := ⟨w2.heap.size, 0, none⟩) (by have := HB4.out.size; simp at this; simp; omega)).trans hHeld.1, (HB5.out.cell (p := ⟨w2.heap.size, 1, none⟩) (by have := HB4.out.size; simp at this; simp; omega)).trans hHeld.2⟩)
    clear hK K hHeld
    have hHeld := hHeld2
    clear hHeld2
    (try simp only [Act.put, List.setIfInBounds_toArray, List.set_cons_zero, List.set_cons_succ])
    refine wpAnyH_ready (rs := [5]) (by kernel_rfl) (by simp) ?_
    refine AllReadyH.cons (toArr_get _ 5 _ rfl) (fun K hK => ?_) ?_
    · go_simp
      refine (sameSchedule_same _ _ _ _ _ _ _ _ _ _ (srpF ts ss js) (srpFin ts ss js) _ I1.out I2.out I3.out I4.out (by omega) (by omega)).mono ?_
      rintro e w5 ⟨rfl, b5⟩
      have HB5 := Lib.hid b5
      clear b5 I1 I2 I3 I4
      go_wp2_with fail
      refine hK.out _ _ ?_ (fun hHeld2 => ?_)
      · (try dsimp only)
        (first | exact ⟨by simp [go_sem], by simp [go_sem]⟩ | exact ⟨(HB4.out.cell (p := ⟨w2.heap.size, 0, none⟩) (by simp)).trans hHeld.1, (HB4.out.cell (p := ⟨w2.heap.size, 1, none⟩) (by simp)).trans hHeld.2⟩ | exact ⟨(HB5.out.cell (p := ⟨w2.heap.size, 0, none⟩) (by have := HB4.out.size; simp at this; simp; omega)).trans hHeld.1, (HB5.out.cell (p := ⟨w2.heap.size, 1, none⟩) (by have := HB4.out.size; simp at this; simp; omega)).trans hHeld.2⟩)
      clear hK K hHeld
      have hHeld := hHeld2
      clear hHeld2
      (try simp only [Act.put, List.setIfInBounds_toArray, List.set_cons_zero, List.set_cons_succ])
      refine wpAnyH_take (i := 6) (v := ?_) (toArr_get _ 6 _ rfl) (by kernel_rfl) (by kernel_rfl) (by kernel_rfl) (fun _ _ _ h => h) (Or.inl ⟨by rfl, ?_⟩) (by assumption) ?_
      rotate_left
      · (intro w hSw; (try dsimp only at hSw); go_simp; (try with_reducible rfl))
      (try simp only [Act.put, List.setIfInBounds_toArray, List.set_cons_zero, List.set_cons_succ])
      refine wpAnyH_done (by kernel_rfl) ?_ _
      refine NoPanic.normal ?_
      have B4 : Below w2.heap.size w2 w5 := ((below_box w2 _).drew.trans ((HB4.out.trans (HB5.out.mono HB4.out.size)).mono (by simp)))
      have hs4 := HB4.out.size
      have hs5 := HB5.out.size
      simp at hs4
      have B5 : Below w.heap.size w w5 := B2.trans (B4.mono (Nat.le_trans hs1 hs2))
      have O15 := Lib.hid (O1.out.below B4)
      have O25 := Lib.hid (O2.out.below B4)
      have R5 := Lib.hid (R1.out.below (b2.trans (B4.mono hs2)))
      have RS5 := Lib.hid (RS1.out.below (b2.trans (B4.mono hs2)))
      have OJ5 := Lib.hid (OJ1.out.below (b2.trans (B4.mono hs2)))
      have RJ5 := Lib.hid OJ5.out.rowJ
      have sz5 : w2.heap.size < w5.heap.size := by omega
      obtain ⟨s0, s1⟩ := hHeld
      clear R1 RJ1 RS1 OS1 OJ1 O1 O2 R3 RJ3 RS3 P1 P2 BX HB4 HB5 B4 B2 b1 b2 hs4 hs5
      by_cases hok : okR ts ss js = true
      · have HOK := Lib.hid hok
        have hlf2 : LF = js.length := by rw [HLF.out, lenFR, if_pos hok]
        have hlr2 : LR = 120 := by rw [HLR.out, lenRR, if_pos hok]
        have HLEG := Lib.hid (okR_iff.1 hok).2
        have HSC := Lib.hid (okR_iff.1 hok).1
        clear hok HLR HLF
        subst hlf2
        subst hlr2
        obtain ⟨gr, rfl⟩ := own_some' O15.out (by omega)
        go_wp2_with fail
        refine (resourcesFeasible_any _ _ _ _ ts ss _ R5.out RS5.out STB.out (by omega) (by omega)).mono ?_
        rintro e w6 ⟨rfl, b6⟩
        have B6 := B5.trans (b6.mono B5.size)
        have t0 := (b6.cell (p := ⟨w2.heap.size, 0, none⟩) sz5).trans s0
        have t1 := (b6.cell (p := ⟨w2.heap.size, 1, none⟩) sz5).trans s1
        have IR := Lib.hid (O15.out.below b6).intF'
        have FF := Lib.hid (O25.out.below b6).intF'
        have RJ6 := Lib.hid (RJ5.out.below b6)
        have RS6 := Lib.hid (RS5.out.below b6)
        clear s0 s1 R5 RS5 RJ5 O15 O25 OJ5 B5 b6
        by_cases he : rfB ts ss = true
        · rw [he]
          clear he
          go_wp2
          go_loopg [7, 8] ss.length (fun m x z wr => ∃ k : Nat, m + k = ss.length ∧ x = .int .i64 (mxF (sln ss) k : Nat) ∧ z = .int .i64 k ∧ w6 = wr)
          case atStart => exact ⟨0, by omega, rfl, rfl, rfl⟩
          case round =>
            obtain ⟨k, hk, rfl, rfl, rfl⟩ := hrel
            have HK := Lib.hid hk
            have hkk : k ≤ ss.length := by omega
            have HSL := Lib.hid ((scB_iff.1 HSC.out).2.1)
            have hm1 : mxF (sln ss) k ≤ 12 := mxF_12R fun i hi => by have := sc_nat HSC.out (show i < ts.length by have := HSL.out; omega); omega
            clear hk
            by_cases hlt : k < ss.length
            · obtain ⟨b, off, e1, hbs, -, x1, -⟩ := RS6.out.tk hlt
              simp only [Option.some.injEq, Addr.mk.injEq, and_true] at e1
              obtain ⟨rfl, rfl⟩ := e1
              have hnat := sc_nat HSC.out (show k < ts.length by have := HSL.out; omega)
              rw [hnat.2.1] at x1
              simp only [Nat.zero_add] at x1
              have HM1 := Lib.hid (show mxF (sln ss) (k + 1) = max (mxF (sln ss) k) (sln ss k) from rfl)
              have hL12 : sln ss k ≤ 12 := by omega
              obtain ⟨L, hL⟩ : ∃ L, L = sln ss k := ⟨_, rfl⟩
              obtain ⟨M1, hM1⟩ : ∃ M1, M1 = mxF (sln ss) k := ⟨_, rfl⟩
              rw [← hL] at x1 hL12 HM1
              rw [← hM1] at hm1 HM1 ⊢
              have hk0 : (0 : Int) ≤ k := by omega
              have hk2 : (k : Int) < ss.length := by omega
              clear hnat hL hM1
              go_wp2
              all_goals
                go_roundg (gk - 1)
                case measure => have := HK.out; omega
                case rel => exact ⟨k + 1, by have := HK.out; omega, by rw [HM1.out]; congr 1; omega, by go_num, rfl⟩
            · obtain rfl : k = ss.length := by omega
              clear HK RS6
              have HF := Lib.hid (fun (i : Nat) (hi : i < js.length) => fin_cases HOK.out hi)
              obtain ⟨M1, hM1⟩ : ∃ M1, M1 = mxF (sln ss) ss.length := ⟨_, rfl⟩
              rw [← hM1] at hm1 HF ⊢
              clear hM1
              go_wp2
              go_loopg [9] js.length (fun m z wr => ∃ i l : Nat, m + i = js.length ∧ z = .int .i64 i ∧ wr = w6.drewN l)
              case atStart => exact ⟨0, 0, by omega, rfl, rfl⟩
              case round =>
                obtain ⟨i, l, hq, rfl, rfl⟩ := hrel
                obtain ⟨GG, hGG⟩ : ∃ GG, GG = gk := ⟨_, rfl⟩
                have HGG := Lib.hid hGG
                have HQ := Lib.hid hq
                have hii : i ≤ js.length := by omega
                clear hq hGG
                by_cases hin : i < js.length
                · have hi0 : (0 : Int) ≤ i := by omega
                  have hi1 : (i : Int) < js.length := by omega
                  have hnat := leg_nat HLEG.out hin
                  obtain ⟨bj, oj, ej, -, -, x1, x2, -⟩ := RJ6.out i hin
                  rw [hnat.2.2.2.2.2.2.1] at x1
                  rw [hnat.2.2.2.2.2.2.2.1] at x2
                  obtain ⟨bf, of, ef, -, y0⟩ := FF.out i hin
                  subst ej
                  subst ef
                  have hr119 := hnat.2.2.2.2.1
                  have hfc := HF.out i hin
                  obtain ⟨r, hr⟩ : ∃ r, r = jrel js i := ⟨_, rfl⟩
                  obtain ⟨D, hD⟩ : ∃ D, D = jdl js i := ⟨_, rfl⟩
                  rw [← hr] at x1 hr119 hfc
                  rw [← hD] at x2 hfc
                  clear hnat hr hD
                  rcases hfc with hf | ⟨f, hf, hf2, hrf, hlow⟩
                  · rw [hf] at y0
                    clear hf
                    go_wp2
                    go_loopg [10, 11] 0 (fun q x y wr => q = 0 ∧ x = .int .i64 0 ∧ y = .int .i64 r ∧ wr = w6.drewN l)
                    case atStart => exact ⟨rfl, rfl, rfl, rfl⟩
                    case round =>
                      obtain ⟨-, rfl, rfl, rfl⟩ := hrel
                      go_wp2
                      go_roundg (GG - 1)
                      case measure => have := HQ.out; have := HGG.out; omega
                      case rel => exact ⟨i + 1, l, by have := HQ.out; have := HGG.out; omega, by go_num, rfl⟩
                  · rw [hf] at y0
                    have HLOW := Lib.hid hlow
                    clear hf hlow
                    go_wp2
                    go_loopg [10, 11] (f + 1 - r) (fun q x y wr => ∃ u l2 : Nat, q + u = f + 1 ∧ r ≤ u ∧ x = .int .i64 ((srpP ts ss js).lows D r u : Nat) ∧ y = .int .i64 u ∧ wr = w6.drewN l2)
                    case atStart => exact ⟨r, l, by omega, by omega, by rw [Srp.lows_start]; rfl, rfl, rfl⟩
                    case round =>
                      obtain ⟨u, l2, hu, hru, rfl, rfl, rfl⟩ := hrel
                      have HU := Lib.hid hu
                      have huf : u ≤ f + 1 := by omega
                      have hlt120 := lows_t (srpP ts ss js) D r u
                      have HSU := Lib.hid ((srpP ts ss js).lows_succ D r u)
                      clear hu
                      by_cases hlt : u < f + 1
                      · have hu0 : (0 : Int) ≤ u := by omega
                        have hu1 : (u : Int) < (f : Int) + 1 := by omega
                        have hu2 : (u : Int) < 120 := by omega
                        obtain ⟨b', o', e', -, v1⟩ := IR.out u (by omega)
                        simp only [Option.some.injEq, Addr.mk.injEq, and_true] at e'
                        obtain ⟨rfl, rfl⟩ := e'
                        rw [Nat.zero_add] at v1
                        have HLA := Lib.hid (Srp.lowAt_iff (S := srpP ts ss js) (D := D) (u := u))
                        cases hrun : (srpP ts ss js).gen.run u with
                        | none =>
                          have hv : srpF ts ss js u = -1 := by unfold srpF; rw [hrun]; rfl
                          rw [hv] at v1
                          have HE := Lib.hid (show (srpP ts ss js).lows D r (u + 1) = (srpP ts ss js).lows D r u by
                            rw [HSU.out, if_neg (by
                              rintro ⟨-, h⟩
                              obtain ⟨k, hk, -⟩ := HLA.out.1 h
                              rw [hrun] at hk
                              simp at hk), Nat.add_zero])
                          obtain ⟨C, hC⟩ : ∃ C, C = (srpP ts ss js).lows D r u := ⟨_, rfl⟩
                          rw [← hC] at hlt120 HE ⊢
                          clear hv hrun hC HLA HSU
                          go_wp2
                          go_quiet (fail)
                          go_wp2
                          go_roundg (gk - 1)
                          case measure => have := HU.out; omega
                          case rel => exact ⟨u + 1, l2 + nq, by have := HU.out; omega, by omega, by rw [HE.out], by go_num, by first | rfl | (rw [World.drewN_drewN]) | simp⟩
                        | some b =>
                          have hv : srpF ts ss js u = b := by unfold srpF; rw [hrun]; rfl
                          rw [hv] at v1
                          obtain ⟨hbn, -, -⟩ := (srpP ts ss js).fair u b hrun
                          have hbn : b < js.length := hbn
                          obtain ⟨bj', oj', ej, -, -, -, y2, -⟩ := RJ6.out b hbn
                          simp only [Option.some.injEq, Addr.mk.injEq, and_true] at ej
                          obtain ⟨rfl, rfl⟩ := ej
                          rw [(leg_nat HLEG.out hbn).2.2.2.2.2.2.2.1] at y2
                          have hb0 : (0 : Int) ≤ b := by omega
                          have hb1 : (b : Int) < js.length := by omega
                          by_cases hlo : D < jdl js b
                          · have HE := Lib.hid (show (srpP ts ss js).lows D r (u + 1) = (srpP ts ss js).lows D r u + 1 by
                              rw [HSU.out, if_pos ⟨by omega, HLA.out.2 ⟨b, hrun, hlo⟩⟩])
                            obtain ⟨Q, hQ⟩ : ∃ Q, Q = jdl js b := ⟨_, rfl⟩
                            obtain ⟨C, hC⟩ : ∃ C, C = (srpP ts ss js).lows D r u := ⟨_, rfl⟩
                            rw [← hQ] at y2 hlo
                            rw [← hC] at hlt120 HE ⊢
                            have hq1 : decide (D < Q) = true := decide_eq_true hlo
                            clear hv hrun hC hQ HLA HSU hlo hbn
                            go_wp2
                            go_quiet (fail)
                            go_wp2
                            go_roundg (gk - 1)
                            case measure => have := HU.out; omega
                            case rel => exact ⟨u + 1, l2 + nq, by have := HU.out; omega, by omega, by rw [HE.out]; go_num, by go_num, by first | rfl | (rw [World.drewN_drewN]) | simp⟩
                          · have HE := Lib.hid (show (srpP ts ss js).lows D r (u + 1) = (srpP ts ss js).lows D r u by
                              rw [HSU.out, if_neg (by
                                rintro ⟨-, h⟩
                                obtain ⟨k, hk, hk2⟩ := HLA.out.1 h
                                rw [hrun] at hk
                                obtain rfl : b = k := by simpa using hk
                                exact hlo hk2), Nat.add_zero])
                            obtain ⟨Q, hQ⟩ : ∃ Q, Q = jdl js b := ⟨_, rfl⟩
                            obtain ⟨C, hC⟩ : ∃ C, C = (srpP ts ss js).lows D r u := ⟨_, rfl⟩
                            rw [← hQ] at y2 hlo
                            rw [← hC] at hlt120 HE ⊢
                            have hq1 : decide (D < Q) = false := decide_eq_false hlo
                            clear hv hrun hC hQ HLA HSU hlo hbn
                            go_wp2
                            go_quiet (fail)
                            go_wp2
                            go_roundg (gk - 1)
                            case measure => have := HU.out; omega
                            case rel => exact ⟨u + 1, l2 + nq, by have := HU.out; omega, by omega, by rw [HE.out], by go_num, by first | rfl | (rw [World.drewN_drewN]) | simp⟩
                      · obtain rfl : u = f + 1 := by omega
                        have hlo := HLOW.out
                        obtain ⟨C, hC⟩ : ∃ C, C = (srpP ts ss js).lows D r (f + 1) := ⟨_, rfl⟩
                        rw [← hC] at hlt120 hlo ⊢
                        have hcm : ¬ (M1 : Int) < C := by omega
                        clear hC HSU HLOW
                        go_wp2
                        go_roundg (GG - 1)
                        case measure => have := HQ.out; have := HGG.out; omega
                        case rel => exact ⟨i + 1, l2, by have := HQ.out; have := HGG.out; omega, by go_num, rfl⟩
                · obtain rfl : i = js.length := by omega
                  go_wp2
                  go_ret
                  exact ⟨rfl, below_drewN' B6 _⟩
        · have he' : rfB ts ss = false := by simpa using he
          rw [he']
          go_wp2_with fail
          refine (alive_any _).mono ?_
          rintro e w8 ⟨rfl, b8⟩
          go_wp2
          go_ret
          exact ⟨rfl, B6.trans (b8.mono B6.size)⟩
      · have hl0 : LR = 0 := by rw [HLR.out, lenRR, if_neg hok]
        clear hok
        subst hl0
        go_wp2_with fail
        refine (alive_any _).mono ?_
        rintro e w6 ⟨rfl, b6⟩
        go_wp2
        go_ret
        exact ⟨rfl, B5.trans (b6.mono B5.size)⟩
    exact AllReadyH.nil
  exact AllReadyH.nil

end Go.Proofs.Ytlagghoohloklaa
