/- The walk of laws.FnResourcesStarted, for whatever code. Condition: the argument is a slice of bytes. -/
import Derived.Test.YtlagghoohloklaaResRunB
import Derived.Test.YtlagghoohloklaaSame
namespace Go.Proofs.Ytlagghoohloklaa
open Go.RowKit Go.Deep

set_option maxRecDepth 100000 in
set_option maxHeartbeats 8000000 in
/-- laws.FnResourcesStarted. -/
theorem fnResourcesStarted_walk (a : Option Addr) (len cap : Nat) (w : World) (hb : Byts w a len cap) :
    Calls Try.prog 5 #[.slice a len cap] w fun e w' => e = .returned (.bool true) ∧ Below w.heap.size w w' := by
  have hm : cap ≤ maxLen := hb.2.2
  have hlc : len ≤ cap := hb.2.1
  unfold maxLen at hm
  have HB := Lib.hid hb
  clear hb
  by_cases hl : 1048576 < len
  · have hl' : (1048576 : Int) < len := by omega
    go_enter Try.func5, Try.ntmps5
    go_wp2
    go_ret
    exact ⟨rfl, Below.refl _ _⟩
  have hl' : ¬ (1048576 : Int) < len := by omega
  go_enter Try.func5, Try.ntmps5
  go_wp2_with fail
  refine (drawRunResources_any _ _ _ _ HB.out).mono ?_
  rintro e w1 ⟨g, cap1, sg, scap, jcap, ja, ts, ss, js, rfl, hn, hlc1, hcm1, hsn, hst, hjn, hr1, hos, hoj, b1⟩
  have R1 := Lib.hid hr1
  have OJ1 := Lib.hid hoj
  have RJ1 := Lib.hid hoj.rowJ
  have OS1 := Lib.hid hos
  have RS1 := Lib.hid hos.row
  have STB := Lib.hid hst
  clear hr1 hoj hos hst HB
  go_wp2_with fail
  refine (runResources_any _ _ _ _ _ _ ts ss js _ R1.out RS1.out RJ1.out STB.out (by omega) (by omega) (by omega)).mono ?_
  rintro e w2 ⟨⟨vr, vf, rfl, o1, o2, ap⟩, b2⟩
  obtain ⟨ra, rc, rfl⟩ := own_shape o1
  obtain ⟨fa, fc, rfl⟩ := own_shape o2
  have B2 : Below w.heap.size w w2 := b1.trans (b2.mono b1.size)
  have hs1 := b1.size
  have hs2 := b2.size
  obtain ⟨LR, hLR⟩ : ∃ LR, LR = lenRR ts ss js := ⟨_, rfl⟩
  obtain ⟨LF, hLF⟩ : ∃ LF, LF = lenFR ts ss js := ⟨_, rfl⟩
  rw [← hLR] at o1
  rw [← hLF] at o2
  have hlr : LR ≤ 120 := by rw [hLR, lenRR]; split <;> omega
  have hlf : LF ≤ 61 := by rw [hLF, lenFR]; split <;> omega
  have HLR := Lib.hid hLR
  have HLF := Lib.hid hLF
  rw [← hLR, ← hLF]
  have O1 := Lib.hid o1
  have O2 := Lib.hid o2
  have AP := Lib.hid ap
  clear hLR hLF o1 o2 ap
  go_wp2
  have X := fun o => (b2.trans ((below_box w2 o).mono hs2)).drew
  have R3 := Lib.hid fun o => R1.out.below (X o)
  have RJ3 := Lib.hid fun o => RJ1.out.below (X o)
  have RS3 := Lib.hid fun o => RS1.out.below (X o)
  have P1 := Lib.hid fun o => (O1.out.alloc o).drew
  have P2 := Lib.hid fun o => (O2.out.alloc o).drew
  have BX := Lib.hid fun o => (B2.trans ((below_box w2 o).mono (Nat.le_trans hs1 hs2))).drew
  clear X
  refine wp_region_noPanic ?_
  refine wp_region_held_drew (S := fun w' => w'.cell? ⟨w2.heap.size, 0, none⟩ = some (.slice ra LR rc) ∧ w'.cell? ⟨w2.heap.size, 1, none⟩ = some (.slice fa LF fc)) (by kernel_rfl) ?_ (fun hHeld => ?_)
  · (try dsimp only)
    (first | exact ⟨by simp [go_sem], by simp [go_sem]⟩ | exact ⟨(HB4.out.cell (p := ⟨w2.heap.size, 0, none⟩) (by simp)).trans hHeld.1, (HB4.out.cell (p := ⟨w2.heap.size, 1, none⟩) (by simp)).trans hHeld.2⟩ | exact ⟨(HB5.out.cell (p := ⟨w2.heap.size, 0, none⟩) (by have := HB4.out.size; simp at this; simp; omega)).trans hHeld.1, (HB5.out.cell (p := ⟨w2.heap.size, 1, none⟩) (by have := HB4.out.size; simp at this; simp; omega)).trans hHeld.2⟩)
  refine wpAnyH_take (i := 0) (v := ?_) (toArr_get _ 0 _ rfl) (by kernel_rfl) (by kernel_rfl) (by kernel_rfl) (fun _ _ _ h => h) (Or.inl ⟨by rfl, ?_⟩) (by assumption) ?_
  rotate_left
  · (intro w hSw; (try dsimp only at hSw); go_simp; (try with_reducible rfl))
  (try simp only [Act.put, List.setIfInBounds_toArray, List.set_cons_zero, List.set_cons_succ])
  refine wpAnyH_take (i := 1) (v := ?_) (toArr_get _ 1 _ rfl) (by kernel_rfl) (by kernel_rfl) (by kernel_rfl) (fun _ _ _ h => h) (Or.inl ⟨by rfl, ?_⟩) (by assumption) ?_
  rotate_left
  · (intro w hSw; (try dsimp only at hSw); go_simp; (try with_reducible rfl))
  (try simp only [Act.put, List.setIfInBounds_toArray, List.set_cons_zero, List.set_cons_succ])
  refine wpAnyH_take (i := 2) (v := ?_) (toArr_get _ 2 _ rfl) (by kernel_rfl) (by kernel_rfl) (by kernel_rfl) (fun _ _ _ h => h) (Or.inl ⟨by rfl, ?_⟩) (by assumption) ?_
  rotate_left
  · (intro w hSw; (try dsimp only at hSw); go_simp; (try with_reducible rfl))
  (try simp only [Act.put, List.setIfInBounds_toArray, List.set_cons_zero, List.set_cons_succ])
  refine wpAnyH_take (i := 3) (v := ?_) (toArr_get _ 3 _ rfl) (by kernel_rfl) (by kernel_rfl) (by kernel_rfl) (fun _ _ _ h => h) (Or.inl ⟨by rfl, ?_⟩) (by assumption) ?_
  rotate_left
  · (intro w hSw; (try dsimp only at hSw); go_simp; (try with_reducible rfl))
  (try simp only [Act.put, List.setIfInBounds_toArray, List.set_cons_zero, List.set_cons_succ])
  refine wpAnyH_ready (rs := [4]) (by kernel_rfl) (by simp) ?_
  refine AllReadyH.cons (toArr_get _ 4 _ rfl) (fun K hK => ?_) ?_
  · go_simp
    refine (specRunResources_any _ _ _ _ _ _ ts ss js _ (R3.out _) (RS3.out _) (RJ3.out _) (by omega) (by omega) (by omega)).mono ?_
    rintro e w4 ⟨⟨vr', vf', rfl, p1, p2, _⟩, b4⟩
    obtain ⟨ra', rc', rfl⟩ := own_shape p1
    obtain ⟨fa', fc', rfl⟩ := own_shape p2
    rw [← HLR.out] at p1
    rw [← HLF.out] at p2
    rw [← HLR.out, ← HLF.out]
    have I1 := Lib.hid (((P1.out _).below b4).intF')
    have I2 := Lib.hid (((P2.out _).below b4).intF')
    have I3 := Lib.hid p1.intF'
    have I4 := Lib.hid p2.intF'
    have HB4 := Lib.hid b4
    clear p1 p2 b4
    go_wp2_with fail
    refine hK.out _ _ ?_ (fun hHeld2 => ?_)
    · (try dsimp only)
      (first | exact ⟨by simp [go_sem], by simp [go_sem]⟩ | exact ⟨(HB4.out.cell (p := ⟨w2.heap.size, 0, none⟩) (by simp)).trans hHeld.1, (HB4.out.cell (p := ⟨w2.heap.size, 1, none⟩) (by simp)).trans hHeld.2⟩ | exact ⟨(HB5.out.cell (p := ⟨w2.heap.size, 0, none⟩) (by have := HB4.out.size; simp at this; simp; omega)).trans hHeld.1, (HB5.out.cell (p := ⟨w2.heap.size, 1, none⟩) (by have := HB4.out.size; simp at this; simp; omega)).trans hHeld.2⟩)
    clear hK K hHeld
    have hHeld := hHeld2
    clear hHeld2
    (try simp only [Act.put, List.setIfInBounds_toArray, List.set_cons_zero, List.set_cons_succ])
    refine wpAnyH_ready (rs := [5]) (by kernel_rfl) (by simp) ?_
    refine AllReadyH.cons (toArr_get _ 5 _ rfl) (fun K hK => ?_) ?_
    · go_simp
      refine (sameSchedule_same _ _ _ _ _ _ _ _ _ _ (srpF ts ss js) (srpFin ts ss js) _ I1.out I2.out I3.out I4.out (by omega) (by omega)).mono ?_
      rintro e w5 ⟨rfl, b5⟩
      have HB5 := Lib.hid b5
      clear b5 I1 I2 I3 I4
      go_wp2_with fail
      refine hK.out _ _ ?_ (fun hHeld2 => ?_)
      · (try dsimp only)
        (first | exact ⟨by simp [go_sem], by simp [go_sem]⟩ | exact ⟨(HB4.out.cell (p := ⟨w2.heap.size, 0, none⟩) (by simp)).trans hHeld.1, (HB4.out.cell (p := ⟨w2.heap.size, 1, none⟩) (by simp)).trans hHeld.2⟩ | exact ⟨(HB5.out.cell (p := ⟨w2.heap.size, 0, none⟩) (by have := HB4.out.size; simp at this; simp; omega)).trans hHeld.1, (HB5.out.cell (p := ⟨w2.heap.size, 1, none⟩) (by have := HB4.out.size; simp at this; simp; omega)).trans hHeld.2⟩)
      clear hK K hHeld
      have hHeld := hHeld2
      clear hHeld2
      (try simp only [Act.put, List.setIfInBounds_toArray, List.set_cons_zero, List.set_cons_succ])
      refine wpAnyH_take (i := 6) (v := ?_) (toArr_get _ 6 _ rfl) (by kernel_rfl) (by kernel_rfl) (by kernel_rfl) (fun _ _ _ h => h) (Or.inl ⟨by rfl, ?_⟩) (by assumption) ?_
      rotate_left
      · (intro w hSw; (try dsimp only at hSw); go_simp; (try with_reducible rfl))
      (try simp only [Act.put, List.setIfInBounds_toArray, List.set_cons_zero, List.set_cons_succ])
      refine wpAnyH_done (by kernel_rfl) ?_ _
      refine NoPanic.normal ?_
      have B4 : Below w2.heap.size w2 w5 := ((below_box w2 _).drew.trans ((HB4.out.trans (HB5.out.mono HB4.out.size)).mono (by simp)))
      have hs4 := HB4.out.size
      have hs5 := HB5.out.size
      simp at hs4
      have B5 : Below w.heap.size w w5 := B2.trans (B4.mono (Nat.le_trans hs1 hs2))
      have O15 := Lib.hid (O1.out.below B4)
      have O25 := Lib.hid (O2.out.below B4)
      have R5 := Lib.hid (R1.out.below (b2.trans (B4.mono hs2)))
      have RS5 := Lib.hid (RS1.out.below (b2.trans (B4.mono hs2)))
      have OJ5 := Lib.hid (OJ1.out.below (b2.trans (B4.mono hs2)))
      have RJ5 := Lib.hid OJ5.out.rowJ
      have sz5 : w2.heap.size < w5.heap.size := by omega
      obtain ⟨s0, s1⟩ := hHeld
      clear R1 RJ1 RS1 OS1 OJ1 O1 O2 R3 RJ3 RS3 P1 P2 BX HB4 HB5 B4 B2 b1 b2 hs4 hs5
      by_cases hok : okR ts ss js = true
      · have HOK := Lib.hid hok
        have hlf2 : LF = js.length := by rw [HLF.out, lenFR, if_pos hok]
        have hlr2 : LR = 120 := by rw [HLR.out, lenRR, if_pos hok]
        have HLEG := Lib.hid (okR_iff.1 hok).2
        have HSO := Lib.hid (srp_ok hok)
        have h60 := (legB_iff.1 (okR_iff.1 hok).2).2.1
        clear hok HLR HLF
        subst hlf2
        subst hlr2
        have hmk := run_make_ints js.length (by omega)
        obtain ⟨gr, rfl⟩ := own_some' O15.out (by omega)
        have PD := Lib.hid ((PS.start w5).addN (below_box w5 (.cells (madeCells #[.int .i64 0] js.length) 3)) (made_own w5 js.length (dnF (srpP ts ss js).gen 0) (by unfold maxLen; omega) (fun k _ => by unfold dnF; rw [show (srpP ts ss js).gen.left 0 k = (srpP ts ss js).gen.ex k from rfl, Nat.sub_self]; rfl)))
        obtain ⟨D, hD⟩ : ∃ D, D = w5.heap.size := ⟨_, rfl⟩
        have I5 := Lib.hid O15.out.intF'
        have O1b := Lib.hid (O15.out.lt gr rfl).2
        clear s1 R5 RS5 O15 O25 OJ5
        go_wp2
        rw [← hD] at PD ⊢
        have HD := Lib.hid hD
        clear hD
        go_loopg [8] 120 (fun q z wr => ∃ t : Nat, q + t = 120 ∧ z = .int .i64 t ∧ PS w5 wr [itN (.slice (some ⟨D, 0, none⟩) js.length js.length) js.length (dnF (srpP ts ss js).gen t)])
        case atStart => exact ⟨0, rfl, rfl, PD.out⟩
        case round =>
          obtain ⟨t, hq, rfl, hP⟩ := hrel
          obtain ⟨GG, hGG⟩ : ∃ GG, GG = gk := ⟨_, rfl⟩
          have HGG := Lib.hid hGG
          have HQ := Lib.hid hq
          have HP := Lib.hid hP
          have htt : t ≤ 120 := by omega
          clear hq hP PD hGG
          have t0 := (HP.out.be.cell (p := ⟨w2.heap.size, 0, none⟩) sz5).trans s0
          by_cases hlt : t < 120
          · have hlt' : (t : Int) < 120 := by omega
            have ht0 : (0 : Int) ≤ t := by omega
            obtain ⟨b', o', e', -, z0'⟩ := I5.out t hlt
            simp only [Option.some.injEq, Addr.mk.injEq, and_true] at e'
            obtain ⟨rfl, rfl⟩ := e'
            rw [Nat.zero_add] at z0'
            obtain ⟨r, hr⟩ : ∃ r, r = srpF ts ss js t := ⟨_, rfl⟩
            rw [← hr] at z0'
            have z0 := (HP.out.be.cell (p := ⟨gr, t, none⟩) (by have h1 := O1b.out; simp; omega)).trans z0'
            have HRR := Lib.hid hr
            clear z0' hr
            go_wp2
            go_loopg [10] js.length (fun q z wr2 => ∃ (i l : Nat), q + i = js.length ∧ z = .int .i64 i ∧ wr2 = wr.drewN l)
            case atStart => exact ⟨0, 0, by omega, rfl, rfl⟩
            case round =>
              obtain ⟨i, l, hi, rfl, hw⟩ := hrel
              have HI := Lib.hid hi
              have HW := Lib.hid hw
              have hii : i ≤ js.length := by omega
              subst hw
              clear hi
              by_cases hin : i < js.length
              · have hi0 : (0 : Int) ≤ i := by omega
                have hi1 : (i : Int) < js.length := by omega
                have hnat := leg_nat HLEG.out hin
                have d0 := (HP.out.atN (j := 0) (k := i) rfl hin).1
                obtain ⟨bj, oj, rfl, hbj, -, -, x2, x3⟩ := (RJ5.out.below HP.out.be) i hin
                rw [hnat.2.2.2.2.2.2.2.1] at x2
                rw [hnat.2.2.2.2.2.2.2.2] at x3
                have hle := (srpP ts ss js).gen.left_ex t i
                have hx : (srpP ts ss js).gen.ex i = jex js i := rfl
                have hd : dnF (srpP ts ss js).gen t i = ((jex js i - (srpP ts ss js).gen.left t i : Nat) : Int) := rfl
                rw [hd] at d0
                rw [hx] at hle
                have HST := Lib.hid (fun (h1 : (srpP ts ss js).gen.left t i < jex js i) (h2 : 0 < (srpP ts ss js).gen.left t i) => Srp.started HSO.out (t := t) (i := i) h1 h2)
                have hx1 := hnat.2.2.1
                obtain ⟨X, hX⟩ : ∃ X, X = jex js i := ⟨_, rfl⟩
                obtain ⟨L, hL⟩ : ∃ L, L = (srpP ts ss js).gen.left t i := ⟨_, rfl⟩
                obtain ⟨N, hN⟩ : ∃ N, N = X - L := ⟨_, rfl⟩
                rw [← hX] at x3 d0 hle hx1 HST
                rw [← hL] at d0 hle HST
                rw [← hN] at d0
                clear hnat hd hx
                by_cases hA : L = X
                · have hN0 : N = 0 := by omega
                  rw [hN0] at d0
                  clear hX hL hN hN0 hA HST
                  go_wp2
                  go_quiet (fail)
                  go_wp2
                  go_roundg (gk - 1)
                  case measure => have := HI.out; omega
                  case rel => exact ⟨i + 1, l + nq, by have := HI.out; omega, by go_num, by first | rfl | (rw [World.drewN_drewN]) | simp⟩
                · by_cases hB : L = 0
                  · have hNX : N = X := by omega
                    rw [hNX] at d0
                    have hq1 : (0 : Int) < X := by omega
                    have hq2 : decide (X < X) = false := decide_eq_false (by omega)
                    have hq3 : decide (0 < X) = true := decide_eq_true (by omega)
                    clear hX hL hN hNX hA hB HST
                    go_wp2
                    go_quiet (fail)
                    go_wp2
                    go_roundg (gk - 1)
                    case measure => have := HI.out; omega
                    case rel => exact ⟨i + 1, l + nq, by have := HI.out; omega, by go_num, by first | rfl | (rw [World.drewN_drewN]) | simp⟩
                  · obtain ⟨k, hk1, hk2, hk3⟩ := HST.out (by omega) (by omega)
                    have hk2 : k < js.length := hk2
                    have hrk : r = (k : Int) := by rw [HRR.out]; unfold srpF; rw [hk1]; rfl
                    have hkey : jdl js k ≤ jdl js i := by
                      have h : jdl js k < jdl js i ∨ (jdl js k = jdl js i ∧ k ≤ i) := hk3
                      omega
                    obtain ⟨bj', oj', e2, -, -, -, y2, -⟩ := (RJ5.out.below HP.out.be) k hk2
                    simp only [Option.some.injEq, Addr.mk.injEq, and_true] at e2
                    obtain ⟨rfl, rfl⟩ := e2
                    rw [(leg_nat HLEG.out hk2).2.2.2.2.2.2.2.1] at y2
                    obtain ⟨P, hP1⟩ : ∃ P, P = jdl js i := ⟨_, rfl⟩
                    obtain ⟨Q, hQ1⟩ : ∃ Q, Q = jdl js k := ⟨_, rfl⟩
                    rw [← hP1] at x2 hkey
                    rw [← hQ1] at y2 hkey
                    have hq1 : (0 : Int) < N := by omega
                    have hq2 : (N : Int) < X := by omega
                    have hq3 : decide (0 < N) = true := decide_eq_true (by omega)
                    have hq4 : decide (N < X) = true := decide_eq_true (by omega)
                    have hq5 : decide (P < Q) = false := decide_eq_false (by omega)
                    have hq6 : decide ((k : Int) < 0) = false := decide_eq_false (by omega)
                    have hk0 : (0 : Int) ≤ k := by omega
                    have hk1' : (k : Int) < js.length := by omega
                    subst hrk
                    clear hX hL hN hA hB HST hP1 hQ1 hk1 hk3 hkey
                    go_wp2
                    go_quiet (fail)
                    go_wp2
                    go_roundg (gk - 1)
                    case measure => have := HI.out; omega
                    case rel => exact ⟨i + 1, l + nq, by have := HI.out; omega, by go_num, by first | rfl | (rw [World.drewN_drewN]) | simp⟩
              · obtain rfl : i = js.length := by omega
                clear HI
                have HP2 := Lib.hid (HP.out.below (below_drewN wr l))
                cases hrun : (srpP ts ss js).gen.run t with
                | none =>
                  have hrk : r = -1 := by rw [HRR.out]; unfold srpF; rw [hrun]; rfl
                  have HP3 := Lib.hid (HP2.out.congrN (j := 0) (f' := dnF (srpP ts ss js).gen (t + 1)) rfl (fun i _ => by unfold dnF; rw [Gen.left_succ, if_neg (by rw [hrun]; simp)]))
                  rw [hrk]
                  clear hrun hrk HRR
                  go_wp2
                  go_roundg (GG - 1)
                  case measure => have := HQ.out; have := HGG.out; omega
                  case rel => exact ⟨t + 1, by have := HQ.out; have := HGG.out; omega, by go_num, HP3.out⟩
                | some k =>
                  obtain ⟨kn, krel, kl⟩ := (srpP ts ss js).fair t k hrun
                  have kn : k < js.length := kn
                  have hle := (srpP ts ss js).gen.left_ex t k
                  have hrk : r = (k : Int) := by rw [HRR.out]; unfold srpF; rw [hrun]; rfl
                  have HDN := Lib.hid (show ∀ i, i < js.length → (if i = k then (dnF (srpP ts ss js).gen t k + 1 : Int) else dnF (srpP ts ss js).gen t i) = dnF (srpP ts ss js).gen (t + 1) i from fun i _ => by
                    by_cases e : i = k
                    · subst e; rw [if_pos rfl]; unfold dnF; rw [Gen.left_succ, if_pos hrun]; omega
                    · rw [if_neg e]; unfold dnF; rw [Gen.left_succ, if_neg (by rw [hrun]; simpa using fun h => e h.symm)])
                  obtain ⟨d0, d1, d2, -⟩ := HP.out.atN (j := 0) (k := k) rfl kn
                  have hd : dnF (srpP ts ss js).gen t k = (((srpP ts ss js).gen.ex k - (srpP ts ss js).gen.left t k : Nat) : Int) := rfl
                  have hex8 : (srpP ts ss js).gen.ex k ≤ 8 := by have h1 := leg_nat HLEG.out kn; have := tv_bd (tk_sv (legB_iff.1 HLEG.out).1 h1.1); show jex js k ≤ 8; omega
                  rw [hd] at d0 HDN
                  obtain ⟨N, hN⟩ : ∃ N, N = (srpP ts ss js).gen.ex k - (srpP ts ss js).gen.left t k := ⟨_, rfl⟩
                  rw [← hN] at d0 HDN
                  have hN8 : N ≤ 8 := by omega
                  have HP3 := Lib.hid (HP2.out.setN (j := 0) (x := (N : Int) + 1) (f' := dnF (srpP ts ss js).gen (t + 1)) rfl kn HDN.out)
                  have hk0 : (0 : Int) ≤ k := by omega
                  have hk1 : (k : Int) < js.length := by omega
                  rw [hrk]
                  clear hrun hrk HRR HDN hd hN krel kl hle
                  go_wp2
                  go_roundg (GG - 1)
                  case measure => have := HQ.out; have := HGG.out; omega
                  case rel => exact ⟨t + 1, by have := HQ.out; have := HGG.out; omega, by go_num, HP3.out⟩
          · obtain rfl : t = 120 := by omega
            go_wp2
            go_ret
            exact ⟨rfl, B5.trans (HP.out.be.mono B5.size)⟩
      · have hl0 : LR = 0 := by rw [HLR.out, lenRR, if_neg hok]
        clear hok
        subst hl0
        go_wp2_with fail
        refine (alive_any _).mono ?_
        rintro e w6 ⟨rfl, b6⟩
        go_wp2
        go_ret
        exact ⟨rfl, B5.trans (b6.mono B5.size)⟩
    exact AllReadyH.nil
  exact AllReadyH.nil

end Go.Proofs.Ytlagghoohloklaa
