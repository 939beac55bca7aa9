/- The walk of laws.FnResourcesDone, for whatever code. Condition: the argument is a slice of bytes. -/
import Derived.Test.YtlagghoohloklaaResRunB
import Derived.Test.YtlagghoohloklaaSame
namespace Go.Proofs.Ytlagghoohloklaa
open Go.RowKit Go.Deep

theorem optI_eqR {o : Option Nat} {k : Nat} : optI o = (k : Int) ↔ o = some k := by
  cases o with
  | none => simp [optI]
  | some b => simp [optI]; omega
theorem tick_countR (ts ss : List T3) (js : List J4) (k : Nat) : sumN (fun t => if srpF ts ss js t = (k : Int) then 1 else 0) 120 + (srpP ts ss js).gen.left 120 k = jex js k := by
  have h : sumN (fun t => if srpF ts ss js t = (k : Int) then 1 else 0) 120 = (srpP ts ss js).gen.ran k 120 := by
    refine sumN_eq fun t _ => ?_
    simp only [srpF, optI_eqR]
  rw [h]
  exact (srpP ts ss js).gen.ran_left (srpP ts ss js).fair k 120
theorem job_endR {ts ss : List T3} {js : List J4} (hl : legB ts js = true) {k n : Nat} (hk : k < js.length) (hn : n = sumN (fun t => if srpF ts ss js t = (k : Int) then 1 else 0) 120) :
    (srpFin ts ss js k = -1 ∧ n < jex js k) ∨ ∃ f : Nat, srpFin ts ss js k = (f : Int) + 1 ∧ f < 120 ∧ n = jex js k ∧ srpF ts ss js f = k := by
  have hx := (leg_nat hl hk).2.2.1
  have hc := tick_countR ts ss js k
  rw [← hn] at hc
  by_cases h0 : 0 < (srpP ts ss js).gen.left 120 k
  · exact .inl ⟨(srpP ts ss js).gen.fin_open h0, by omega⟩
  · obtain ⟨f, hf, hf1, hf2, _⟩ := (srpP ts ss js).gen.fin_done (srpP ts ss js).fair (t := 120) (i := k) (show 0 < jex js k by omega) (by omega)
    exact .inr ⟨f, hf, hf1, by omega, by unfold srpF; exact optI_eqR.2 hf2⟩
set_option maxRecDepth 100000 in
set_option maxHeartbeats 8000000 in
/-- laws.FnResourcesDone. -/
theorem fnResourcesDone_walk (a : Option Addr) (len cap : Nat) (w : World) (hb : Byts w a len cap) :
    Calls Try.prog 8 #[.slice a len cap] w fun e w' => e = .returned (.bool true) ∧ Below w.heap.size w w' := by
  have hm : cap ≤ maxLen := hb.2.2
  have hlc : len ≤ cap := hb.2.1
  unfold maxLen at hm
  have HB := Lib.hid hb
  clear hb
  by_cases hl : 1048576 < len
  · have hl' : (1048576 : Int) < len := by omega
    go_enter Try.func8, Try.ntmps8
    go_wp2
    go_ret
    exact ⟨rfl, Below.refl _ _⟩
  have hl' : ¬ (1048576 : Int) < len := by omega
  go_enter Try.func8, Try.ntmps8
  go_wp2_with fail
  refine (drawRunResources_any _ _ _ _ HB.out).mono ?_
  rintro e w1 ⟨g, cap1, sg, scap, jcap, ja, ts, ss, js, rfl, hn, hlc1, hcm1, hsn, hst, hjn, hr1, hos, hoj, b1⟩
  have R1 := Lib.hid hr1
  have OJ1 := Lib.hid hoj
  have RJ1 := Lib.hid hoj.rowJ
  have OS1 := Lib.hid hos
  have RS1 := Lib.hid hos.row
  have STB := Lib.hid hst
  clear hr1 hoj hos hst HB
  go_wp2_with fail
  refine (runResources_any _ _ _ _ _ _ ts ss js _ R1.out RS1.out RJ1.out STB.out (by omega) (by omega) (by omega)).mono ?_
  rintro e w2 ⟨⟨vr, vf, rfl, o1, o2, ap⟩, b2⟩
  obtain ⟨ra, rc, rfl⟩ := own_shape o1
  obtain ⟨fa, fc, rfl⟩ := own_shape o2
  have B2 : Below w.heap.size w w2 := b1.trans (b2.mono b1.size)
  have hs1 := b1.size
  have hs2 := b2.size
  obtain ⟨LR, hLR⟩ : ∃ LR, LR = lenRR ts ss js := ⟨_, rfl⟩
  obtain ⟨LF, hLF⟩ : ∃ LF, LF = lenFR ts ss js := ⟨_, rfl⟩
  rw [← hLR] at o1
  rw [← hLF] at o2
  have hlr : LR ≤ 120 := by rw [hLR, lenRR]; split <;> omega
  have hlf : LF ≤ 61 := by rw [hLF, lenFR]; split <;> omega
  have HLR := Lib.hid hLR
  have HLF := Lib.hid hLF
  rw [← hLR, ← hLF]
  have O1 := Lib.hid o1
  have O2 := Lib.hid o2
  have AP := Lib.hid ap
  clear hLR hLF o1 o2 ap
  go_wp2
  have X := fun o => (b2.trans ((below_box w2 o).mono hs2)).drew
  have R3 := Lib.hid fun o => R1.out.below (X o)
  have RJ3 := Lib.hid fun o => RJ1.out.below (X o)
  have RS3 := Lib.hid fun o => RS1.out.below (X o)
  have P1 := Lib.hid fun o => (O1.out.alloc o).drew
  have P2 := Lib.hid fun o => (O2.out.alloc o).drew
  have BX := Lib.hid fun o => (B2.trans ((below_box w2 o).mono (Nat.le_trans hs1 hs2))).drew
  clear X
  refine wp_region_noPanic ?_
  refine wp_region_held_drew (S := fun w' => w'.cell? ⟨w2.heap.size, 0, none⟩ = some (.slice ra LR rc) ∧ w'.cell? ⟨w2.heap.size, 1, none⟩ = some (.slice fa LF fc)) (by kernel_rfl) ?_ (fun hHeld => ?_)
  · (try dsimp only)
    (first | exact ⟨by simp [go_sem], by simp [go_sem]⟩ | exact ⟨(HB4.out.cell (p := ⟨w2.heap.size, 0, none⟩) (by simp)).trans hHeld.1, (HB4.out.cell (p := ⟨w2.heap.size, 1, none⟩) (by simp)).trans hHeld.2⟩ | exact ⟨(HB5.out.cell (p := ⟨w2.heap.size, 0, none⟩) (by have := HB4.out.size; simp at this; simp; omega)).trans hHeld.1, (HB5.out.cell (p := ⟨w2.heap.size, 1, none⟩) (by have := HB4.out.size; simp at this; simp; omega)).trans hHeld.2⟩)
  refine wpAnyH_take (i := 0) (v := ?_) (toArr_get _ 0 _ rfl) (by kernel_rfl) (by kernel_rfl) (by kernel_rfl) (fun _ _ _ h => h) (Or.inl ⟨by rfl, ?_⟩) (by assumption) ?_
  rotate_left
  · (intro w hSw; (try dsimp only at hSw); go_simp; (try with_reducible rfl))
  (try simp only [Act.put, List.setIfInBounds_toArray, List.set_cons_zero, List.set_cons_succ])
  refine wpAnyH_take (i := 1) (v := ?_) (toArr_get _ 1 _ rfl) (by kernel_rfl) (by kernel_rfl) (by kernel_rfl) (fun _ _ _ h => h) (Or.inl ⟨by rfl, ?_⟩) (by assumption) ?_
  rotate_left
  · (intro w hSw; (try dsimp only at hSw); go_simp; (try with_reducible rfl))
  (try simp only [Act.put, List.setIfInBounds_toArray, List.set_cons_zero, List.set_cons_succ])
  refine wpAnyH_take (i := 2) (v := ?_) (toArr_get _ 2 _ rfl) (by kernel_rfl) (by kernel_rfl) (by kernel_rfl) (fun _ _ _ h => h) (Or.inl ⟨by rfl, ?_⟩) (by assumption) ?_
  rotate_left
  · (intro w hSw; (try dsimp only at hSw); go_simp; (try with_reducible rfl))
  (try simp only [Act.put, List.setIfInBounds_toArray, List.set_cons_zero, List.set_cons_succ])
  refine wpAnyH_take (i := 3) (v := ?_) (toArr_get _ 3 _ rfl) (by kernel_rfl) (by kernel_rfl) (by kernel_rfl) (fun _ _ _ h => h) (Or.inl ⟨by rfl, ?_⟩) (by assumption) ?_
  rotate_left
  · (intro w hSw; (try dsimp only at hSw); go_simp; (try with_reducible rfl))
  (try simp only [Act.put, List.setIfInBounds_toArray, List.set_cons_zero, List.set_cons_succ])
  refine wpAnyH_ready (rs := [4]) (by kernel_rfl) (by simp) ?_
  refine AllReadyH.cons (toArr_get _ 4 _ rfl) (fun K hK => ?_) ?_
  · go_simp
    refine (specRunResources_any _ _ _ _ _ _ ts ss js _ (R3.out _) (RS3.out _) (RJ3.out _) (by omega) (by omega) (by omega)).mono ?_
    rintro e w4 ⟨⟨vr', vf', rfl, p1, p2, _⟩, b4⟩
    obtain ⟨ra', rc', rfl⟩ := own_shape p1
    obtain ⟨fa', fc', rfl⟩ := own_shape p2
    rw [← HLR.out] at p1
    rw [← HLF.out] at p2
    rw [← HLR.out, ← HLF.out]
    have I1 := Lib.hid (((P1.out _).below b4).intF')
    have I2 := Lib.hid (((P2.out _).below b4).intF')
    have I3 := Lib.hid p1.intF'
    have I4 := Lib.hid p2.intF'
    have HB4 := Lib.hid b4
    clear p1 p2 b4
    go_wp2_with fail
    refine hK.out _ _ ?_ (fun hHeld2 => ?_)
    · (try dsimp only)
      (first | exact ⟨by simp [go_sem], by simp [go_sem]⟩ | exact ⟨(HB4.out.cell (p := ⟨w2.heap.size, 0, none⟩) (by simp)).trans hHeld.1, (HB4.out.cell (p := ⟨w2.heap.size, 1, none⟩) (by simp)).trans hHeld.2⟩ | exact ⟨(HB5.out.cell (p := ⟨w2.heap.size, 0, none⟩) (by have := HB4.out.size; simp at this; simp; omega)).trans hHeld.1, (HB5.out.cell (p := ⟨w2.heap.size, 1, none⟩) (by have := HB4.out.size; simp at this; simp; omega)).trans hHeld.2⟩)
    clear hK K hHeld
    have hHeld := hHeld2
    clear hHeld2
    (try simp only [Act.put, List.setIfInBounds_toArray, List.set_cons_zero, List.set_cons_succ])
    refine wpAnyH_ready (rs := [5]) (by kernel_rfl) (by simp) ?_
    refine AllReadyH.cons (toArr_get _ 5 _ rfl) (fun K hK => ?_) ?_
    · go_simp
      refine (sameSchedule_same _ _ _ _ _ _ _ _ _ _ (srpF ts ss js) (srpFin ts ss js) _ I1.out I2.out I3.out I4.out (by omega) (by omega)).mono ?_
      rintro e w5 ⟨rfl, b5⟩
      have HB5 := Lib.hid b5
      clear b5 I1 I2 I3 I4
      go_wp2_with fail
      refine hK.out _ _ ?_ (fun hHeld2 => ?_)
      · (try dsimp only)
        (first | exact ⟨by simp [go_sem], by simp [go_sem]⟩ | exact ⟨(HB4.out.cell (p := ⟨w2.heap.size, 0, none⟩) (by simp)).trans hHeld.1, (HB4.out.cell (p := ⟨w2.heap.size, 1, none⟩) (by simp)).trans hHeld.2⟩ | exact ⟨(HB5.out.cell (p := ⟨w2.heap.size, 0, none⟩) (by have := HB4.out.size; simp at this; simp; omega)).trans hHeld.1, (HB5.out.cell (p := ⟨w2.heap.size, 1, none⟩) (by have := HB4.out.size; simp at this; simp; omega)).trans hHeld.2⟩)
      clear hK K hHeld
      have hHeld := hHeld2
      clear hHeld2
      (try simp only [Act.put, List.setIfInBounds_toArray, List.set_cons_zero, List.set_cons_succ])
      refine wpAnyH_take (i := 6) (v := ?_) (toArr_get _ 6 _ rfl) (by kernel_rfl) (by kernel_rfl) (by kernel_rfl) (fun _ _ _ h => h) (Or.inl ⟨by rfl, ?_⟩) (by assumption) ?_
      rotate_left
      · (intro w hSw; (try dsimp only at hSw); go_simp; (try with_reducible rfl))
      (try simp only [Act.put, List.setIfInBounds_toArray, List.set_cons_zero, List.set_cons_succ])
      refine wpAnyH_done (by kernel_rfl) ?_ _
      refine NoPanic.normal ?_
      have B4 : Below w2.heap.size w2 w5 := ((below_box w2 _).drew.trans ((HB4.out.trans (HB5.out.mono HB4.out.size)).mono (by simp)))
      have hs4 := HB4.out.size
      have hs5 := HB5.out.size
      simp at hs4
      have B5 : Below w.heap.size w w5 := B2.trans (B4.mono (Nat.le_trans hs1 hs2))
      have O15 := Lib.hid (O1.out.below B4)
      have O25 := Lib.hid (O2.out.below B4)
      have R5 := Lib.hid (R1.out.below (b2.trans (B4.mono hs2)))
      have RS5 := Lib.hid (RS1.out.below (b2.trans (B4.mono hs2)))
      have OJ5 := Lib.hid (OJ1.out.below (b2.trans (B4.mono hs2)))
      have RJ5 := Lib.hid OJ5.out.rowJ
      have sz5 : w2.heap.size < w5.heap.size := by omega
      obtain ⟨s0, s1⟩ := hHeld
      clear R1 RJ1 RS1 OS1 OJ1 O1 O2 R3 RJ3 RS3 P1 P2 BX HB4 HB5 B4 B2 b1 b2 hs4 hs5
      by_cases hok : okR ts ss js = true
      · have hlf2 : LF = js.length := by rw [HLF.out, lenFR, if_pos hok]
        have hlr2 : LR = 120 := by rw [HLR.out, lenRR, if_pos hok]
        have HLEG := Lib.hid (okR_iff.1 hok).2
        clear hok HLR HLF
        subst hlf2
        subst hlr2
        obtain ⟨gr, rfl⟩ := own_some' O15.out (by omega)
        have IR := Lib.hid O15.out.intF'
        have FF := Lib.hid O25.out.intF'
        clear R5 RS5 O15 O25 OJ5
        go_wp2
        go_loopg [7] 120 (fun m i wr => ∃ t : Nat, m + t = 120 ∧ i = .int .i64 t ∧ w5 = wr)
        case atStart => exact ⟨0, rfl, rfl, rfl⟩
        case round =>
          obtain ⟨t, hk, rfl, rfl⟩ := hrel
          have HK := Lib.hid hk
          have htt : t ≤ 120 := by omega
          clear hk
          by_cases hlt : t < 120
          · have hlt' : (t : Int) < 120 := by omega
            have ht0 : (0 : Int) ≤ t := by omega
            obtain ⟨b', o', e', -, v1⟩ := IR.out t hlt
            simp only [Option.some.injEq, Addr.mk.injEq, and_true] at e'
            obtain ⟨rfl, rfl⟩ := e'
            rw [Nat.zero_add] at v1
            cases hrun : (srpP ts ss js).gen.run t with
            | none =>
              have hv : srpF ts ss js t = -1 := by unfold srpF; rw [hrun]; rfl
              rw [hv] at v1
              clear hv hrun
              go_wp2
              go_roundg (gk - 1)
              case measure => have := HK.out; omega
              case rel => exact ⟨t + 1, by have := HK.out; omega, by go_num, rfl⟩
            | some b =>
              have hv : srpF ts ss js t = b := by unfold srpF; rw [hrun]; rfl
              rw [hv] at v1
              obtain ⟨hbn, hbr, -⟩ := (srpP ts ss js).fair t b hrun
              have hbn : b < js.length := hbn
              have hbr : jrel js b ≤ t := hbr
              obtain ⟨bj, oj, ej, -, -, x1, -, -⟩ := RJ5.out b hbn
              rw [(leg_nat HLEG.out hbn).2.2.2.2.2.2.1] at x1
              subst ej
              obtain ⟨r, hr⟩ : ∃ r, r = jrel js b := ⟨_, rfl⟩
              rw [← hr] at x1 hbr
              have hb0 : (0 : Int) ≤ b := by omega
              have hb1 : (b : Int) < js.length := by omega
              have hrt : ¬ (t : Int) < r := by omega
              clear hv hrun hr hbn hbr
              go_wp2
              go_roundg (gk - 1)
              case measure => have := HK.out; omega
              case rel => exact ⟨t + 1, by have := HK.out; omega, by go_num, rfl⟩
          · obtain rfl : t = 120 := by omega
            clear HK
            go_wp2
            go_loopg [8] js.length (fun m i wr => ∃ k l : Nat, m + k = js.length ∧ i = .int .i64 k ∧ wr = w5.drewN l)
            case atStart => exact ⟨0, 0, by omega, rfl, rfl⟩
            case round =>
              obtain ⟨k, l, hk, rfl, rfl⟩ := hrel
              have HK := Lib.hid hk
              have hkk : k ≤ js.length := by omega
              clear hk
              by_cases hkl : k < js.length
              · have hk0 : (0 : Int) ≤ k := by omega
                have hk1 : (k : Int) < js.length := by omega
                have hnat := leg_nat HLEG.out hkl
                obtain ⟨bj, oj, ej, -, -, -, -, x3⟩ := RJ5.out k hkl
                rw [hnat.2.2.2.2.2.2.2.2] at x3
                obtain ⟨bf, of, ef, -, y0⟩ := FF.out k hkl
                subst ej
                subst ef
                obtain ⟨n, hn2⟩ : ∃ n, n = sumN (fun t => if srpF ts ss js t = (k : Int) then 1 else 0) 120 := ⟨_, rfl⟩
                have CT := Lib.hid (ticks_any (some ⟨gr, 0, none⟩) rc 120 (srpF ts ss js) (k : Int) (w5.drewN l) (IR.out.below (below_drewN _ _)) (by omega))
                rw [← hn2] at CT
                have hje := job_endR HLEG.out hkl hn2
                obtain ⟨X, hX⟩ : ∃ X, X = jex js k := ⟨_, rfl⟩
                rw [← hX] at x3 hje
                clear hX hn2 hnat
                rcases hje with ⟨hf, hnx⟩ | ⟨f, hf, hf2, hnx, hrf⟩
                · rw [hf] at y0
                  clear hf
                  go_wp2_with (go_at_call 24; refine CT.out.mono ?_; rintro e w7 ⟨rfl, rfl⟩)
                  have hq1 : decide (X < n) = false := decide_eq_false (by omega)
                  have hq2 : decide (n = X) = false := decide_eq_false (by omega)
                  have hq3 : (n == X) = false := by simp; omega
                  have hq4 : ((n : Int) == (X : Int)) = false := by simp; omega
                  clear hnx
                  go_quiet (fail)
                  go_wp2
                  go_roundg (gk - 1)
                  case measure => have := HK.out; omega
                  case rel => exact ⟨k + 1, l + nq, by have := HK.out; omega, by go_num, by first | rfl | (rw [World.drewN_drewN]) | simp⟩
                · rw [hf] at y0
                  obtain ⟨b', o', e', -, v1⟩ := IR.out f hf2
                  simp only [Option.some.injEq, Addr.mk.injEq, and_true] at e'
                  obtain ⟨rfl, rfl⟩ := e'
                  rw [Nat.zero_add, hrf] at v1
                  have hf0 : (0 : Int) ≤ f := by omega
                  have hf1 : (f : Int) < 120 := by omega
                  subst hnx
                  clear hf hrf
                  go_wp2_with (go_at_call 24; refine CT.out.mono ?_; rintro e w7 ⟨rfl, rfl⟩)
                  have hq1 : decide (n < n) = false := decide_eq_false (by omega)
                  have hq2 : decide ((0 : Int) ≤ (f : Int) + 1) = true := decide_eq_true (by omega)
                  have hq3 : decide ((f : Int) + 1 < 0) = false := decide_eq_false (by omega)
                  have hwf : IntKind.i64.wrap (f : Int) = f := IntWalk.i64_in _ (by omega)
                  go_quiet (fail)
                  go_wp2
                  go_roundg (gk - 1)
                  case measure => have := HK.out; omega
                  case rel => exact ⟨k + 1, l + nq, by have := HK.out; omega, by go_num, by first | rfl | (rw [World.drewN_drewN]) | simp⟩
              · obtain rfl : k = js.length := by omega
                go_wp2
                go_ret
                exact ⟨rfl, below_drewN' B5 _⟩
      · have hl0 : LR = 0 := by rw [HLR.out, lenRR, if_neg hok]
        clear hok
        subst hl0
        go_wp2_with fail
        refine (alive_any _).mono ?_
        rintro e w6 ⟨rfl, b6⟩
        go_wp2
        go_ret
        exact ⟨rfl, B5.trans (b6.mono B5.size)⟩
    exact AllReadyH.nil
  exact AllReadyH.nil

end Go.Proofs.Ytlagghoohloklaa
