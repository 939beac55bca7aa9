/- The walk of laws.FnRunEdfPast, for whatever code. Condition: the argument is a slice of bytes. -/
import Derived.Test.YtlkibehieekceaaEdfImpl
import Derived.Test.YtlkibehieekceaaDrawEdf
import Derived.Test.YtlkibehieekceaaSame
namespace Go.Proofs.Ytlkibehieekceaa
open Go.RowKit Go.Deep

theorem RowJ.take {w : World} {a : Option Addr} {js : List J4} (h : RowJ w a js) (n : Nat) : RowJ w a (js.take n) := by
  intro k hk
  have h1 : k < js.length := by rw [List.length_take] at hk; omega
  have h2 : k < n := by rw [List.length_take] at hk; omega
  rw [jb_take h2]
  exact h k h1
theorem past_at {ts : List T3} {js : List J4} (h : legB ts js = true) {n t : Nat} (hn : n < js.length) (ht : t < jrel js n) : runF (js.take n) t = runF js t := by
  simp only [runF]
  rw [edf_past h hn ht]
set_option maxRecDepth 100000 in
set_option maxHeartbeats 8000000 in
/-- laws.FnRunEdfPast. -/
theorem fnRunEdfPast_walk (a : Option Addr) (len cap : Nat) (w : World) (hb : Byts w a len cap) :
    Calls Try.prog 6 #[.slice a len cap] w fun e w' => e = .returned (.bool true) ∧ Below w.heap.size w w' := by
  have hm : cap ≤ maxLen := hb.2.2
  have hlc : len ≤ cap := hb.2.1
  unfold maxLen at hm
  have HB := Lib.hid hb
  clear hb
  by_cases hl : 1048576 < len
  · have hl' : (1048576 : Int) < len := by omega
    go_enter Try.func6, Try.ntmps6
    go_wp2
    go_ret
    exact ⟨rfl, Below.refl _ _⟩
  have hl' : ¬ (1048576 : Int) < len := by omega
  go_enter Try.func6, Try.ntmps6
  go_wp2_with fail
  refine (drawRunEdf_any _ _ _ _ HB.out).mono ?_
  rintro e w1 ⟨g, cap1, jcap, ja, ts, js, rfl, hn, hlc1, hcm1, hjn, hr1, hoj, b1⟩
  have R1 := Lib.hid hr1
  have OJ1 := Lib.hid hoj
  have RJ1 := Lib.hid hoj.rowJ
  clear hr1 hoj HB
  go_wp2_with fail
  refine (runEdf_any _ _ _ _ ts js _ R1.out RJ1.out (by omega) (by omega)).mono ?_
  rintro e w2 ⟨⟨vr, vf, rfl, o1, o2, ap⟩, b2⟩
  obtain ⟨ra, rc, rfl⟩ := own_shape o1
  obtain ⟨fa, fc, rfl⟩ := own_shape o2
  have B2 : Below w.heap.size w w2 := b1.trans (b2.mono b1.size)
  have hs1 := b1.size
  have hs2 := b2.size
  obtain ⟨LR, hLR⟩ : ∃ LR, LR = lenR ts js := ⟨_, rfl⟩
  obtain ⟨LF, hLF⟩ : ∃ LF, LF = lenF ts js := ⟨_, rfl⟩
  rw [← hLR] at o1
  rw [← hLF] at o2
  have hlr : LR ≤ 120 := by rw [hLR, lenR]; split <;> omega
  have hlf : LF ≤ 61 := by rw [hLF, lenF]; split <;> omega
  have HLR := Lib.hid hLR
  have HLF := Lib.hid hLF
  rw [← hLR, ← hLF]
  have O1 := Lib.hid o1
  have O2 := Lib.hid o2
  have AP := Lib.hid ap
  clear hLR hLF o1 o2 ap
  go_wp2
  have X := fun o => (b2.trans ((below_box w2 o).mono hs2)).drew
  have R3 := Lib.hid fun o => R1.out.below (X o)
  have RJ3 := Lib.hid fun o => RJ1.out.below (X o)
  have P1 := Lib.hid fun o => (O1.out.alloc o).drew
  have P2 := Lib.hid fun o => (O2.out.alloc o).drew
  have BX := Lib.hid fun o => (B2.trans ((below_box w2 o).mono (Nat.le_trans hs1 hs2))).drew
  clear X
  refine wp_region_noPanic ?_
  refine wp_region_held_drew (S := fun w' => w'.cell? ⟨w2.heap.size, 0, none⟩ = some (.slice ra LR rc) ∧ w'.cell? ⟨w2.heap.size, 1, none⟩ = some (.slice fa LF fc)) (by kernel_rfl) ?_ (fun hHeld => ?_)
  · (try dsimp only)
    (first | exact ⟨by simp [go_sem], by simp [go_sem]⟩ | exact ⟨(HB4.out.cell (p := ⟨w2.heap.size, 0, none⟩) (by simp)).trans hHeld.1, (HB4.out.cell (p := ⟨w2.heap.size, 1, none⟩) (by simp)).trans hHeld.2⟩ | exact ⟨(HB5.out.cell (p := ⟨w2.heap.size, 0, none⟩) (by have := HB4.out.size; simp at this; simp; omega)).trans hHeld.1, (HB5.out.cell (p := ⟨w2.heap.size, 1, none⟩) (by have := HB4.out.size; simp at this; simp; omega)).trans hHeld.2⟩)
  refine wpAnyH_take (i := 0) (v := ?_) (toArr_get _ 0 _ rfl) (by kernel_rfl) (by kernel_rfl) (by kernel_rfl) (fun _ _ _ h => h) (Or.inl ⟨by rfl, ?_⟩) (by assumption) ?_
  rotate_left
  · (intro w hSw; (try dsimp only at hSw); go_simp; (try with_reducible rfl))
  (try simp only [Act.put, List.setIfInBounds_toArray, List.set_cons_zero, List.set_cons_succ])
  refine wpAnyH_take (i := 1) (v := ?_) (toArr_get _ 1 _ rfl) (by kernel_rfl) (by kernel_rfl) (by kernel_rfl) (fun _ _ _ h => h) (Or.inl ⟨by rfl, ?_⟩) (by assumption) ?_
  rotate_left
  · (intro w hSw; (try dsimp only at hSw); go_simp; (try with_reducible rfl))
  (try simp only [Act.put, List.setIfInBounds_toArray, List.set_cons_zero, List.set_cons_succ])
  refine wpAnyH_take (i := 2) (v := ?_) (toArr_get _ 2 _ rfl) (by kernel_rfl) (by kernel_rfl) (by kernel_rfl) (fun _ _ _ h => h) (Or.inl ⟨by rfl, ?_⟩) (by assumption) ?_
  rotate_left
  · (intro w hSw; (try dsimp only at hSw); go_simp; (try with_reducible rfl))
  (try simp only [Act.put, List.setIfInBounds_toArray, List.set_cons_zero, List.set_cons_succ])
  refine wpAnyH_ready (rs := [3]) (by kernel_rfl) (by simp) ?_
  refine AllReadyH.cons (toArr_get _ 3 _ rfl) (fun K hK => ?_) ?_
  · go_simp
    refine (specRunEdf_any _ _ _ _ ts js _ (R3.out _) (RJ3.out _) (by omega) (by omega)).mono ?_
    rintro e w4 ⟨⟨vr', vf', rfl, p1, p2, _⟩, b4⟩
    obtain ⟨ra', rc', rfl⟩ := own_shape p1
    obtain ⟨fa', fc', rfl⟩ := own_shape p2
    rw [← HLR.out] at p1
    rw [← HLF.out] at p2
    rw [← HLR.out, ← HLF.out]
    have I1 := Lib.hid (((P1.out _).below b4).intF')
    have I2 := Lib.hid (((P2.out _).below b4).intF')
    have I3 := Lib.hid p1.intF'
    have I4 := Lib.hid p2.intF'
    have HB4 := Lib.hid b4
    clear p1 p2 b4
    go_wp2_with fail
    refine hK.out _ _ ?_ (fun hHeld2 => ?_)
    · (try dsimp only)
      (first | exact ⟨by simp [go_sem], by simp [go_sem]⟩ | exact ⟨(HB4.out.cell (p := ⟨w2.heap.size, 0, none⟩) (by simp)).trans hHeld.1, (HB4.out.cell (p := ⟨w2.heap.size, 1, none⟩) (by simp)).trans hHeld.2⟩ | exact ⟨(HB5.out.cell (p := ⟨w2.heap.size, 0, none⟩) (by have := HB4.out.size; simp at this; simp; omega)).trans hHeld.1, (HB5.out.cell (p := ⟨w2.heap.size, 1, none⟩) (by have := HB4.out.size; simp at this; simp; omega)).trans hHeld.2⟩)
    clear hK K hHeld
    have hHeld := hHeld2
    clear hHeld2
    (try simp only [Act.put, List.setIfInBounds_toArray, List.set_cons_zero, List.set_cons_succ])
    refine wpAnyH_ready (rs := [4]) (by kernel_rfl) (by simp) ?_
    refine AllReadyH.cons (toArr_get _ 4 _ rfl) (fun K hK => ?_) ?_
    · go_simp
      refine (sameSchedule_same _ _ _ _ _ _ _ _ _ _ (runF js) (finF js) _ I1.out I2.out I3.out I4.out (by omega) (by omega)).mono ?_
      rintro e w5 ⟨rfl, b5⟩
      have HB5 := Lib.hid b5
      clear b5 I1 I2 I3 I4
      go_wp2_with fail
      refine hK.out _ _ ?_ (fun hHeld2 => ?_)
      · (try dsimp only)
        (first | exact ⟨by simp [go_sem], by simp [go_sem]⟩ | exact ⟨(HB4.out.cell (p := ⟨w2.heap.size, 0, none⟩) (by simp)).trans hHeld.1, (HB4.out.cell (p := ⟨w2.heap.size, 1, none⟩) (by simp)).trans hHeld.2⟩ | exact ⟨(HB5.out.cell (p := ⟨w2.heap.size, 0, none⟩) (by have := HB4.out.size; simp at this; simp; omega)).trans hHeld.1, (HB5.out.cell (p := ⟨w2.heap.size, 1, none⟩) (by have := HB4.out.size; simp at this; simp; omega)).trans hHeld.2⟩)
      clear hK K hHeld
      have hHeld := hHeld2
      clear hHeld2
      (try simp only [Act.put, List.setIfInBounds_toArray, List.set_cons_zero, List.set_cons_succ])
      refine wpAnyH_take (i := 5) (v := ?_) (toArr_get _ 5 _ rfl) (by kernel_rfl) (by kernel_rfl) (by kernel_rfl) (fun _ _ _ h => h) (Or.inl ⟨by rfl, ?_⟩) (by assumption) ?_
      rotate_left
      · (intro w hSw; (try dsimp only at hSw); go_simp; (try with_reducible rfl))
      (try simp only [Act.put, List.setIfInBounds_toArray, List.set_cons_zero, List.set_cons_succ])
      refine wpAnyH_done (by kernel_rfl) ?_ _
      refine NoPanic.normal ?_
      have B4 : Below w2.heap.size w2 w5 := ((below_box w2 _).drew.trans ((HB4.out.trans (HB5.out.mono HB4.out.size)).mono (by simp)))
      have hs4 := HB4.out.size
      have hs5 := HB5.out.size
      simp at hs4
      have B5 : Below w.heap.size w w5 := B2.trans (B4.mono (Nat.le_trans hs1 hs2))
      have O15 := Lib.hid (O1.out.below B4)
      have O25 := Lib.hid (O2.out.below B4)
      have R5 := Lib.hid (R1.out.below (b2.trans (B4.mono hs2)))
      have OJ5 := Lib.hid (OJ1.out.below (b2.trans (B4.mono hs2)))
      have RJ5 := Lib.hid OJ5.out.rowJ
      have sz5 : w2.heap.size < w5.heap.size := by omega
      obtain ⟨s0, s1⟩ := hHeld
      clear R1 RJ1 OJ1 O1 O2 R3 RJ3 P1 P2 BX HB4 HB5 B4 B2 b1 b2 hs4 hs5
      by_cases hleg : legB ts js = true
      · have hlr2 : LR = 120 := by rw [HLR.out, lenR, if_pos hleg]
        have HL := Lib.hid hleg
        subst hlr2
        clear hleg
        by_cases hj0 : js.length = 0
        · have hj0' : ((js.length : Int) == 0) = true := beq_iff_eq.2 (by omega)
          clear hj0
          go_wp2_with fail
          refine (alive_any _).mono ?_
          rintro e w8 ⟨rfl, b8⟩
          go_wp2
          go_ret
          exact ⟨rfl, B5.trans (b8.mono B5.size)⟩
        · have hj0' : ((js.length : Int) == 0) = false := beq_eq_false_iff_ne.2 (by omega)
          have hjp : 0 < js.length := by omega
          have hjp' : (0 : Int) < js.length := by omega
          obtain ⟨n, hN⟩ : ∃ n, n = len % js.length := ⟨_, rfl⟩
          have hnl : n < js.length := by rw [hN]; exact Nat.mod_lt _ hjp
          have hNi : (len : Int) % js.length = n := by rw [hN]; simp
          have hcj := OJ5.out.cap_le
          obtain ⟨gj, jc, ej, hgj, hgj2, _, ycj⟩ := OJ5.out.at hjp
          simp only [Value.slice.injEq] at ej
          obtain ⟨rfl, _, rfl⟩ := ej
          have RT := Lib.hid (RJ5.out.take n)
          have hx1 := (leg_fits HL.out).1.rel n hnl
          have hx2 := ((legB_iff.1 HL.out).2.2 n hnl).nat (sv_all (legB_iff.1 HL.out).1).1
          have x1 := ycj (n * 4 + 1) (by omega)
          rw [(fJ4 js n).2.1, hx1] at x1
          have hTl : (js.take n).length = n := by rw [List.length_take]; omega
          obtain ⟨Rn, hRn⟩ : ∃ Rn, Rn = jrel js n := ⟨_, rfl⟩
          have x1' : w5.cell? ⟨gj, n * 4 + 1, none⟩ = some (.int .i64 (Rn : Int)) := by rw [x1, hRn]; rfl
          have hRb : Rn ≤ 119 := by rw [hRn]; omega
          have HRn := Lib.hid hRn
          clear hj0 hN ycj hx1 hx2 x1 hRn
          go_wp2_with fail
          have C := runEdf_any (some ⟨g, 0, none⟩) (some ⟨gj, 0, none⟩) cap1 jcap ts (js.take n) w5 R5.out RT.out (by omega) (by omega)
          rw [hTl] at C
          refine C.mono ?_
          clear C
          rintro e w6 ⟨⟨vr6, vf6, rfl, q1, q2, _⟩, b6⟩
          have hl6 : lenR ts (js.take n) = 120 := by rw [lenR, if_pos (leg_take HL.out n)]
          rw [hl6] at q1
          obtain ⟨gr6, rc6, rfl, hgr6, hgr6', _, zr6, yr6⟩ := q1.at (by omega)
          obtain ⟨fa6, fc6, rfl⟩ := own_shape q2
          obtain ⟨gr, rc', er, hgr, hgr', _, zr, yr⟩ := O15.out.at (by omega)
          simp only [Value.slice.injEq] at er
          obtain ⟨rfl, _, rfl⟩ := er
          have hs6 := b6.size
          have m0 := (b6.cell (p := ⟨w2.heap.size, 0, none⟩) sz5).trans s0
          have m1 := (b6.cell (p := ⟨gj, n * 4 + 1, none⟩) hgj2).trans x1'
          have YR := Lib.hid fun t (ht : t < 120) => (b6.cell (p := ⟨gr, t, none⟩) hgr').trans (yr t ht)
          have YR6 := Lib.hid yr6
          have B6 : Below w.heap.size w w6 := B5.trans (b6.mono B5.size)
          have hB6 := B6.size
          have HPA := Lib.hid fun t ht => past_at HL.out (n := n) (t := t) hnl ht
          clear q1 q2 zr6 zr yr yr6 s0 s1 x1' R5 RJ5 O15 O25 B5 OJ5 RT
          go_wp2
          obtain ⟨W, hW⟩ : ∃ W, W = w6.alloc (.cells #[.slice (some ⟨gr6, 0, none⟩) 120 rc6, .slice fa6 (lenF ts (js.take n)) fc6] 28) := ⟨_, rfl⟩
          rw [← hW]
          have BW : Below w6.heap.size w6 W := by rw [hW]; exact below_box _ _
          have k0 := (BW.cell (p := ⟨w2.heap.size, 0, none⟩) (by simp; omega)).trans m0
          have k1 := (BW.cell (p := ⟨gj, n * 4 + 1, none⟩) (by simp; omega)).trans m1
          have k2 : W.cell? ⟨w6.heap.size, 0, none⟩ = some (.slice (some ⟨gr6, 0, none⟩) 120 rc6) := by rw [hW]; simp [go_sem]
          have B7 : Below w.heap.size w W := B6.trans (BW.mono hB6)
          have Y1 := Lib.hid fun t (ht : t < 120) => (BW.cell (p := ⟨gr, t, none⟩) (by simp; omega)).trans (YR.out t ht)
          have Y2 := Lib.hid fun t (ht : t < 120) => (BW.cell (p := ⟨gr6, t, none⟩) hgr6').trans (YR6.out t ht)
          have hn0 : (0 : Int) ≤ n := by omega
          have hn1 : (n : Int) < js.length := by omega
          clear hW m0 m1 YR YR6
          go_loopg [8] Rn (fun m i wr => ∃ (t l : Nat), m + t = Rn ∧ i = .int .i64 t ∧ wr = W.drewN l)
          case atStart => exact ⟨0, 0, by omega, rfl, rfl⟩
          case round =>
            obtain ⟨t, l, hk, rfl, rfl⟩ := hrel
            have HK := Lib.hid hk
            have htt : t ≤ Rn := by omega
            clear hk
            by_cases hlt : t < Rn
            · have hlt' : (t : Int) < Rn := by omega
              have v1 := Y1.out t (by omega)
              have v2 := Y2.out t (by omega)
              rw [HPA.out t (by rw [← HRn.out]; exact hlt)] at v2
              obtain ⟨x, hx⟩ : ∃ x, x = runF js t := ⟨_, rfl⟩
              rw [← hx] at v1 v2
              clear hx
              have ht0 : (0 : Int) ≤ t := by omega
              have ht1 : (t : Int) < 120 := by omega
              go_wp2
              go_quiet (fail)
              go_wp2
              go_roundg (gk - 1)
              case measure => have := HK.out; omega
              case rel => exact ⟨t + 1, l + nq, by have := HK.out; omega, by go_num, by first | rfl | rw [World.drewN_drewN]⟩
            · have hlt' : ¬ (t : Int) < Rn := by omega
              go_wp2
              go_ret
              exact ⟨rfl, below_drewN' B7 _⟩
      · have hlr2 : LR = 0 := by rw [HLR.out, lenR, if_neg hleg]
        subst hlr2
        go_wp2_with fail
        refine (alive_any _).mono ?_
        rintro e w8 ⟨rfl, b8⟩
        go_wp2
        go_ret
        exact ⟨rfl, B5.trans (b8.mono B5.size)⟩
    exact AllReadyH.nil
  exact AllReadyH.nil

end Go.Proofs.Ytlkibehieekceaa
