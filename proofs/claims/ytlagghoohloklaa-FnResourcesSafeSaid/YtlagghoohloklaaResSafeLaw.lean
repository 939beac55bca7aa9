/- The walk of laws.FnResourcesSafe, for whatever code. Condition: the argument is a slice of bytes. -/
import Derived.Test.YtlagghoohloklaaResRunB
import Derived.Test.YtlagghoohloklaaSame
import Derived.Test.YtlagghoohloklaaMissImpl
namespace Go.Proofs.Ytlagghoohloklaa
open Go.RowKit Go.Deep

theorem late_noneR {ts ss : List T3} {js : List J4} (hl : legB ts js = true) (he : rfB ts ss = true) : ∀ n, n ≤ js.length → lateL js (srpFin ts ss js) n = []
  | 0, _ => rfl
  | n + 1, hn => by
    have ih := late_noneR hl he n (by omega)
    have hk : n < js.length := by omega
    have hnat := leg_nat hl hk
    have hz := srp_safe he hl hk
    simp only [lateL]
    rw [if_neg, ih]
    simp only [lateB, Bool.and_eq_true, Bool.or_eq_true, decide_eq_true_eq]
    rintro ⟨hd, h2⟩
    have hdn : (jb js n).2.2.1 = (jdl js n : Nat) := hnat.2.2.2.2.2.2.2.1
    have hD : jdl js n ≤ 120 := by omega
    have h3 := ((srpP ts ss js).gen.fin_by (srpP ts ss js).fair (T := 120) (i := n) (show 0 < jex js n by omega) hD).2 hz
    simp only [srpFin] at h2
    omega
set_option maxRecDepth 100000 in
set_option maxHeartbeats 8000000 in
/-- laws.FnResourcesSafe. -/
theorem fnResourcesSafe_walk (a : Option Addr) (len cap : Nat) (w : World) (hb : Byts w a len cap) :
    Calls Try.prog 3 #[.slice a len cap] w fun e w' => e = .returned (.bool true) ∧ Below w.heap.size w w' := by
  have hm : cap ≤ maxLen := hb.2.2
  have hlc : len ≤ cap := hb.2.1
  unfold maxLen at hm
  have HB := Lib.hid hb
  clear hb
  by_cases hl : 1048576 < len
  · have hl' : (1048576 : Int) < len := by omega
    go_enter Try.func3, Try.ntmps3
    go_wp2
    go_ret
    exact ⟨rfl, Below.refl _ _⟩
  have hl' : ¬ (1048576 : Int) < len := by omega
  go_enter Try.func3, Try.ntmps3
  go_wp2_with fail
  refine (drawRunResources_any _ _ _ _ HB.out).mono ?_
  rintro e w1 ⟨g, cap1, sg, scap, jcap, ja, ts, ss, js, rfl, hn, hlc1, hcm1, hsn, hst, hjn, hr1, hos, hoj, b1⟩
  have R1 := Lib.hid hr1
  have OJ1 := Lib.hid hoj
  have RJ1 := Lib.hid hoj.rowJ
  have OS1 := Lib.hid hos
  have RS1 := Lib.hid hos.row
  have STB := Lib.hid hst
  clear hr1 hoj hos hst HB
  go_wp2_with fail
  refine (runResources_any _ _ _ _ _ _ ts ss js _ R1.out RS1.out RJ1.out STB.out (by omega) (by omega) (by omega)).mono ?_
  rintro e w2 ⟨⟨vr, vf, rfl, o1, o2, ap⟩, b2⟩
  obtain ⟨ra, rc, rfl⟩ := own_shape o1
  obtain ⟨fa, fc, rfl⟩ := own_shape o2
  have B2 : Below w.heap.size w w2 := b1.trans (b2.mono b1.size)
  have hs1 := b1.size
  have hs2 := b2.size
  obtain ⟨LR, hLR⟩ : ∃ LR, LR = lenRR ts ss js := ⟨_, rfl⟩
  obtain ⟨LF, hLF⟩ : ∃ LF, LF = lenFR ts ss js := ⟨_, rfl⟩
  rw [← hLR] at o1
  rw [← hLF] at o2
  have hlr : LR ≤ 120 := by rw [hLR, lenRR]; split <;> omega
  have hlf : LF ≤ 61 := by rw [hLF, lenFR]; split <;> omega
  have HLR := Lib.hid hLR
  have HLF := Lib.hid hLF
  rw [← hLR, ← hLF]
  have O1 := Lib.hid o1
  have O2 := Lib.hid o2
  have AP := Lib.hid ap
  clear hLR hLF o1 o2 ap
  go_wp2
  have X := fun o => (b2.trans ((below_box w2 o).mono hs2)).drew
  have R3 := Lib.hid fun o => R1.out.below (X o)
  have RJ3 := Lib.hid fun o => RJ1.out.below (X o)
  have RS3 := Lib.hid fun o => RS1.out.below (X o)
  have P1 := Lib.hid fun o => (O1.out.alloc o).drew
  have P2 := Lib.hid fun o => (O2.out.alloc o).drew
  have BX := Lib.hid fun o => (B2.trans ((below_box w2 o).mono (Nat.le_trans hs1 hs2))).drew
  clear X
  refine wp_region_noPanic ?_
  refine wp_region_held_drew (S := fun w' => w'.cell? ⟨w2.heap.size, 0, none⟩ = some (.slice ra LR rc) ∧ w'.cell? ⟨w2.heap.size, 1, none⟩ = some (.slice fa LF fc)) (by kernel_rfl) ?_ (fun hHeld => ?_)
  · (try dsimp only)
    (first | exact ⟨by simp [go_sem], by simp [go_sem]⟩ | exact ⟨(HB4.out.cell (p := ⟨w2.heap.size, 0, none⟩) (by simp)).trans hHeld.1, (HB4.out.cell (p := ⟨w2.heap.size, 1, none⟩) (by simp)).trans hHeld.2⟩ | exact ⟨(HB5.out.cell (p := ⟨w2.heap.size, 0, none⟩) (by have := HB4.out.size; simp at this; simp; omega)).trans hHeld.1, (HB5.out.cell (p := ⟨w2.heap.size, 1, none⟩) (by have := HB4.out.size; simp at this; simp; omega)).trans hHeld.2⟩)
  refine wpAnyH_take (i := 0) (v := ?_) (toArr_get _ 0 _ rfl) (by kernel_rfl) (by kernel_rfl) (by kernel_rfl) (fun _ _ _ h => h) (Or.inl ⟨by rfl, ?_⟩) (by assumption) ?_
  rotate_left
  · (intro w hSw; (try dsimp only at hSw); go_simp; (try with_reducible rfl))
  (try simp only [Act.put, List.setIfInBounds_toArray, List.set_cons_zero, List.set_cons_succ])
  refine wpAnyH_take (i := 1) (v := ?_) (toArr_get _ 1 _ rfl) (by kernel_rfl) (by kernel_rfl) (by kernel_rfl) (fun _ _ _ h => h) (Or.inl ⟨by rfl, ?_⟩) (by assumption) ?_
  rotate_left
  · (intro w hSw; (try dsimp only at hSw); go_simp; (try with_reducible rfl))
  (try simp only [Act.put, List.setIfInBounds_toArray, List.set_cons_zero, List.set_cons_succ])
  refine wpAnyH_take (i := 2) (v := ?_) (toArr_get _ 2 _ rfl) (by kernel_rfl) (by kernel_rfl) (by kernel_rfl) (fun _ _ _ h => h) (Or.inl ⟨by rfl, ?_⟩) (by assumption) ?_
  rotate_left
  · (intro w hSw; (try dsimp only at hSw); go_simp; (try with_reducible rfl))
  (try simp only [Act.put, List.setIfInBounds_toArray, List.set_cons_zero, List.set_cons_succ])
  refine wpAnyH_take (i := 3) (v := ?_) (toArr_get _ 3 _ rfl) (by kernel_rfl) (by kernel_rfl) (by kernel_rfl) (fun _ _ _ h => h) (Or.inl ⟨by rfl, ?_⟩) (by assumption) ?_
  rotate_left
  · (intro w hSw; (try dsimp only at hSw); go_simp; (try with_reducible rfl))
  (try simp only [Act.put, List.setIfInBounds_toArray, List.set_cons_zero, List.set_cons_succ])
  refine wpAnyH_ready (rs := [4]) (by kernel_rfl) (by simp) ?_
  refine AllReadyH.cons (toArr_get _ 4 _ rfl) (fun K hK => ?_) ?_
  · go_simp
    refine (specRunResources_any _ _ _ _ _ _ ts ss js _ (R3.out _) (RS3.out _) (RJ3.out _) (by omega) (by omega) (by omega)).mono ?_
    rintro e w4 ⟨⟨vr', vf', rfl, p1, p2, _⟩, b4⟩
    obtain ⟨ra', rc', rfl⟩ := own_shape p1
    obtain ⟨fa', fc', rfl⟩ := own_shape p2
    rw [← HLR.out] at p1
    rw [← HLF.out] at p2
    rw [← HLR.out, ← HLF.out]
    have I1 := Lib.hid (((P1.out _).below b4).intF')
    have I2 := Lib.hid (((P2.out _).below b4).intF')
    have I3 := Lib.hid p1.intF'
    have I4 := Lib.hid p2.intF'
    have HB4 := Lib.hid b4
    clear p1 p2 b4
    go_wp2_with fail
    refine hK.out _ _ ?_ (fun hHeld2 => ?_)
    · (try dsimp only)
      (first | exact ⟨by simp [go_sem], by simp [go_sem]⟩ | exact ⟨(HB4.out.cell (p := ⟨w2.heap.size, 0, none⟩) (by simp)).trans hHeld.1, (HB4.out.cell (p := ⟨w2.heap.size, 1, none⟩) (by simp)).trans hHeld.2⟩ | exact ⟨(HB5.out.cell (p := ⟨w2.heap.size, 0, none⟩) (by have := HB4.out.size; simp at this; simp; omega)).trans hHeld.1, (HB5.out.cell (p := ⟨w2.heap.size, 1, none⟩) (by have := HB4.out.size; simp at this; simp; omega)).trans hHeld.2⟩)
    clear hK K hHeld
    have hHeld := hHeld2
    clear hHeld2
    (try simp only [Act.put, List.setIfInBounds_toArray, List.set_cons_zero, List.set_cons_succ])
    refine wpAnyH_ready (rs := [5]) (by kernel_rfl) (by simp) ?_
    refine AllReadyH.cons (toArr_get _ 5 _ rfl) (fun K hK => ?_) ?_
    · go_simp
      refine (sameSchedule_same _ _ _ _ _ _ _ _ _ _ (srpF ts ss js) (srpFin ts ss js) _ I1.out I2.out I3.out I4.out (by omega) (by omega)).mono ?_
      rintro e w5 ⟨rfl, b5⟩
      have HB5 := Lib.hid b5
      clear b5 I1 I2 I3 I4
      go_wp2_with fail
      refine hK.out _ _ ?_ (fun hHeld2 => ?_)
      · (try dsimp only)
        (first | exact ⟨by simp [go_sem], by simp [go_sem]⟩ | exact ⟨(HB4.out.cell (p := ⟨w2.heap.size, 0, none⟩) (by simp)).trans hHeld.1, (HB4.out.cell (p := ⟨w2.heap.size, 1, none⟩) (by simp)).trans hHeld.2⟩ | exact ⟨(HB5.out.cell (p := ⟨w2.heap.size, 0, none⟩) (by have := HB4.out.size; simp at this; simp; omega)).trans hHeld.1, (HB5.out.cell (p := ⟨w2.heap.size, 1, none⟩) (by have := HB4.out.size; simp at this; simp; omega)).trans hHeld.2⟩)
      clear hK K hHeld
      have hHeld := hHeld2
      clear hHeld2
      (try simp only [Act.put, List.setIfInBounds_toArray, List.set_cons_zero, List.set_cons_succ])
      refine wpAnyH_take (i := 6) (v := ?_) (toArr_get _ 6 _ rfl) (by kernel_rfl) (by kernel_rfl) (by kernel_rfl) (fun _ _ _ h => h) (Or.inl ⟨by rfl, ?_⟩) (by assumption) ?_
      rotate_left
      · (intro w hSw; (try dsimp only at hSw); go_simp; (try with_reducible rfl))
      (try simp only [Act.put, List.setIfInBounds_toArray, List.set_cons_zero, List.set_cons_succ])
      refine wpAnyH_done (by kernel_rfl) ?_ _
      refine NoPanic.normal ?_
      have B4 : Below w2.heap.size w2 w5 := ((below_box w2 _).drew.trans ((HB4.out.trans (HB5.out.mono HB4.out.size)).mono (by simp)))
      have hs4 := HB4.out.size
      have hs5 := HB5.out.size
      simp at hs4
      have B5 : Below w.heap.size w w5 := B2.trans (B4.mono (Nat.le_trans hs1 hs2))
      have O15 := Lib.hid (O1.out.below B4)
      have O25 := Lib.hid (O2.out.below B4)
      have R5 := Lib.hid (R1.out.below (b2.trans (B4.mono hs2)))
      have RS5 := Lib.hid (RS1.out.below (b2.trans (B4.mono hs2)))
      have OJ5 := Lib.hid (OJ1.out.below (b2.trans (B4.mono hs2)))
      have RJ5 := Lib.hid OJ5.out.rowJ
      have sz5 : w2.heap.size < w5.heap.size := by omega
      obtain ⟨s0, s1⟩ := hHeld
      clear R1 RJ1 RS1 OS1 OJ1 O1 O2 R3 RJ3 RS3 P1 P2 BX HB4 HB5 B4 B2 b1 b2 hs4 hs5
      go_wp2_with fail
      refine (specJobsLegal_any _ _ _ _ ts js _ R5.out RJ5.out (by omega) (by omega)).mono ?_
      rintro e w6 ⟨rfl, b6⟩
      have B6 : Below w.heap.size w w6 := B5.trans (b6.mono (by have := B5.size; omega))
      have t0 := (b6.cell (p := ⟨w2.heap.size, 0, none⟩) sz5).trans s0
      have t1 := (b6.cell (p := ⟨w2.heap.size, 1, none⟩) sz5).trans s1
      have hs6 := b6.size
      have R6 := Lib.hid (R5.out.below b6)
      have RJ6 := Lib.hid (RJ5.out.below b6)
      have RS6 := Lib.hid (RS5.out.below b6)
      have O26 := Lib.hid (O25.out.below b6)
      clear s0 s1 R5 RJ5 RS5 O25 O15 B5 b6 OJ5
      by_cases hleg : legB ts js = true
      · have HL := Lib.hid hleg
        rw [hleg]
        clear hleg
        go_wp2_with fail
        refine (resourcesFeasible_any _ _ _ _ ts ss _ R6.out RS6.out STB.out (by omega) (by omega)).mono ?_
        rintro e w7 ⟨rfl, b7⟩
        have B7 : Below w.heap.size w w7 := B6.trans (b7.mono B6.size)
        have q0 := (b7.cell (p := ⟨w2.heap.size, 0, none⟩) (by simp; omega)).trans t0
        have q1 := (b7.cell (p := ⟨w2.heap.size, 1, none⟩) (by simp; omega)).trans t1
        have RJ7 := Lib.hid (RJ6.out.below b7)
        have O27 := Lib.hid (O26.out.below b7)
        clear t0 t1 R6 RJ6 RS6 O26 B6
        by_cases he : rfB ts ss = true
        · have HE := Lib.hid he
          rw [he]
          clear he
          have hlf2 : LF = js.length := by rw [HLF.out, lenFR, if_pos (okR_iff.2 ⟨(rfB_iff.1 HE.out).1, HL.out⟩)]
          have hlr2 : LR = 120 := by rw [HLR.out, lenRR, if_pos (okR_iff.2 ⟨(rfB_iff.1 HE.out).1, HL.out⟩)]
          subst hlf2
          subst hlr2
          go_wp2_with fail
          refine (missed_any _ _ _ _ js.length js (srpFin ts ss js) _ ⟨_, _, _, rfl⟩ _ RJ7.out O27.out.intF' (by omega) (by omega)).mono ?_
          rintro e w8 ⟨v, rfl, ho, b8⟩
          rw [if_pos rfl, late_noneR HL.out HE.out js.length (Nat.le_refl _)] at ho
          obtain ⟨a8, c8, rfl⟩ := own_shape ho
          have y0 := (b8.cell (p := ⟨w2.heap.size, 0, none⟩) (by have := b7.size; simp; omega)).trans q0
          clear q0 q1 ho
          go_wp2
          go_ret
          exact ⟨rfl, B7.trans (b8.mono B7.size)⟩
        · have he' : rfB ts ss = false := by simpa using he
          rw [he']
          go_wp2_with fail
          refine (alive_any _).mono ?_
          rintro e w8 ⟨rfl, b8⟩
          go_wp2
          go_ret
          exact ⟨rfl, B7.trans (b8.mono B7.size)⟩
      · have hleg' : legB ts js = false := by simpa using hleg
        rw [hleg']
        go_wp2_with fail
        refine (alive_any _).mono ?_
        rintro e w8 ⟨rfl, b8⟩
        go_wp2
        go_ret
        exact ⟨rfl, B6.trans (b8.mono B6.size)⟩
    exact AllReadyH.nil
  exact AllReadyH.nil

end Go.Proofs.Ytlagghoohloklaa
