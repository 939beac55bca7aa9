/- The walk of laws.FnCheckEdf, for whatever program keeps Impl9. Condition: the argument is a slice of bytes. -/
import Derived.Test.YtdhdodmpfbgliaaDoorEdfImpl
import Derived.Test.YtdhdodmpfbgliaaDoorDrawEdf
import Derived.Test.YtdhdodmpfbgliaaDoorSame
import Derived.Test.YtdhdodmpfbgliaaDoorChkCon
import Derived.Test.YtdhdodmpfbgliaaDoorMissImpl
import Derived.Test.YtdhdodmpfbgliaaDoorMissed
namespace Go.Proofs.YtdhdodmpfbgliaaDoor
open Go.RowKit Go.Deep

theorem ck9_illegal {ts : List T3} {js : List J4} {n : Nat} {r : Nat → Int} (h : legB ts js = false) : ck9 ts js n r = (1, 0) := by
  unfold ck9
  rw [h]
  rfl

/-- No job is late exactly if by its deadline nothing of it is left. -/
theorem late_iff {ts : List T3} {js : List J4} (hl : legB ts js = true) : ∀ n, n ≤ js.length → ((lateL js (finF js) n).length = 0 ↔ ∀ i, i < n → 1 ≤ jdl js i → jdl js i ≤ 120 → (edfP js).left (jdl js i) i = 0)
  | 0, _ => ⟨fun _ i hi => absurd hi (Nat.not_lt_zero _), fun _ => rfl⟩
  | n + 1, hn => by
    have ih := late_iff hl n (by omega)
    obtain ⟨h3, h4, h5, h6⟩ := (leg_natJ hl).2.1 n (by omega)
    have hdn := ((leg_natJ hl).1 n (by omega)).2
    have key : lateB js (finF js) n = true ↔ jdl js n ≤ 120 ∧ (edfP js).left (jdl js n) n ≠ 0 := by
      simp only [lateB, Bool.and_eq_true, Bool.or_eq_true, decide_eq_true_eq]
      constructor
      · rintro ⟨hd, h2⟩
        have hD : jdl js n ≤ 120 := by omega
        have h3 := (edfP js).fin_by (T := 120) (i := n) (show 0 < (edfP js).ex n by simp only [edfP]; omega) hD
        refine ⟨hD, fun h => ?_⟩
        have h7 := h3.2 h
        simp only [finF] at h2
        omega
      · rintro ⟨hD, h2⟩
        have h3 := (edfP js).fin_by (T := 120) (i := n) (show 0 < (edfP js).ex n by simp only [edfP]; omega) hD
        refine ⟨by omega, ?_⟩
        simp only [finF]
        by_cases h8 : 0 ≤ (edfP js).fin 120 n ∧ (edfP js).fin 120 n ≤ jdl js n
        · exact absurd (h3.1 h8) h2
        · omega
    simp only [lateL]
    by_cases hb : lateB js (finF js) n = true
    · rw [if_pos hb]
      constructor
      · intro h; simp at h
      · intro h
        obtain ⟨hD, h2⟩ := key.1 hb
        exact absurd (h n (by omega) h5 hD) h2
    · rw [if_neg hb, ih]
      constructor
      · intro h i hi h1 h2
        by_cases e : i = n
        · subst e
          by_cases e2 : (edfP js).left (jdl js i) i = 0
          · exact e2
          · exact absurd (key.2 ⟨h2, e2⟩) hb
        · exact h i (by omega) h1 h2
      · intro h i hi
        exact h i (by omega)

theorem ck_edf {ts : List T3} {js : List J4} (hl : legB ts js = true) : ((lateL js (finF js) js.length).length = 0 ↔ (ck9 ts js 120 (runF js)).1 = 0) ∧ ((ck9 ts js 120 (runF js)).1 = 0 ∨ (ck9 ts js 120 (runF js)).1 = 6) := by
  have h := ck9_sim (ts := ts) (r := runF js) hl (fun t _ => rfl)
  exact ⟨(late_iff hl _ (Nat.le_refl _)).trans h.1.symm, h.2⟩

set_option maxRecDepth 100000 in
set_option maxHeartbeats 8000000 in
/-- laws.FnCheckEdf. -/
theorem fnCheckEdf_walk {G : World → Prop} (I9 : Impl9 G) (a : Option Addr) (len cap : Nat) (w : World) (hG : G w) (hb : Byts w a len cap) :
    Calls Tryd.prog 3 #[.slice a len cap] w fun e w' => e = .returned (.bool true) ∧ Below w.heap.size w w' := by
  have hm : cap ≤ maxLen := hb.2.2
  have hlc : len ≤ cap := hb.2.1
  unfold maxLen at hm
  have HB := Lib.hid hb
  clear hb
  have HI := Lib.hid I9
  have HG := Lib.hid hG
  clear I9 hG
  by_cases hl : 1048576 < len
  · have hl' : (1048576 : Int) < len := by omega
    go_enter Tryd.func3, Tryd.ntmps3
    go_wp2
    go_ret
    exact ⟨rfl, Below.refl _ _⟩
  have hl' : ¬ (1048576 : Int) < len := by omega
  go_enter Tryd.func3, Tryd.ntmps3
  go_wp2_with fail
  refine (drawRunEdf_any _ _ _ _ HB.out).mono ?_
  rintro e w1 ⟨g, cap1, jcap, ja, ts, js, rfl, hn, hlc1, hcm1, hjn, hr1, hoj, b1⟩
  have R1 := Lib.hid hr1
  have OJ1 := Lib.hid hoj
  have RJ1 := Lib.hid hoj.rowJ
  clear hr1 hoj HB
  go_wp2_with fail
  refine (runEdf_any _ _ _ _ ts js _ R1.out RJ1.out (by omega) (by omega)).mono ?_
  rintro e w2 ⟨⟨vr, vf, rfl, o1, o2, ap⟩, b2⟩
  obtain ⟨ra, rc, rfl⟩ := own_shape o1
  obtain ⟨fa, fc, rfl⟩ := own_shape o2
  have B2 : Below w.heap.size w w2 := b1.trans (b2.mono b1.size)
  have hs1 := b1.size
  have hs2 := b2.size
  obtain ⟨LR, hLR⟩ : ∃ LR, LR = lenR ts js := ⟨_, rfl⟩
  obtain ⟨LF, hLF⟩ : ∃ LF, LF = lenF ts js := ⟨_, rfl⟩
  rw [← hLR] at o1
  rw [← hLF] at o2
  have hlr : LR ≤ 120 := by rw [hLR, lenR]; split <;> omega
  have hlf : LF ≤ 61 := by rw [hLF, lenF]; split <;> omega
  have HLR := Lib.hid hLR
  have HLF := Lib.hid hLF
  rw [← hLR, ← hLF]
  have O1 := Lib.hid o1
  have O2 := Lib.hid o2
  have AP := Lib.hid ap
  clear hLR hLF o1 o2 ap
  go_wp2
  have X := fun o => (b2.trans ((below_box w2 o).mono hs2)).drew
  have R3 := Lib.hid fun o => R1.out.below (X o)
  have RJ3 := Lib.hid fun o => RJ1.out.below (X o)
  have P1 := Lib.hid fun o => (O1.out.alloc o).drew
  have P2 := Lib.hid fun o => (O2.out.alloc o).drew
  have BX := Lib.hid fun o => (B2.trans ((below_box w2 o).mono (Nat.le_trans hs1 hs2))).drew
  clear X
  refine wp_region_noPanic ?_
  refine wp_region_held_drew (S := fun w' => w'.cell? ⟨w2.heap.size, 0, none⟩ = some (.slice ra LR rc) ∧ w'.cell? ⟨w2.heap.size, 1, none⟩ = some (.slice fa LF fc)) (by kernel_rfl) ?_ (fun hHeld => ?_)
  · (try dsimp only)
    (first | exact ⟨by simp [go_sem], by simp [go_sem]⟩ | exact ⟨(HB4.out.cell (p := ⟨w2.heap.size, 0, none⟩) (by simp)).trans hHeld.1, (HB4.out.cell (p := ⟨w2.heap.size, 1, none⟩) (by simp)).trans hHeld.2⟩ | exact ⟨(HB5.out.cell (p := ⟨w2.heap.size, 0, none⟩) (by have := HB4.out.size; simp at this; simp; omega)).trans hHeld.1, (HB5.out.cell (p := ⟨w2.heap.size, 1, none⟩) (by have := HB4.out.size; simp at this; simp; omega)).trans hHeld.2⟩)
  refine wpAnyH_take (i := 0) (v := ?_) (toArr_get _ 0 _ rfl) (by kernel_rfl) (by kernel_rfl) (by kernel_rfl) (fun _ _ _ h => h) (Or.inl ⟨by rfl, ?_⟩) (by assumption) ?_
  rotate_left
  · (intro w hSw; (try dsimp only at hSw); go_simp; (try with_reducible rfl))
  (try simp only [Act.put, List.setIfInBounds_toArray, List.set_cons_zero, List.set_cons_succ])
  refine wpAnyH_take (i := 1) (v := ?_) (toArr_get _ 1 _ rfl) (by kernel_rfl) (by kernel_rfl) (by kernel_rfl) (fun _ _ _ h => h) (Or.inl ⟨by rfl, ?_⟩) (by assumption) ?_
  rotate_left
  · (intro w hSw; (try dsimp only at hSw); go_simp; (try with_reducible rfl))
  (try simp only [Act.put, List.setIfInBounds_toArray, List.set_cons_zero, List.set_cons_succ])
  refine wpAnyH_take (i := 2) (v := ?_) (toArr_get _ 2 _ rfl) (by kernel_rfl) (by kernel_rfl) (by kernel_rfl) (fun _ _ _ h => h) (Or.inl ⟨by rfl, ?_⟩) (by assumption) ?_
  rotate_left
  · (intro w hSw; (try dsimp only at hSw); go_simp; (try with_reducible rfl))
  (try simp only [Act.put, List.setIfInBounds_toArray, List.set_cons_zero, List.set_cons_succ])
  refine wpAnyH_ready (rs := [3]) (by kernel_rfl) (by simp) ?_
  refine AllReadyH.cons (toArr_get _ 3 _ rfl) (fun K hK => ?_) ?_
  · go_simp
    refine (specRunEdf_any _ _ _ _ ts js _ (R3.out _) (RJ3.out _) (by omega) (by omega)).mono ?_
    rintro e w4 ⟨⟨vr', vf', rfl, p1, p2, _⟩, b4⟩
    obtain ⟨ra', rc', rfl⟩ := own_shape p1
    obtain ⟨fa', fc', rfl⟩ := own_shape p2
    rw [← HLR.out] at p1
    rw [← HLF.out] at p2
    rw [← HLR.out, ← HLF.out]
    have I1 := Lib.hid (((P1.out _).below b4).intF')
    have I2 := Lib.hid (((P2.out _).below b4).intF')
    have I3 := Lib.hid p1.intF'
    have I4 := Lib.hid p2.intF'
    have HB4 := Lib.hid b4
    clear p1 p2 b4
    go_wp2_with fail
    refine hK.out _ _ ?_ (fun hHeld2 => ?_)
    · (try dsimp only)
      (first | exact ⟨by simp [go_sem], by simp [go_sem]⟩ | exact ⟨(HB4.out.cell (p := ⟨w2.heap.size, 0, none⟩) (by simp)).trans hHeld.1, (HB4.out.cell (p := ⟨w2.heap.size, 1, none⟩) (by simp)).trans hHeld.2⟩ | exact ⟨(HB5.out.cell (p := ⟨w2.heap.size, 0, none⟩) (by have := HB4.out.size; simp at this; simp; omega)).trans hHeld.1, (HB5.out.cell (p := ⟨w2.heap.size, 1, none⟩) (by have := HB4.out.size; simp at this; simp; omega)).trans hHeld.2⟩)
    clear hK K hHeld
    have hHeld := hHeld2
    clear hHeld2
    (try simp only [Act.put, List.setIfInBounds_toArray, List.set_cons_zero, List.set_cons_succ])
    refine wpAnyH_ready (rs := [4]) (by kernel_rfl) (by simp) ?_
    refine AllReadyH.cons (toArr_get _ 4 _ rfl) (fun K hK => ?_) ?_
    · go_simp
      refine (sameSchedule_same _ _ _ _ _ _ _ _ _ _ (runF js) (finF js) _ I1.out I2.out I3.out I4.out (by omega) (by omega)).mono ?_
      rintro e w5 ⟨rfl, b5⟩
      have HB5 := Lib.hid b5
      clear b5 I1 I2 I3 I4
      go_wp2_with fail
      refine hK.out _ _ ?_ (fun hHeld2 => ?_)
      · (try dsimp only)
        (first | exact ⟨by simp [go_sem], by simp [go_sem]⟩ | exact ⟨(HB4.out.cell (p := ⟨w2.heap.size, 0, none⟩) (by simp)).trans hHeld.1, (HB4.out.cell (p := ⟨w2.heap.size, 1, none⟩) (by simp)).trans hHeld.2⟩ | exact ⟨(HB5.out.cell (p := ⟨w2.heap.size, 0, none⟩) (by have := HB4.out.size; simp at this; simp; omega)).trans hHeld.1, (HB5.out.cell (p := ⟨w2.heap.size, 1, none⟩) (by have := HB4.out.size; simp at this; simp; omega)).trans hHeld.2⟩)
      clear hK K hHeld
      have hHeld := hHeld2
      clear hHeld2
      (try simp only [Act.put, List.setIfInBounds_toArray, List.set_cons_zero, List.set_cons_succ])
      refine wpAnyH_take (i := 5) (v := ?_) (toArr_get _ 5 _ rfl) (by kernel_rfl) (by kernel_rfl) (by kernel_rfl) (fun _ _ _ h => h) (Or.inl ⟨by rfl, ?_⟩) (by assumption) ?_
      rotate_left
      · (intro w hSw; (try dsimp only at hSw); go_simp; (try with_reducible rfl))
      (try simp only [Act.put, List.setIfInBounds_toArray, List.set_cons_zero, List.set_cons_succ])
      refine wpAnyH_done (by kernel_rfl) ?_ _
      refine NoPanic.normal ?_
      have B4 : Below w2.heap.size w2 w5 := ((below_box w2 _).drew.trans ((HB4.out.trans (HB5.out.mono HB4.out.size)).mono (by simp)))
      have hs4 := HB4.out.size
      have hs5 := HB5.out.size
      simp at hs4
      have B5 : Below w.heap.size w w5 := B2.trans (B4.mono (Nat.le_trans hs1 hs2))
      have O15 := Lib.hid (O1.out.below B4)
      have O25 := Lib.hid (O2.out.below B4)
      have R5 := Lib.hid (R1.out.below (b2.trans (B4.mono hs2)))
      have OJ5 := Lib.hid (OJ1.out.below (b2.trans (B4.mono hs2)))
      have RJ5 := Lib.hid OJ5.out.rowJ
      have sz5 : w2.heap.size < w5.heap.size := by omega
      obtain ⟨s0, s1⟩ := hHeld
      clear R1 RJ1 OJ1 O1 O2 R3 RJ3 P1 P2 BX HB4 HB5 B4 B2 b1 b2 hs4 hs5
      have p := ck9_bd ts js LR (runF js)
      obtain ⟨c, hc⟩ : ∃ c, c = (ck9 ts js LR (runF js)).1 := ⟨_, rfl⟩
      obtain ⟨t, ht⟩ : ∃ t, t = (ck9 ts js LR (runF js)).2 := ⟨_, rfl⟩
      rw [← hc, ← ht] at p
      have HC := Lib.hid hc
      have HT := Lib.hid ht
      have P := Lib.hid p
      clear p hc ht
      go_wp2_with fail
      refine (HI.out.check _ _ _ _ _ _ LR ts js (runF js) _ (HI.out.keep HG.out B5) R5.out RJ5.out O15.out.intF' (by omega) (by omega) (by omega)).mono ?_
      rintro e w6 ⟨rfl, b6⟩
      rw [← HC.out, ← HT.out]
      have B6 : Below w.heap.size w w6 := B5.trans (b6.mono (by have := B5.size; omega))
      have t0 := (b6.cell (p := ⟨w2.heap.size, 0, none⟩) sz5).trans s0
      have t1 := (b6.cell (p := ⟨w2.heap.size, 1, none⟩) sz5).trans s1
      have hs6 := b6.size
      have R6 := Lib.hid (R5.out.below b6)
      have RJ6 := Lib.hid (RJ5.out.below b6)
      have O16 := Lib.hid (O15.out.below b6)
      have O26 := Lib.hid (O25.out.below b6)
      clear s0 s1 R5 RJ5 O25 O15 B5 b6 OJ5
      
      go_wp2_with fail
      refine (specJobsLegal_any _ _ _ _ ts js _ R6.out RJ6.out (by omega) (by omega)).mono ?_
      rintro e w7 ⟨rfl, b7⟩
      have B7 : Below w.heap.size w w7 := B6.trans (b7.mono B6.size)
      have q0 := (b7.cell (p := ⟨w2.heap.size, 0, none⟩) (by simp; omega)).trans t0
      have q1 := (b7.cell (p := ⟨w2.heap.size, 1, none⟩) (by simp; omega)).trans t1
      have RJ7 := Lib.hid (RJ6.out.below b7)
      have O27 := Lib.hid (O26.out.below b7)
      have hs7 := b7.size
      clear t0 t1 R6 RJ6 O16 O26 B6 HI b7
      cases hlg : legB ts js with
      | false =>
        have hc := HC.out
        rw [ck9_illegal hlg] at hc
        subst hc
        clear hlg HC HT P
        go_wp2_with fail
        refine (alive_any _).mono ?_
        rintro e w8 ⟨rfl, b8⟩
        go_wp2
        go_ret
        exact ⟨rfl, B7.trans (b8.mono B7.size)⟩
      | true =>
        have hlf2 : LF = js.length := by rw [HLF.out, lenF, if_pos hlg]
        have hlr2 : LR = 120 := by rw [HLR.out, lenR, if_pos hlg]
        subst hlf2
        subst hlr2
        obtain ⟨k1, k2⟩ := ck_edf hlg
        rw [← HC.out] at k1 k2
        obtain ⟨m, hm⟩ : ∃ m, m = (lateL js (finF js) js.length).length := ⟨_, rfl⟩
        have HM := Lib.hid hm
        have hmj : m ≤ js.length := by rw [hm]; exact lateL_len _ _ _
        rw [← hm] at k1
        clear hlg HC HT P hm
        go_wp2_with fail
        refine (missed_any _ _ _ _ js.length js (finF js) _ ⟨_, _, _, rfl⟩ _ RJ7.out O27.out.intF' (by omega) (by omega)).mono ?_
        rintro e w8 ⟨v, rfl, ho, b8⟩
        rw [if_pos rfl] at ho
        obtain ⟨a8, c8, rfl⟩ := own_shape ho
        rw [← HM.out]
        clear q0 q1 ho HM
        rcases k2 with rfl | rfl
        · obtain rfl : m = 0 := k1.2 rfl
          go_wp2
          go_ret
          exact ⟨rfl, B7.trans (b8.mono B7.size)⟩
        · have hm0 : m ≠ 0 := fun h => absurd (k1.1 h) (by decide)
          have hm1 : ¬ (m : Int) = 0 := by omega
          have hmb : ((m : Int) == 0) = false := by simp; omega
          clear k1
          go_wp2
          go_ret
          exact ⟨rfl, B7.trans (b8.mono B7.size)⟩
    exact AllReadyH.nil
  exact AllReadyH.nil

end Go.Proofs.YtdhdodmpfbgliaaDoor
