/- The walk of laws.FnBusySame, for whatever code. Condition: the argument is a slice of bytes. -/
import Derived.Test.YtlagghoohloklaaResRunB
import Derived.Test.YtlagghoohloklaaSame
import Derived.Test.YtlagghoohloklaaEdfImpl
import Derived.Test.YtlagghoohloklaaFixRunImpl
import Derived.Test.YtlagghoohloklaaSortImpl
namespace Go.Proofs.Ytlagghoohloklaa
open Go.RowKit Go.Deep

theorem idle_same {ts ss : List T3} {js : List J4} (h : okR ts ss js = true) (os : List Int) (t : Nat) :
    (srpF ts ss js t = -1 ∧ runF js t = -1 ∧ runX os js t = -1) ∨ ∃ a b c : Nat, srpF ts ss js t = a ∧ runF js t = b ∧ runX os js t = c := by
  have h1 := (Gen.same_idle (srpP ts ss js).fair (Srp.busy (srp_ok h)) (edfP js).gen_fair (edfP js).gen_busy rfl (fun _ _ => rfl) (fun _ _ => rfl) t).2
  have h2 := (Gen.same_idle (fxP os js).gen_fair (fxP os js).gen_busy (edfP js).gen_fair (edfP js).gen_busy rfl (fun _ _ => rfl) (fun _ _ => rfl) t).2
  rw [Pat.gen_run] at h1
  rw [Pat.gen_run, Pat.gen_run] at h2
  unfold srpF runF runX
  cases he : (edfP js).run t with
  | none =>
    rw [h1.2 he, h2.2 he]
    exact .inl ⟨rfl, rfl, rfl⟩
  | some b =>
    cases hs : (srpP ts ss js).gen.run t with
    | none => have := h1.1 hs; rw [he] at this; simp at this
    | some a =>
      cases hx : (fxP os js).run t with
      | none => have := h2.1 hx; rw [he] at this; simp at this
      | some c => exact .inr ⟨a, b, c, rfl, rfl, rfl⟩
set_option maxRecDepth 100000 in
set_option maxHeartbeats 8000000 in
/-- laws.FnBusySame. -/
theorem fnBusySame_walk (a : Option Addr) (len cap : Nat) (w : World) (hb : Byts w a len cap) :
    Calls Try.prog 7 #[.slice a len cap] w fun e w' => e = .returned (.bool true) ∧ Below w.heap.size w w' := by
  have hm : cap ≤ maxLen := hb.2.2
  have hlc : len ≤ cap := hb.2.1
  unfold maxLen at hm
  have HB := Lib.hid hb
  clear hb
  by_cases hl : 1048576 < len
  · have hl' : (1048576 : Int) < len := by omega
    go_enter Try.func7, Try.ntmps7
    go_wp2
    go_ret
    exact ⟨rfl, Below.refl _ _⟩
  have hl' : ¬ (1048576 : Int) < len := by omega
  go_enter Try.func7, Try.ntmps7
  go_wp2_with fail
  refine (drawRunResources_any _ _ _ _ HB.out).mono ?_
  rintro e w1 ⟨g, cap1, sg, scap, jcap, ja, ts, ss, js, rfl, hn, hlc1, hcm1, hsn, hst, hjn, hr1, hos, hoj, b1⟩
  have R1 := Lib.hid hr1
  have OJ1 := Lib.hid hoj
  have RJ1 := Lib.hid hoj.rowJ
  have OS1 := Lib.hid hos
  have RS1 := Lib.hid hos.row
  have STB := Lib.hid hst
  clear hr1 hoj hos hst HB
  go_wp2_with fail
  refine (runResources_any _ _ _ _ _ _ ts ss js _ R1.out RS1.out RJ1.out STB.out (by omega) (by omega) (by omega)).mono ?_
  rintro e w2 ⟨⟨vr, vf, rfl, o1, o2, ap⟩, b2⟩
  obtain ⟨ra, rc, rfl⟩ := own_shape o1
  obtain ⟨fa, fc, rfl⟩ := own_shape o2
  have B2 : Below w.heap.size w w2 := b1.trans (b2.mono b1.size)
  have hs1 := b1.size
  have hs2 := b2.size
  obtain ⟨LR, hLR⟩ : ∃ LR, LR = lenRR ts ss js := ⟨_, rfl⟩
  obtain ⟨LF, hLF⟩ : ∃ LF, LF = lenFR ts ss js := ⟨_, rfl⟩
  rw [← hLR] at o1
  rw [← hLF] at o2
  have hlr : LR ≤ 120 := by rw [hLR, lenRR]; split <;> omega
  have hlf : LF ≤ 61 := by rw [hLF, lenFR]; split <;> omega
  have HLR := Lib.hid hLR
  have HLF := Lib.hid hLF
  rw [← hLR, ← hLF]
  have O1 := Lib.hid o1
  have O2 := Lib.hid o2
  have AP := Lib.hid ap
  clear hLR hLF o1 o2 ap
  go_wp2
  have X := fun o => (b2.trans ((below_box w2 o).mono hs2)).drew
  have R3 := Lib.hid fun o => R1.out.below (X o)
  have RJ3 := Lib.hid fun o => RJ1.out.below (X o)
  have RS3 := Lib.hid fun o => RS1.out.below (X o)
  have P1 := Lib.hid fun o => (O1.out.alloc o).drew
  have P2 := Lib.hid fun o => (O2.out.alloc o).drew
  have BX := Lib.hid fun o => (B2.trans ((below_box w2 o).mono (Nat.le_trans hs1 hs2))).drew
  clear X
  refine wp_region_noPanic ?_
  refine wp_region_held_drew (S := fun w' => w'.cell? ⟨w2.heap.size, 0, none⟩ = some (.slice ra LR rc) ∧ w'.cell? ⟨w2.heap.size, 1, none⟩ = some (.slice fa LF fc)) (by kernel_rfl) ?_ (fun hHeld => ?_)
  · (try dsimp only)
    (first | exact ⟨by simp [go_sem], by simp [go_sem]⟩ | exact ⟨(HB4.out.cell (p := ⟨w2.heap.size, 0, none⟩) (by simp)).trans hHeld.1, (HB4.out.cell (p := ⟨w2.heap.size, 1, none⟩) (by simp)).trans hHeld.2⟩ | exact ⟨(HB5.out.cell (p := ⟨w2.heap.size, 0, none⟩) (by have := HB4.out.size; simp at this; simp; omega)).trans hHeld.1, (HB5.out.cell (p := ⟨w2.heap.size, 1, none⟩) (by have := HB4.out.size; simp at this; simp; omega)).trans hHeld.2⟩)
  refine wpAnyH_take (i := 0) (v := ?_) (toArr_get _ 0 _ rfl) (by kernel_rfl) (by kernel_rfl) (by kernel_rfl) (fun _ _ _ h => h) (Or.inl ⟨by rfl, ?_⟩) (by assumption) ?_
  rotate_left
  · (intro w hSw; (try dsimp only at hSw); go_simp; (try with_reducible rfl))
  (try simp only [Act.put, List.setIfInBounds_toArray, List.set_cons_zero, List.set_cons_succ])
  refine wpAnyH_take (i := 1) (v := ?_) (toArr_get _ 1 _ rfl) (by kernel_rfl) (by kernel_rfl) (by kernel_rfl) (fun _ _ _ h => h) (Or.inl ⟨by rfl, ?_⟩) (by assumption) ?_
  rotate_left
  · (intro w hSw; (try dsimp only at hSw); go_simp; (try with_reducible rfl))
  (try simp only [Act.put, List.setIfInBounds_toArray, List.set_cons_zero, List.set_cons_succ])
  refine wpAnyH_take (i := 2) (v := ?_) (toArr_get _ 2 _ rfl) (by kernel_rfl) (by kernel_rfl) (by kernel_rfl) (fun _ _ _ h => h) (Or.inl ⟨by rfl, ?_⟩) (by assumption) ?_
  rotate_left
  · (intro w hSw; (try dsimp only at hSw); go_simp; (try with_reducible rfl))
  (try simp only [Act.put, List.setIfInBounds_toArray, List.set_cons_zero, List.set_cons_succ])
  refine wpAnyH_take (i := 3) (v := ?_) (toArr_get _ 3 _ rfl) (by kernel_rfl) (by kernel_rfl) (by kernel_rfl) (fun _ _ _ h => h) (Or.inl ⟨by rfl, ?_⟩) (by assumption) ?_
  rotate_left
  · (intro w hSw; (try dsimp only at hSw); go_simp; (try with_reducible rfl))
  (try simp only [Act.put, List.setIfInBounds_toArray, List.set_cons_zero, List.set_cons_succ])
  refine wpAnyH_ready (rs := [4]) (by kernel_rfl) (by simp) ?_
  refine AllReadyH.cons (toArr_get _ 4 _ rfl) (fun K hK => ?_) ?_
  · go_simp
    refine (specRunResources_any _ _ _ _ _ _ ts ss js _ (R3.out _) (RS3.out _) (RJ3.out _) (by omega) (by omega) (by omega)).mono ?_
    rintro e w4 ⟨⟨vr', vf', rfl, p1, p2, _⟩, b4⟩
    obtain ⟨ra', rc', rfl⟩ := own_shape p1
    obtain ⟨fa', fc', rfl⟩ := own_shape p2
    rw [← HLR.out] at p1
    rw [← HLF.out] at p2
    rw [← HLR.out, ← HLF.out]
    have I1 := Lib.hid (((P1.out _).below b4).intF')
    have I2 := Lib.hid (((P2.out _).below b4).intF')
    have I3 := Lib.hid p1.intF'
    have I4 := Lib.hid p2.intF'
    have HB4 := Lib.hid b4
    clear p1 p2 b4
    go_wp2_with fail
    refine hK.out _ _ ?_ (fun hHeld2 => ?_)
    · (try dsimp only)
      (first | exact ⟨by simp [go_sem], by simp [go_sem]⟩ | exact ⟨(HB4.out.cell (p := ⟨w2.heap.size, 0, none⟩) (by simp)).trans hHeld.1, (HB4.out.cell (p := ⟨w2.heap.size, 1, none⟩) (by simp)).trans hHeld.2⟩ | exact ⟨(HB5.out.cell (p := ⟨w2.heap.size, 0, none⟩) (by have := HB4.out.size; simp at this; simp; omega)).trans hHeld.1, (HB5.out.cell (p := ⟨w2.heap.size, 1, none⟩) (by have := HB4.out.size; simp at this; simp; omega)).trans hHeld.2⟩)
    clear hK K hHeld
    have hHeld := hHeld2
    clear hHeld2
    (try simp only [Act.put, List.setIfInBounds_toArray, List.set_cons_zero, List.set_cons_succ])
    refine wpAnyH_ready (rs := [5]) (by kernel_rfl) (by simp) ?_
    refine AllReadyH.cons (toArr_get _ 5 _ rfl) (fun K hK => ?_) ?_
    · go_simp
      refine (sameSchedule_same _ _ _ _ _ _ _ _ _ _ (srpF ts ss js) (srpFin ts ss js) _ I1.out I2.out I3.out I4.out (by omega) (by omega)).mono ?_
      rintro e w5 ⟨rfl, b5⟩
      have HB5 := Lib.hid b5
      clear b5 I1 I2 I3 I4
      go_wp2_with fail
      refine hK.out _ _ ?_ (fun hHeld2 => ?_)
      · (try dsimp only)
        (first | exact ⟨by simp [go_sem], by simp [go_sem]⟩ | exact ⟨(HB4.out.cell (p := ⟨w2.heap.size, 0, none⟩) (by simp)).trans hHeld.1, (HB4.out.cell (p := ⟨w2.heap.size, 1, none⟩) (by simp)).trans hHeld.2⟩ | exact ⟨(HB5.out.cell (p := ⟨w2.heap.size, 0, none⟩) (by have := HB4.out.size; simp at this; simp; omega)).trans hHeld.1, (HB5.out.cell (p := ⟨w2.heap.size, 1, none⟩) (by have := HB4.out.size; simp at this; simp; omega)).trans hHeld.2⟩)
      clear hK K hHeld
      have hHeld := hHeld2
      clear hHeld2
      (try simp only [Act.put, List.setIfInBounds_toArray, List.set_cons_zero, List.set_cons_succ])
      refine wpAnyH_take (i := 6) (v := ?_) (toArr_get _ 6 _ rfl) (by kernel_rfl) (by kernel_rfl) (by kernel_rfl) (fun _ _ _ h => h) (Or.inl ⟨by rfl, ?_⟩) (by assumption) ?_
      rotate_left
      · (intro w hSw; (try dsimp only at hSw); go_simp; (try with_reducible rfl))
      (try simp only [Act.put, List.setIfInBounds_toArray, List.set_cons_zero, List.set_cons_succ])
      refine wpAnyH_done (by kernel_rfl) ?_ _
      refine NoPanic.normal ?_
      have B4 : Below w2.heap.size w2 w5 := ((below_box w2 _).drew.trans ((HB4.out.trans (HB5.out.mono HB4.out.size)).mono (by simp)))
      have hs4 := HB4.out.size
      have hs5 := HB5.out.size
      simp at hs4
      have B5 : Below w.heap.size w w5 := B2.trans (B4.mono (Nat.le_trans hs1 hs2))
      have O15 := Lib.hid (O1.out.below B4)
      have O25 := Lib.hid (O2.out.below B4)
      have R5 := Lib.hid (R1.out.below (b2.trans (B4.mono hs2)))
      have RS5 := Lib.hid (RS1.out.below (b2.trans (B4.mono hs2)))
      have OJ5 := Lib.hid (OJ1.out.below (b2.trans (B4.mono hs2)))
      have RJ5 := Lib.hid OJ5.out.rowJ
      have sz5 : w2.heap.size < w5.heap.size := by omega
      obtain ⟨s0, s1⟩ := hHeld
      clear R1 RJ1 RS1 OS1 OJ1 O1 O2 R3 RJ3 RS3 P1 P2 BX HB4 HB5 B4 B2 b1 b2 hs4 hs5
      by_cases hok : okR ts ss js = true
      · have HOK := Lib.hid hok
        have hlf2 : LF = js.length := by rw [HLF.out, lenFR, if_pos hok]
        have hlr2 : LR = 120 := by rw [HLR.out, lenRR, if_pos hok]
        have HLEG := Lib.hid (okR_iff.1 hok).2
        clear hok HLR HLF
        subst hlf2
        subst hlr2
        obtain ⟨gr, rfl⟩ := own_some' O15.out (by omega)
        go_wp2_with fail
        refine (runEdf_any _ _ _ _ ts js _ R5.out RJ5.out (by omega) (by omega)).mono ?_
        rintro e w6 ⟨⟨vr6, vf6, rfl, p1, p2, -⟩, b6⟩
        obtain ⟨ra6, rc6, rfl⟩ := own_shape p1
        obtain ⟨fa6, fc6, rfl⟩ := own_shape p2
        have e1 : lenR ts js = 120 := by rw [lenR, if_pos HLEG.out]
        have e2 : lenF ts js = js.length := by rw [lenF, if_pos HLEG.out]
        rw [e1] at p1
        rw [e1, e2]
        obtain ⟨g6, rfl⟩ := own_some' p1 (by omega)
        have B6 := Lib.hid (B5.trans (b6.mono B5.size))
        have t0 := (b6.cell (p := ⟨w2.heap.size, 0, none⟩) sz5).trans s0
        have S6 := Lib.hid b6.size
        have IR := Lib.hid (O15.out.below b6).intF'
        have IE := Lib.hid p1.intF'
        have R6 := Lib.hid (fun o => (R5.out.below b6).below (below_box w6 o))
        have RJ6 := Lib.hid (fun o => (RJ5.out.below b6).below (below_box w6 o))
        clear s0 s1 R5 RS5 RJ5 O15 O25 OJ5 B5 b6 p1 p2 e1 e2
        go_wp2_with fail
        refine (deadlineMonotonic_any _ _ ts _ (R6.out _) (by omega)).mono ?_
        rintro e w7 ⟨⟨v, rfl, hod⟩, b7⟩
        rw [show dmB' ts = dmO ts by rw [dmB', if_pos (legB_iff.1 HLEG.out).1]] at hod
        obtain ⟨da, dcap, rfl⟩ := own_shape hod
        have HOR := Lib.hid (dm_ord (legB_iff.1 HLEG.out).1)
        have I7 := Lib.hid hod.intF'
        have b67 := (below_box w6 _).trans (b7.mono (by simp))
        have q0 := (b67.cell (p := ⟨w2.heap.size, 0, none⟩) (show w2.heap.size < w6.heap.size by have := S6.out; omega)).trans t0
        have q1 : w7.cell? ⟨w6.heap.size, 0, none⟩ = some (.slice (some ⟨g6, 0, none⟩) 120 rc6) := (b7.cell (p := ⟨w6.heap.size, 0, none⟩) (by simp)).trans (by simp [go_sem])
        have B7 := Lib.hid (B6.out.trans (b67.mono B6.out.size))
        have S7 := Lib.hid (show w6.heap.size < w7.heap.size by have := b7.size; simp at this; omega)
        have R7 := Lib.hid ((R6.out _).below b7)
        have RJ7 := Lib.hid ((RJ6.out _).below b7)
        have IR7 := Lib.hid (IR.out.below b67)
        have IE7 := Lib.hid (IE.out.below b67)
        clear hod b7 b67 t0 R6 RJ6 IR IE B6
        go_wp2_with fail
        refine (runFixed_any _ _ _ _ _ _ ts (dmO ts) js _ R7.out I7.out RJ7.out (by omega) (by omega)).mono ?_
        rintro e w8 ⟨⟨vr, vf, rfl, p1, p2, -⟩, b8⟩
        obtain ⟨ra8, rc8, rfl⟩ := own_shape p1
        obtain ⟨fa8, fc8, rfl⟩ := own_shape p2
        have hk : okF ts (dmO ts) js = true := okF_iff.2 ⟨HOR.out, HLEG.out⟩
        have e1 : lenRF ts (dmO ts) js = 120 := by rw [lenRF, if_pos hk]
        have e2 : lenFF ts (dmO ts) js = js.length := by rw [lenFF, if_pos hk]
        rw [e1] at p1
        rw [e1, e2]
        obtain ⟨g8, rfl⟩ := own_some' p1 (by omega)
        have B8 := Lib.hid (B7.out.trans (b8.mono B7.out.size))
        have y0 := (b8.cell (p := ⟨w2.heap.size, 0, none⟩) (show w2.heap.size < w7.heap.size by have := S6.out; have := S7.out; omega)).trans q0
        have y1 := (b8.cell (p := ⟨w6.heap.size, 0, none⟩) S7.out).trans q1
        have S8 := Lib.hid b8.size
        have IR8 := Lib.hid (IR7.out.below b8)
        have IE8 := Lib.hid (IE7.out.below b8)
        have IX8 := Lib.hid p1.intF'
        have HID := Lib.hid (idle_same HOK.out (dmO ts))
        clear p1 p2 e1 e2 hk b8 q0 q1 R7 RJ7 I7 IR7 IE7 B7
        go_wp2
        go_loopg [9] 120 (fun m z wr => ∃ t : Nat, m + t = 120 ∧ z = .int .i64 t ∧ Below w8.heap.size w8 wr ∧ wr.cell? ⟨w8.heap.size, 0, none⟩ = some (.slice (some ⟨g8, 0, none⟩) 120 rc8))
        case atStart => exact ⟨0, by omega, rfl, below_box _ _, by simp [go_sem]⟩
        case round =>
          obtain ⟨t, hk, rfl, bw, x2⟩ := hrel
          have HK := Lib.hid hk
          have HB := Lib.hid bw
          have htt : t ≤ 120 := by omega
          clear hk
          by_cases hlt : t < 120
          · have hlt' : (t : Int) < 120 := by omega
            have ht0 : (0 : Int) ≤ t := by omega
            have x0 := (bw.cell (p := ⟨w2.heap.size, 0, none⟩) (show w2.heap.size < w8.heap.size by have := S6.out; have := S7.out; have := S8.out; omega)).trans y0
            have x1 := (bw.cell (p := ⟨w6.heap.size, 0, none⟩) (show w6.heap.size < w8.heap.size by have := S7.out; have := S8.out; omega)).trans y1
            obtain ⟨b', o', e', -, v0⟩ := (IR8.out.below bw) t hlt
            simp only [Option.some.injEq, Addr.mk.injEq, and_true] at e'
            obtain ⟨rfl, rfl⟩ := e'
            obtain ⟨b', o', e', -, v1⟩ := (IE8.out.below bw) t hlt
            simp only [Option.some.injEq, Addr.mk.injEq, and_true] at e'
            obtain ⟨rfl, rfl⟩ := e'
            obtain ⟨b', o', e', -, v2⟩ := (IX8.out.below bw) t hlt
            simp only [Option.some.injEq, Addr.mk.injEq, and_true] at e'
            obtain ⟨rfl, rfl⟩ := e'
            rw [Nat.zero_add] at v0 v1 v2
            clear bw y0 y1
            rcases HID.out t with ⟨h0, h1, h2⟩ | ⟨i0, i1, i2, h0, h1, h2⟩
            · rw [h0] at v0
              rw [h1] at v1
              rw [h2] at v2
              clear h0 h1 h2
              go_wp2
              go_quiet (fail)
              go_wp2
              go_roundg (gk - 1)
              case measure => have := HK.out; omega
              case rel => exact ⟨t + 1, by have := HK.out; omega, by go_num, HB.out.trans ((below_drewN _ _).mono HB.out.size), by simpa using x2⟩
            · rw [h0] at v0
              rw [h1] at v1
              rw [h2] at v2
              have hq0 : decide ((i0 : Int) < 0) = false := decide_eq_false (by omega)
              have hq1 : decide ((i1 : Int) < 0) = false := decide_eq_false (by omega)
              have hq2 : decide ((i2 : Int) < 0) = false := decide_eq_false (by omega)
              clear h0 h1 h2
              go_wp2
              go_quiet (fail)
              go_wp2
              go_roundg (gk - 1)
              case measure => have := HK.out; omega
              case rel => exact ⟨t + 1, by have := HK.out; omega, by go_num, HB.out.trans ((below_drewN _ _).mono HB.out.size), by simpa using x2⟩
          · obtain rfl : t = 120 := by omega
            go_wp2
            go_ret
            exact ⟨rfl, B8.out.trans (HB.out.mono B8.out.size)⟩
      · have hl0 : LR = 0 := by rw [HLR.out, lenRR, if_neg hok]
        clear hok
        subst hl0
        go_wp2_with fail
        refine (alive_any _).mono ?_
        rintro e w6 ⟨rfl, b6⟩
        go_wp2
        go_ret
        exact ⟨rfl, B5.trans (b6.mono B5.size)⟩
    exact AllReadyH.nil
  exact AllReadyH.nil

end Go.Proofs.Ytlagghoohloklaa
