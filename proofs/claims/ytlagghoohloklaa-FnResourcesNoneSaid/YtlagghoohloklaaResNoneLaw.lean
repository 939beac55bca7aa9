/- The walk of laws.FnResourcesNone, for whatever code. Condition: the argument is a slice of bytes. -/
import Derived.Test.YtlagghoohloklaaResRunB
import Derived.Test.YtlagghoohloklaaSame
namespace Go.Proofs.Ytlagghoohloklaa
open Go.RowKit Go.Deep

theorem run_make_secsR (n : Nat) (hn : n ≤ 1048576) (w : World) :
    (Instr.makeSlice 24 (.int .i64 (n : Int)) (.int .i64 (n : Int))).run Try.prog w = .ok (.slice (some ⟨w.heap.size, 0, none⟩) n n) (w.alloc (.cells (madeCells #[.int .i64 0, .int .i64 0, .int .i64 0] (n * 3)) 39)) := by
  obtain ⟨i, hi, hz, hs, hb⟩ := info_parts secInfo
  have h := run_make (P := Try.prog) w 24 39 i _ Try.underlying24 hi hz .i64 .i64 (n : Int) (n : Int) (by omega) (by omega) (by rw [hb]; omega) (by omega)
  rw [hs] at h
  simpa [Value.cells] using h
theorem row_zsR (w : World) (n : Nat) : Row (w.alloc (.cells (madeCells #[.int .i64 0, .int .i64 0, .int .i64 0] (n * 3)) 39)) (some ⟨w.heap.size, 0, none⟩) (zs n) := by
  intro k t hk
  have hkn : k < n := by
    have := (List.getElem?_eq_some_iff.1 hk).1
    simpa [zs] using this
  have ht : t = (0, 0, 0) := by
    unfold zs at hk
    exact List.eq_of_mem_replicate (List.mem_of_getElem? hk)
  subst ht
  have hc : ∀ j, j < n * 3 → (w.alloc (.cells (madeCells #[.int .i64 0, .int .i64 0, .int .i64 0] (n * 3)) 39)).cell? ⟨w.heap.size, j, none⟩ = some (.int .i64 0) := fun j hj => by
    have h : j % 3 = 0 ∨ j % 3 = 1 ∨ j % 3 = 2 := by omega
    rcases h with h | h | h <;> simp [go_sem, madeCells, hj, h]
  refine ⟨w.heap.size, 0, rfl, by simp, ?_, ?_, ?_⟩
  · rw [Nat.zero_add]; exact hc _ (by omega)
  · rw [Nat.zero_add]; exact hc _ (by omega)
  · rw [Nat.zero_add]; exact hc _ (by omega)
theorem zs_lenR (n : Nat) : (zs n).length = n := by simp [zs]
theorem ok_zs (ts : List T3) (js : List J4) : okR ts (zs ts.length) js = legB ts js := by
  unfold okR
  rw [sc_zs]
  cases h : legB ts js with
  | false => rw [Bool.and_false]
  | true => rw [(legB_iff.1 h).1]; rfl
theorem len_zsR (ts : List T3) (js : List J4) : lenRR ts (zs ts.length) js = lenR ts js ∧ lenFR ts (zs ts.length) js = lenF ts js := by
  unfold lenRR lenFR lenR lenF
  rw [ok_zs]
  exact ⟨rfl, rfl⟩
theorem run_zsR {ts : List T3} {js : List J4} : ∀ k, k < lenR ts js → srpF ts (zs ts.length) js k = runF js k := fun k hk => by
  unfold lenR at hk
  split at hk
  · next h =>
    unfold srpF runF
    rw [(srp_none ts js h k).2]
  · omega
theorem fin_zsR {ts : List T3} {js : List J4} : ∀ k, k < lenF ts js → srpFin ts (zs ts.length) js k = finF js k := fun k hk => by
  unfold lenF at hk
  split at hk
  · next h => exact srp_none_fin ts js h 120 k
  · omega
theorem st_zs (n : Nat) : StB (zs n) := fun k _ => by rw [tk_zs]; show (0 : Int) ≤ _; omega
set_option maxRecDepth 100000 in
set_option maxHeartbeats 8000000 in
/-- laws.FnResourcesNone. -/
theorem fnResourcesNone_walk (a : Option Addr) (len cap : Nat) (w : World) (hb : Byts w a len cap) :
    Calls Try.prog 6 #[.slice a len cap] w fun e w' => e = .returned (.bool true) ∧ Below w.heap.size w w' := by
  have hm : cap ≤ maxLen := hb.2.2
  have hlc : len ≤ cap := hb.2.1
  unfold maxLen at hm
  have HB := Lib.hid hb
  clear hb
  by_cases hl : 1048576 < len
  · have hl' : (1048576 : Int) < len := by omega
    go_enter Try.func6, Try.ntmps6
    go_wp2
    go_ret
    exact ⟨rfl, Below.refl _ _⟩
  have hl' : ¬ (1048576 : Int) < len := by omega
  go_enter Try.func6, Try.ntmps6
  go_wp2_with fail
  refine (drawRunResources_any _ _ _ _ HB.out).mono ?_
  rintro e w1 ⟨g, cap1, sg, scap, jcap, ja, ts, ss, js, rfl, hn, hlc1, hcm1, hsn, hst, hjn, hr1, hos, hoj, b1⟩
  have R1 := Lib.hid hr1
  have OJ1 := Lib.hid hoj
  have RJ1 := Lib.hid hoj.rowJ
  have OS1 := Lib.hid hos
  have RS1 := Lib.hid hos.row
  have STB := Lib.hid hst
  clear hr1 hoj hos hst HB
  go_wp2_with fail
  refine (runResources_any _ _ _ _ _ _ ts ss js _ R1.out RS1.out RJ1.out STB.out (by omega) (by omega) (by omega)).mono ?_
  rintro e w2 ⟨⟨vr, vf, rfl, o1, o2, ap⟩, b2⟩
  obtain ⟨ra, rc, rfl⟩ := own_shape o1
  obtain ⟨fa, fc, rfl⟩ := own_shape o2
  have B2 : Below w.heap.size w w2 := b1.trans (b2.mono b1.size)
  have hs1 := b1.size
  have hs2 := b2.size
  obtain ⟨LR, hLR⟩ : ∃ LR, LR = lenRR ts ss js := ⟨_, rfl⟩
  obtain ⟨LF, hLF⟩ : ∃ LF, LF = lenFR ts ss js := ⟨_, rfl⟩
  rw [← hLR] at o1
  rw [← hLF] at o2
  have hlr : LR ≤ 120 := by rw [hLR, lenRR]; split <;> omega
  have hlf : LF ≤ 61 := by rw [hLF, lenFR]; split <;> omega
  have HLR := Lib.hid hLR
  have HLF := Lib.hid hLF
  rw [← hLR, ← hLF]
  have O1 := Lib.hid o1
  have O2 := Lib.hid o2
  have AP := Lib.hid ap
  clear hLR hLF o1 o2 ap
  go_wp2
  have X := fun o => (b2.trans ((below_box w2 o).mono hs2)).drew
  have R3 := Lib.hid fun o => R1.out.below (X o)
  have RJ3 := Lib.hid fun o => RJ1.out.below (X o)
  have RS3 := Lib.hid fun o => RS1.out.below (X o)
  have P1 := Lib.hid fun o => (O1.out.alloc o).drew
  have P2 := Lib.hid fun o => (O2.out.alloc o).drew
  have BX := Lib.hid fun o => (B2.trans ((below_box w2 o).mono (Nat.le_trans hs1 hs2))).drew
  clear X
  refine wp_region_noPanic ?_
  refine wp_region_held_drew (S := fun w' => w'.cell? ⟨w2.heap.size, 0, none⟩ = some (.slice ra LR rc) ∧ w'.cell? ⟨w2.heap.size, 1, none⟩ = some (.slice fa LF fc)) (by kernel_rfl) ?_ (fun hHeld => ?_)
  · (try dsimp only)
    (first | exact ⟨by simp [go_sem], by simp [go_sem]⟩ | exact ⟨(HB4.out.cell (p := ⟨w2.heap.size, 0, none⟩) (by simp)).trans hHeld.1, (HB4.out.cell (p := ⟨w2.heap.size, 1, none⟩) (by simp)).trans hHeld.2⟩ | exact ⟨(HB5.out.cell (p := ⟨w2.heap.size, 0, none⟩) (by have := HB4.out.size; simp at this; simp; omega)).trans hHeld.1, (HB5.out.cell (p := ⟨w2.heap.size, 1, none⟩) (by have := HB4.out.size; simp at this; simp; omega)).trans hHeld.2⟩)
  refine wpAnyH_take (i := 0) (v := ?_) (toArr_get _ 0 _ rfl) (by kernel_rfl) (by kernel_rfl) (by kernel_rfl) (fun _ _ _ h => h) (Or.inl ⟨by rfl, ?_⟩) (by assumption) ?_
  rotate_left
  · (intro w hSw; (try dsimp only at hSw); go_simp; (try with_reducible rfl))
  (try simp only [Act.put, List.setIfInBounds_toArray, List.set_cons_zero, List.set_cons_succ])
  refine wpAnyH_take (i := 1) (v := ?_) (toArr_get _ 1 _ rfl) (by kernel_rfl) (by kernel_rfl) (by kernel_rfl) (fun _ _ _ h => h) (Or.inl ⟨by rfl, ?_⟩) (by assumption) ?_
  rotate_left
  · (intro w hSw; (try dsimp only at hSw); go_simp; (try with_reducible rfl))
  (try simp only [Act.put, List.setIfInBounds_toArray, List.set_cons_zero, List.set_cons_succ])
  refine wpAnyH_take (i := 2) (v := ?_) (toArr_get _ 2 _ rfl) (by kernel_rfl) (by kernel_rfl) (by kernel_rfl) (fun _ _ _ h => h) (Or.inl ⟨by rfl, ?_⟩) (by assumption) ?_
  rotate_left
  · (intro w hSw; (try dsimp only at hSw); go_simp; (try with_reducible rfl))
  (try simp only [Act.put, List.setIfInBounds_toArray, List.set_cons_zero, List.set_cons_succ])
  refine wpAnyH_take (i := 3) (v := ?_) (toArr_get _ 3 _ rfl) (by kernel_rfl) (by kernel_rfl) (by kernel_rfl) (fun _ _ _ h => h) (Or.inl ⟨by rfl, ?_⟩) (by assumption) ?_
  rotate_left
  · (intro w hSw; (try dsimp only at hSw); go_simp; (try with_reducible rfl))
  (try simp only [Act.put, List.setIfInBounds_toArray, List.set_cons_zero, List.set_cons_succ])
  refine wpAnyH_ready (rs := [4]) (by kernel_rfl) (by simp) ?_
  refine AllReadyH.cons (toArr_get _ 4 _ rfl) (fun K hK => ?_) ?_
  · go_simp
    refine (specRunResources_any _ _ _ _ _ _ ts ss js _ (R3.out _) (RS3.out _) (RJ3.out _) (by omega) (by omega) (by omega)).mono ?_
    rintro e w4 ⟨⟨vr', vf', rfl, p1, p2, _⟩, b4⟩
    obtain ⟨ra', rc', rfl⟩ := own_shape p1
    obtain ⟨fa', fc', rfl⟩ := own_shape p2
    rw [← HLR.out] at p1
    rw [← HLF.out] at p2
    rw [← HLR.out, ← HLF.out]
    have I1 := Lib.hid (((P1.out _).below b4).intF')
    have I2 := Lib.hid (((P2.out _).below b4).intF')
    have I3 := Lib.hid p1.intF'
    have I4 := Lib.hid p2.intF'
    have HB4 := Lib.hid b4
    clear p1 p2 b4
    go_wp2_with fail
    refine hK.out _ _ ?_ (fun hHeld2 => ?_)
    · (try dsimp only)
      (first | exact ⟨by simp [go_sem], by simp [go_sem]⟩ | exact ⟨(HB4.out.cell (p := ⟨w2.heap.size, 0, none⟩) (by simp)).trans hHeld.1, (HB4.out.cell (p := ⟨w2.heap.size, 1, none⟩) (by simp)).trans hHeld.2⟩ | exact ⟨(HB5.out.cell (p := ⟨w2.heap.size, 0, none⟩) (by have := HB4.out.size; simp at this; simp; omega)).trans hHeld.1, (HB5.out.cell (p := ⟨w2.heap.size, 1, none⟩) (by have := HB4.out.size; simp at this; simp; omega)).trans hHeld.2⟩)
    clear hK K hHeld
    have hHeld := hHeld2
    clear hHeld2
    (try simp only [Act.put, List.setIfInBounds_toArray, List.set_cons_zero, List.set_cons_succ])
    refine wpAnyH_ready (rs := [5]) (by kernel_rfl) (by simp) ?_
    refine AllReadyH.cons (toArr_get _ 5 _ rfl) (fun K hK => ?_) ?_
    · go_simp
      refine (sameSchedule_same _ _ _ _ _ _ _ _ _ _ (srpF ts ss js) (srpFin ts ss js) _ I1.out I2.out I3.out I4.out (by omega) (by omega)).mono ?_
      rintro e w5 ⟨rfl, b5⟩
      have HB5 := Lib.hid b5
      clear b5 I1 I2 I3 I4
      go_wp2_with fail
      refine hK.out _ _ ?_ (fun hHeld2 => ?_)
      · (try dsimp only)
        (first | exact ⟨by simp [go_sem], by simp [go_sem]⟩ | exact ⟨(HB4.out.cell (p := ⟨w2.heap.size, 0, none⟩) (by simp)).trans hHeld.1, (HB4.out.cell (p := ⟨w2.heap.size, 1, none⟩) (by simp)).trans hHeld.2⟩ | exact ⟨(HB5.out.cell (p := ⟨w2.heap.size, 0, none⟩) (by have := HB4.out.size; simp at this; simp; omega)).trans hHeld.1, (HB5.out.cell (p := ⟨w2.heap.size, 1, none⟩) (by have := HB4.out.size; simp at this; simp; omega)).trans hHeld.2⟩)
      clear hK K hHeld
      have hHeld := hHeld2
      clear hHeld2
      (try simp only [Act.put, List.setIfInBounds_toArray, List.set_cons_zero, List.set_cons_succ])
      refine wpAnyH_take (i := 6) (v := ?_) (toArr_get _ 6 _ rfl) (by kernel_rfl) (by kernel_rfl) (by kernel_rfl) (fun _ _ _ h => h) (Or.inl ⟨by rfl, ?_⟩) (by assumption) ?_
      rotate_left
      · (intro w hSw; (try dsimp only at hSw); go_simp; (try with_reducible rfl))
      (try simp only [Act.put, List.setIfInBounds_toArray, List.set_cons_zero, List.set_cons_succ])
      refine wpAnyH_done (by kernel_rfl) ?_ _
      refine NoPanic.normal ?_
      have B4 : Below w2.heap.size w2 w5 := ((below_box w2 _).drew.trans ((HB4.out.trans (HB5.out.mono HB4.out.size)).mono (by simp)))
      have hs4 := HB4.out.size
      have hs5 := HB5.out.size
      simp at hs4
      have B5 : Below w.heap.size w w5 := B2.trans (B4.mono (Nat.le_trans hs1 hs2))
      have O15 := Lib.hid (O1.out.below B4)
      have O25 := Lib.hid (O2.out.below B4)
      have R5 := Lib.hid (R1.out.below (b2.trans (B4.mono hs2)))
      have RS5 := Lib.hid (RS1.out.below (b2.trans (B4.mono hs2)))
      have OJ5 := Lib.hid (OJ1.out.below (b2.trans (B4.mono hs2)))
      have RJ5 := Lib.hid OJ5.out.rowJ
      have sz5 : w2.heap.size < w5.heap.size := by omega
      obtain ⟨s0, s1⟩ := hHeld
      clear R1 RJ1 RS1 OS1 OJ1 O1 O2 R3 RJ3 RS3 P1 P2 BX HB4 HB5 B4 B2 b1 b2 hs4 hs5
      have hmk := run_make_secsR ts.length (by omega)
      have hc := runResources_any (some ⟨g, 0, none⟩) (some ⟨w5.heap.size, 0, none⟩) ja cap1 ts.length jcap ts (zs ts.length) js (w5.alloc (.cells (madeCells #[.int .i64 0, .int .i64 0, .int .i64 0] (ts.length * 3)) 39)) (R5.out.below (below_box _ _)) (row_zsR w5 ts.length) (RJ5.out.below (below_box _ _)) (st_zs _) (by omega) (by rw [zs_lenR]; omega) (by omega)
      rw [zs_lenR] at hc
      have HC := Lib.hid hc
      have BA := Lib.hid (B5.alloc (by have := B5.size; omega) (.cells (madeCells #[.int .i64 0, .int .i64 0, .int .i64 0] (ts.length * 3)) 39))
      have R6 := Lib.hid (R5.out.below (below_box w5 (.cells (madeCells #[.int .i64 0, .int .i64 0, .int .i64 0] (ts.length * 3)) 39)))
      have RJ6 := Lib.hid (RJ5.out.below (below_box w5 (.cells (madeCells #[.int .i64 0, .int .i64 0, .int .i64 0] (ts.length * 3)) 39)))
      clear hc s0 s1 R5 RJ5 RS5 O15 O25 OJ5
      go_wp2_with fail
      refine HC.out.mono ?_
      rintro e w6 ⟨⟨vr6, vf6, rfl, p1, p2, -⟩, b6⟩
      rw [(len_zsR ts js).1] at p1
      rw [(len_zsR ts js).2] at p2
      have p1 := p1.congr run_zsR
      have p2 := p2.congr fin_zsR
      obtain ⟨ra6, rc6, rfl⟩ := own_shape p1
      obtain ⟨fa6, fc6, rfl⟩ := own_shape p2
      have P16 := Lib.hid p1
      have P26 := Lib.hid p2
      have B6 := Lib.hid (BA.out.trans (b6.mono BA.out.size))
      have R7 := Lib.hid (R6.out.below b6)
      have RJ7 := Lib.hid (RJ6.out.below b6)
      clear p1 p2 b6 HC R6 RJ6
      go_wp2_with fail
      refine (runEdf_any _ _ _ _ ts js _ R7.out RJ7.out (by omega) (by omega)).mono ?_
      rintro e w7 ⟨⟨vr7, vf7, rfl, p1, p2, -⟩, b7⟩
      obtain ⟨ra7, rc7, rfl⟩ := own_shape p1
      obtain ⟨fa7, fc7, rfl⟩ := own_shape p2
      have I1 := Lib.hid (P16.out.below b7).intF'
      have I2 := Lib.hid (P26.out.below b7).intF'
      have I3 := Lib.hid p1.intF'
      have I4 := Lib.hid p2.intF'
      have B7 := Lib.hid (B6.out.trans (b7.mono B6.out.size))
      have hl1 : lenR ts js ≤ 120 := by unfold lenR; split <;> omega
      have hl2 : lenF ts js ≤ 61 := by unfold lenF; split <;> omega
      clear p1 p2 b7 P16 P26 R7 RJ7
      go_wp2_with fail
      refine (sameSchedule_same _ _ _ _ _ _ _ _ _ _ (runF js) (finF js) _ I1.out I2.out I3.out I4.out (by omega) (by omega)).mono ?_
      rintro e w8 ⟨rfl, b8⟩
      have B8 := Lib.hid (B7.out.trans (b8.mono B7.out.size))
      go_wp2_with fail
      refine (alive_any _).mono ?_
      rintro e w9 ⟨rfl, b9⟩
      go_wp2
      go_ret
      exact ⟨rfl, B8.out.trans (b9.mono B8.out.size)⟩
    exact AllReadyH.nil
  exact AllReadyH.nil

end Go.Proofs.Ytlagghoohloklaa
