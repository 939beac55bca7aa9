/- The walk of laws.FnCheckTamper, for whatever program keeps Impl9. Condition: the argument is a slice of bytes. -/
import Derived.StillTailTactics
import Derived.Test.YtdhdodmpfbgliaaDoorEdfImpl
import Derived.Test.YtdhdodmpfbgliaaDoorDrawEdf
import Derived.Test.YtdhdodmpfbgliaaDoorSame
import Derived.Test.YtdhdodmpfbgliaaDoorChkCon
namespace Go.Proofs.YtdhdodmpfbgliaaDoor
open Go.RowKit Go.Deep

/-- What a slice holds, in a later world. -/
theorem ownI_news {w w' : World} {base b c n : Nat} {r : Nat → Int} (h : OwnI w base (.slice (some ⟨b, 0, none⟩) n c) n r) (hb : Below w.heap.size w w') : ∀ (j : Nat) (u : Value), (vals r n)[j]? = some u → w'.cell? ((⟨b, 0, none⟩ : Addr).add j) = some u := by
  intro j u hj
  have hlt : j < n := by
    obtain ⟨h1, _⟩ := List.getElem?_eq_some_iff.1 hj
    rwa [vals_len] at h1
  rw [vals_at r hlt] at hj
  obtain rfl := Option.some.inj hj
  have := (h.below hb).cellAt hlt
  rw [show (⟨b, 0, none⟩ : Addr).add j = ⟨b, j, none⟩ by unfold Addr.add; split <;> simp_all]
  exact this.1

theorem vals_cells (f : Nat → Int) (n : Nat) : ∀ u ∈ vals f n, u.oneCell' = true := by
  intro u hu
  simp only [vals, List.mem_map] at hu
  obtain ⟨k, -, rfl⟩ := hu
  rfl

set_option maxRecDepth 100000 in
set_option maxHeartbeats 8000000 in
/-- laws.FnCheckTamper. -/
theorem fnCheckTamper_walk {G : World → Prop} (I9 : Impl9 G) (a : Option Addr) (len cap : Nat) (w : World) (hG : G w) (hb : Byts w a len cap) :
    Calls Tryd.prog 5 #[.slice a len cap] w fun e w' => e = .returned (.bool true) ∧ Below w.heap.size w w' := by
  have hm : cap ≤ maxLen := hb.2.2
  have hlc : len ≤ cap := hb.2.1
  unfold maxLen at hm
  have HB := Lib.hid hb
  clear hb
  have HI := Lib.hid I9
  have HG := Lib.hid hG
  clear I9 hG
  by_cases hl : 1048576 < len
  · have hl' : (1048576 : Int) < len := by omega
    go_enter Tryd.func5, Tryd.ntmps5
    go_wp2
    go_ret
    exact ⟨rfl, Below.refl _ _⟩
  have hl' : ¬ (1048576 : Int) < len := by omega
  go_enter Tryd.func5, Tryd.ntmps5
  go_wp2_with fail
  refine (drawRunEdf_any _ _ _ _ HB.out).mono ?_
  rintro e w1 ⟨g, cap1, jcap, ja, ts, js, rfl, hn, hlc1, hcm1, hjn, hr1, hoj, b1⟩
  have R1 := Lib.hid hr1
  have OJ1 := Lib.hid hoj
  have RJ1 := Lib.hid hoj.rowJ
  clear hr1 hoj HB
  go_wp2_with fail
  refine (runEdf_any _ _ _ _ ts js _ R1.out RJ1.out (by omega) (by omega)).mono ?_
  rintro e w2 ⟨⟨vr, vf, rfl, o1, o2, ap⟩, b2⟩
  obtain ⟨ra, rc, rfl⟩ := own_shape o1
  obtain ⟨fa, fc, rfl⟩ := own_shape o2
  have B2 : Below w.heap.size w w2 := b1.trans (b2.mono b1.size)
  have hs1 := b1.size
  have hs2 := b2.size
  obtain ⟨LR, hLR⟩ : ∃ LR, LR = lenR ts js := ⟨_, rfl⟩
  obtain ⟨LF, hLF⟩ : ∃ LF, LF = lenF ts js := ⟨_, rfl⟩
  rw [← hLR] at o1
  rw [← hLF] at o2
  have hlr : LR ≤ 120 := by rw [hLR, lenR]; split <;> omega
  have hlf : LF ≤ 61 := by rw [hLF, lenF]; split <;> omega
  have HLR := Lib.hid hLR
  have HLF := Lib.hid hLF
  rw [← hLR, ← hLF]
  have O1 := Lib.hid o1
  have O2 := Lib.hid o2
  have AP := Lib.hid ap
  clear hLR hLF o1 o2 ap
  go_wp2
  have X := fun o => (b2.trans ((below_box w2 o).mono hs2)).drew
  have R3 := Lib.hid fun o => R1.out.below (X o)
  have RJ3 := Lib.hid fun o => RJ1.out.below (X o)
  have P1 := Lib.hid fun o => (O1.out.alloc o).drew
  have P2 := Lib.hid fun o => (O2.out.alloc o).drew
  have BX := Lib.hid fun o => (B2.trans ((below_box w2 o).mono (Nat.le_trans hs1 hs2))).drew
  clear X
  refine wp_region_noPanic ?_
  refine wp_region_held_drew (S := fun w' => w'.cell? ⟨w2.heap.size, 0, none⟩ = some (.slice ra LR rc) ∧ w'.cell? ⟨w2.heap.size, 1, none⟩ = some (.slice fa LF fc)) (by kernel_rfl) ?_ (fun hHeld => ?_)
  · (try dsimp only)
    (first | exact ⟨by simp [go_sem], by simp [go_sem]⟩ | exact ⟨(HB4.out.cell (p := ⟨w2.heap.size, 0, none⟩) (by simp)).trans hHeld.1, (HB4.out.cell (p := ⟨w2.heap.size, 1, none⟩) (by simp)).trans hHeld.2⟩ | exact ⟨(HB5.out.cell (p := ⟨w2.heap.size, 0, none⟩) (by have := HB4.out.size; simp at this; simp; omega)).trans hHeld.1, (HB5.out.cell (p := ⟨w2.heap.size, 1, none⟩) (by have := HB4.out.size; simp at this; simp; omega)).trans hHeld.2⟩)
  refine wpAnyH_take (i := 0) (v := ?_) (toArr_get _ 0 _ rfl) (by kernel_rfl) (by kernel_rfl) (by kernel_rfl) (fun _ _ _ h => h) (Or.inl ⟨by rfl, ?_⟩) (by assumption) ?_
  rotate_left
  · (intro w hSw; (try dsimp only at hSw); go_simp; (try with_reducible rfl))
  (try simp only [Act.put, List.setIfInBounds_toArray, List.set_cons_zero, List.set_cons_succ])
  refine wpAnyH_take (i := 1) (v := ?_) (toArr_get _ 1 _ rfl) (by kernel_rfl) (by kernel_rfl) (by kernel_rfl) (fun _ _ _ h => h) (Or.inl ⟨by rfl, ?_⟩) (by assumption) ?_
  rotate_left
  · (intro w hSw; (try dsimp only at hSw); go_simp; (try with_reducible rfl))
  (try simp only [Act.put, List.setIfInBounds_toArray, List.set_cons_zero, List.set_cons_succ])
  refine wpAnyH_take (i := 2) (v := ?_) (toArr_get _ 2 _ rfl) (by kernel_rfl) (by kernel_rfl) (by kernel_rfl) (fun _ _ _ h => h) (Or.inl ⟨by rfl, ?_⟩) (by assumption) ?_
  rotate_left
  · (intro w hSw; (try dsimp only at hSw); go_simp; (try with_reducible rfl))
  (try simp only [Act.put, List.setIfInBounds_toArray, List.set_cons_zero, List.set_cons_succ])
  refine wpAnyH_ready (rs := [3]) (by kernel_rfl) (by simp) ?_
  refine AllReadyH.cons (toArr_get _ 3 _ rfl) (fun K hK => ?_) ?_
  · go_simp
    refine (specRunEdf_any _ _ _ _ ts js _ (R3.out _) (RJ3.out _) (by omega) (by omega)).mono ?_
    rintro e w4 ⟨⟨vr', vf', rfl, p1, p2, _⟩, b4⟩
    obtain ⟨ra', rc', rfl⟩ := own_shape p1
    obtain ⟨fa', fc', rfl⟩ := own_shape p2
    rw [← HLR.out] at p1
    rw [← HLF.out] at p2
    rw [← HLR.out, ← HLF.out]
    have I1 := Lib.hid (((P1.out _).below b4).intF')
    have I2 := Lib.hid (((P2.out _).below b4).intF')
    have I3 := Lib.hid p1.intF'
    have I4 := Lib.hid p2.intF'
    have HB4 := Lib.hid b4
    clear p1 p2 b4
    go_wp2_with fail
    refine hK.out _ _ ?_ (fun hHeld2 => ?_)
    · (try dsimp only)
      (first | exact ⟨by simp [go_sem], by simp [go_sem]⟩ | exact ⟨(HB4.out.cell (p := ⟨w2.heap.size, 0, none⟩) (by simp)).trans hHeld.1, (HB4.out.cell (p := ⟨w2.heap.size, 1, none⟩) (by simp)).trans hHeld.2⟩ | exact ⟨(HB5.out.cell (p := ⟨w2.heap.size, 0, none⟩) (by have := HB4.out.size; simp at this; simp; omega)).trans hHeld.1, (HB5.out.cell (p := ⟨w2.heap.size, 1, none⟩) (by have := HB4.out.size; simp at this; simp; omega)).trans hHeld.2⟩)
    clear hK K hHeld
    have hHeld := hHeld2
    clear hHeld2
    (try simp only [Act.put, List.setIfInBounds_toArray, List.set_cons_zero, List.set_cons_succ])
    refine wpAnyH_ready (rs := [4]) (by kernel_rfl) (by simp) ?_
    refine AllReadyH.cons (toArr_get _ 4 _ rfl) (fun K hK => ?_) ?_
    · go_simp
      refine (sameSchedule_same _ _ _ _ _ _ _ _ _ _ (runF js) (finF js) _ I1.out I2.out I3.out I4.out (by omega) (by omega)).mono ?_
      rintro e w5 ⟨rfl, b5⟩
      have HB5 := Lib.hid b5
      clear b5 I1 I2 I3 I4
      go_wp2_with fail
      refine hK.out _ _ ?_ (fun hHeld2 => ?_)
      · (try dsimp only)
        (first | exact ⟨by simp [go_sem], by simp [go_sem]⟩ | exact ⟨(HB4.out.cell (p := ⟨w2.heap.size, 0, none⟩) (by simp)).trans hHeld.1, (HB4.out.cell (p := ⟨w2.heap.size, 1, none⟩) (by simp)).trans hHeld.2⟩ | exact ⟨(HB5.out.cell (p := ⟨w2.heap.size, 0, none⟩) (by have := HB4.out.size; simp at this; simp; omega)).trans hHeld.1, (HB5.out.cell (p := ⟨w2.heap.size, 1, none⟩) (by have := HB4.out.size; simp at this; simp; omega)).trans hHeld.2⟩)
      clear hK K hHeld
      have hHeld := hHeld2
      clear hHeld2
      (try simp only [Act.put, List.setIfInBounds_toArray, List.set_cons_zero, List.set_cons_succ])
      refine wpAnyH_take (i := 5) (v := ?_) (toArr_get _ 5 _ rfl) (by kernel_rfl) (by kernel_rfl) (by kernel_rfl) (fun _ _ _ h => h) (Or.inl ⟨by rfl, ?_⟩) (by assumption) ?_
      rotate_left
      · (intro w hSw; (try dsimp only at hSw); go_simp; (try with_reducible rfl))
      (try simp only [Act.put, List.setIfInBounds_toArray, List.set_cons_zero, List.set_cons_succ])
      refine wpAnyH_done (by kernel_rfl) ?_ _
      refine NoPanic.normal ?_
      have B4 : Below w2.heap.size w2 w5 := ((below_box w2 _).drew.trans ((HB4.out.trans (HB5.out.mono HB4.out.size)).mono (by simp)))
      have hs4 := HB4.out.size
      have hs5 := HB5.out.size
      simp at hs4
      have B5 : Below w.heap.size w w5 := B2.trans (B4.mono (Nat.le_trans hs1 hs2))
      have O15 := Lib.hid (O1.out.below B4)
      have O25 := Lib.hid (O2.out.below B4)
      have R5 := Lib.hid (R1.out.below (b2.trans (B4.mono hs2)))
      have OJ5 := Lib.hid (OJ1.out.below (b2.trans (B4.mono hs2)))
      have RJ5 := Lib.hid OJ5.out.rowJ
      have sz5 : w2.heap.size < w5.heap.size := by omega
      obtain ⟨s0, s1⟩ := hHeld
      clear R1 RJ1 OJ1 O1 O2 R3 RJ3 P1 P2 BX HB4 HB5 B4 B2 b1 b2 hs4 hs5
      have p := ck9_bd ts js LR (runF js)
      obtain ⟨c, hc⟩ : ∃ c, c = (ck9 ts js LR (runF js)).1 := ⟨_, rfl⟩
      obtain ⟨t, ht⟩ : ∃ t, t = (ck9 ts js LR (runF js)).2 := ⟨_, rfl⟩
      rw [← hc, ← ht] at p
      have HC := Lib.hid hc
      have HT := Lib.hid ht
      have P := Lib.hid p
      clear p hc ht
      go_wp2_with fail
      refine (HI.out.check _ _ _ _ _ _ LR ts js (runF js) _ (HI.out.keep HG.out B5) R5.out RJ5.out O15.out.intF' (by omega) (by omega) (by omega)).mono ?_
      rintro e w6 ⟨rfl, b6⟩
      rw [← HC.out, ← HT.out]
      have B6 : Below w.heap.size w w6 := B5.trans (b6.mono (by have := B5.size; omega))
      have t0 := (b6.cell (p := ⟨w2.heap.size, 0, none⟩) sz5).trans s0
      have t1 := (b6.cell (p := ⟨w2.heap.size, 1, none⟩) sz5).trans s1
      have hs6 := b6.size
      have R6 := Lib.hid (R5.out.below b6)
      have RJ6 := Lib.hid (RJ5.out.below b6)
      have O16 := Lib.hid (O15.out.below b6)
      have O26 := Lib.hid (O25.out.below b6)
      clear s0 s1 R5 RJ5 O25 O15 B5 b6 OJ5
      
      obtain ⟨i0, xi, xz, xsz, xby⟩ := info_parts intInfo
      have HX := Lib.hid (And.intro xi (And.intro xz (And.intro xsz xby)))
      clear xi xz xsz xby
      by_cases h0 : c = 0
      · subst h0
        have hok := HC.out.symm
        have hl9 := ck9_ok.1 hok
        have hlr2 : LR = 120 := hl9.2.1
        subst hlr2
        have HOK := Lib.hid hok
        obtain ⟨gr, rc', e8, hgr, hgs, hrc, -⟩ := O16.out.at (by omega)
        simp only [Value.slice.injEq, true_and] at e8
        obtain ⟨rfl, rfl⟩ := e8
        obtain ⟨m, hm⟩ : ∃ m, m = len * 7 % 120 := ⟨_, rfl⟩
        have hm9 : m < 120 := by omega
        have hw7 : IntKind.i64.wrap ((len : Int) * 7) = ((len * 7 : Nat) : Int) := by rw [IntWalk.i64_in _ (by omega)]; omega
        have htm : ((len * 7 : Nat) : Int).tmod 120 = (m : Int) := by rw [hm]; rfl
        have htm2 : ((len : Int) * 7).tmod 120 = (m : Int) := by rw [← htm]; congr 1
        have hwm : IntKind.i64.wrap (m : Int) = (m : Int) := IntWalk.i64_in _ (by omega)
        obtain ⟨x0, x1⟩ := O16.out.cellAt hm9
        obtain ⟨X, hX⟩ : ∃ X, X = runF js m := ⟨_, rfl⟩
        rw [← hX] at x0
        have hm0 : (0 : Int) ≤ m := by omega
        have hm1 : (m : Int) < 120 := by omega
        clear hok hl9 P HC HT hm
        by_cases hneg : X < 0
        · go_wp2
          go_ret
          exact ⟨rfl, B6⟩
        · have hpos : 0 ≤ runF js m := by rw [← hX]; omega
          have HP := Lib.hid hpos
          have ta := fun o => ((below_box w6 o).cell (p := ⟨w2.heap.size, 0, none⟩) (by simp; omega)).trans t0
          have NEWS := Lib.hid (fun o => ownI_news O16.out (below_box w6 o))
          clear hpos hX
          go_wp2_with (at_builtin; go_loud (refine wpList_append_own _ rfl (.tmp 50) (.tmp 52) 27 rfl w6.heap.size 3 i0 _ 1 8 Tryd.underlying27 HX.out.1 HX.out.2.1 HX.out.2.2.1 HX.out.2.2.2 rfl (by decide) _ 0 (vals (runF js) 0) rfl (OwnI.empty w6 _) ⟨gr, 0, none⟩ 120 rc (vals (runF js) 120) rfl (by rw [vals_len, Nat.mul_one]) (NEWS.out _) (vals_cells _ _) (by unfold maxLen; omega) (by omega) (below_box w6 _).size ?_; intro v7 w7 hown hgrow hnil; have HB7 := Lib.hid (show Below w6.heap.size w6 w7 from (below_box w6 _).grown hgrow (below_box w6 _).size (fun k hk => (OwnI.empty w6 (fun _ => 0)).from k hk)); have O7 := Lib.hid (show OwnI w7 w6.heap.size v7 120 (runF js) by unfold OwnI; simpa [vals] using hown); clear hown hgrow hnil; obtain ⟨g7, c7, rfl, hg7, hs7, hc7, -⟩ := O7.out.at (by omega); obtain ⟨y0, y1⟩ := O7.out.cellAt hm9))
          have O8 := Lib.hid (O7.out.set hm9 (-1))
          have HT := Lib.hid (ck9_tamper (r' := fun k => if k = m then -1 else runF js k) HOK.out hm9 HP.out (if_pos rfl) (fun t ht => if_neg (by omega)))
          have HB8 := Lib.hid (HB7.out.setCell (p := ⟨g7, m, none⟩) hg7 (.int .i64 (-1)))
          have R8 := Lib.hid (R6.out.below HB8.out)
          have RJ8 := Lib.hid (RJ6.out.below HB8.out)
          have B8 := B6.trans (HB8.out.mono B6.size)
          clear O7 HB7 NEWS
          go_wp2_with fail
          refine (HI.out.check _ _ _ _ _ _ 120 ts js (fun k => if k = m then -1 else runF js k) _ (HI.out.keep HG.out B8) R8.out RJ8.out O8.out.intF' (by omega) (by omega) (by omega)).mono ?_
          rintro e w9 ⟨rfl, b9⟩
          rw [HT.out]
          go_wp2
          go_ret
          exact ⟨rfl, B8.trans (b9.mono B8.size)⟩
      · have hc0 : ¬ (c : Int) = 0 := by omega
        clear HC HT P
        go_wp2_with fail
        refine (alive_any _).mono ?_
        rintro e w7 ⟨rfl, b7⟩
        go_wp2
        go_ret
        exact ⟨rfl, B6.trans (b7.mono B6.size)⟩
    exact AllReadyH.nil
  exact AllReadyH.nil

end Go.Proofs.YtdhdodmpfbgliaaDoor
