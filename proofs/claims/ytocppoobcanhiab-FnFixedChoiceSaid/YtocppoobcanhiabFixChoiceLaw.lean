/- The walk of laws.FnFixedChoice, for whatever code. Condition: the argument is a slice of bytes. -/
import Derived.Test.YtocppoobcanhiabFixRunImpl
import Derived.Test.YtocppoobcanhiabDrawFix
import Derived.Test.YtocppoobcanhiabSame
import Derived.BigQuiet
import Derived.StillTailTactics
namespace Go.Proofs.Ytocppoobcanhiab
open Go.RowKit Go.Deep

theorem ran_next (P : Pat) (i t : Nat) : P.ran i (t + 1) = P.ran i t + if P.run t = some i then 1 else 0 := rfl
/-- The places of the tasks, as far as the first k entries of the order tell them. -/
def rkC (os : List Int) (k i : Nat) : Int := if rk os i < k then (rk os i : Int) else 0
theorem rkC_step {ts : List T3} {os : List Int} (h : ordB ts os = true) {k y : Nat} (hk : k < os.length) (hy : os.getD k 0 = (y : Int)) (hyl : y < ts.length) (i : Nat) (hi : i < ts.length) :
    (if i = y then (Value.int .i64 (k : Int)) else .int .i64 (rkC os k i)) = .int .i64 (rkC os (k + 1) i) := by
  have hp := rk_place' h hk hy
  unfold rkC
  by_cases e : i = y
  · subst e
    rw [if_pos rfl, if_pos (by omega), hp]
  · rw [if_neg e]
    have hne : rk os i ≠ k := fun e2 => e (rk_inj h i y hi hyl (e2.trans hp.symm))
    by_cases hl : rk os i < k
    · rw [if_pos hl, if_pos (by omega)]
    · rw [if_neg hl, if_neg (by omega)]
theorem rkC_all {ts : List T3} {os : List Int} (h : ordB ts os = true) {i : Nat} (hi : i < ts.length) : rkC os os.length i = (rk os i : Int) := if_pos (rk_lt (ord_all h hi))
set_option maxRecDepth 100000 in
set_option maxHeartbeats 8000000 in
/-- laws.FnFixedChoice. -/
theorem fnFixedChoice_walk (a : Option Addr) (len cap : Nat) (w : World) (hb : Byts w a len cap) :
    Calls Try.prog 9 #[.slice a len cap] w fun e w' => e = .returned (.bool true) ∧ Below w.heap.size w w' := by
  have hm : cap ≤ maxLen := hb.2.2
  have hlc : len ≤ cap := hb.2.1
  unfold maxLen at hm
  have HB := Lib.hid hb
  clear hb
  by_cases hl : 1048576 < len
  · have hl' : (1048576 : Int) < len := by omega
    go_enter Try.func9, Try.ntmps9
    go_wp2
    go_ret
    exact ⟨rfl, Below.refl _ _⟩
  have hl' : ¬ (1048576 : Int) < len := by omega
  go_enter Try.func9, Try.ntmps9
  go_wp2_with fail
  refine (drawRunFixed_any _ _ _ _ HB.out).mono ?_
  rintro e w1 ⟨g, cap1, og, ocap, jcap, ja, ts, os, js, rfl, hn, hlc1, hcm1, hon, hoc, hjn, hr1, hoo, hoj, b1⟩
  have R1 := Lib.hid hr1
  have OO1 := Lib.hid hoo
  have IO1 := Lib.hid hoo.intF'
  have OJ1 := Lib.hid hoj
  have RJ1 := Lib.hid hoj.rowJ
  clear hr1 hoj hoo HB
  go_wp2_with fail
  refine (runFixed_any _ _ _ _ _ _ ts os js _ R1.out IO1.out RJ1.out (by omega) (by omega)).mono ?_
  rintro e w2 ⟨⟨vr, vf, rfl, o1, o2, ap⟩, b2⟩
  obtain ⟨ra, rc, rfl⟩ := own_shape o1
  obtain ⟨fa, fc, rfl⟩ := own_shape o2
  have B2 : Below w.heap.size w w2 := b1.trans (b2.mono b1.size)
  have hs1 := b1.size
  have hs2 := b2.size
  obtain ⟨LR, hLR⟩ : ∃ LR, LR = lenRF ts os js := ⟨_, rfl⟩
  obtain ⟨LF, hLF⟩ : ∃ LF, LF = lenFF ts os js := ⟨_, rfl⟩
  rw [← hLR] at o1
  rw [← hLF] at o2
  have hlr : LR ≤ 120 := by rw [hLR, lenRF]; split <;> omega
  have hlf : LF ≤ 61 := by rw [hLF, lenFF]; split <;> omega
  have HLR := Lib.hid hLR
  have HLF := Lib.hid hLF
  rw [← hLR, ← hLF]
  have O1 := Lib.hid o1
  have O2 := Lib.hid o2
  have AP := Lib.hid ap
  clear hLR hLF o1 o2 ap
  go_wp2
  have X := fun o => (b2.trans ((below_box w2 o).mono hs2)).drew
  have R3 := Lib.hid fun o => R1.out.below (X o)
  have IO3 := Lib.hid fun o => IO1.out.below (X o)
  have RJ3 := Lib.hid fun o => RJ1.out.below (X o)
  have P1 := Lib.hid fun o => (O1.out.alloc o).drew
  have P2 := Lib.hid fun o => (O2.out.alloc o).drew
  clear X
  refine wp_region_noPanic ?_
  refine wp_region_held_drew (S := fun w' => w'.cell? ⟨w2.heap.size, 0, none⟩ = some (.slice ra LR rc) ∧ w'.cell? ⟨w2.heap.size, 1, none⟩ = some (.slice fa LF fc)) (by kernel_rfl) ?_ (fun hHeld => ?_)
  · (try dsimp only)
    (first | exact ⟨by simp [go_sem], by simp [go_sem]⟩ | exact ⟨(HB4.out.cell (p := ⟨w2.heap.size, 0, none⟩) (by simp)).trans hHeld.1, (HB4.out.cell (p := ⟨w2.heap.size, 1, none⟩) (by simp)).trans hHeld.2⟩ | exact ⟨(HB5.out.cell (p := ⟨w2.heap.size, 0, none⟩) (by have := HB4.out.size; simp at this; simp; omega)).trans hHeld.1, (HB5.out.cell (p := ⟨w2.heap.size, 1, none⟩) (by have := HB4.out.size; simp at this; simp; omega)).trans hHeld.2⟩)
  refine wpAnyH_take (i := 0) (v := ?_) (toArr_get _ 0 _ rfl) (by kernel_rfl) (by kernel_rfl) (by kernel_rfl) (fun _ _ _ h => h) (Or.inl ⟨by rfl, ?_⟩) (by assumption) ?_
  rotate_left
  · (intro w hSw; (try dsimp only at hSw); go_simp; (try with_reducible rfl))
  (try simp only [Act.put, List.setIfInBounds_toArray, List.set_cons_zero, List.set_cons_succ])
  refine wpAnyH_take (i := 1) (v := ?_) (toArr_get _ 1 _ rfl) (by kernel_rfl) (by kernel_rfl) (by kernel_rfl) (fun _ _ _ h => h) (Or.inl ⟨by rfl, ?_⟩) (by assumption) ?_
  rotate_left
  · (intro w hSw; (try dsimp only at hSw); go_simp; (try with_reducible rfl))
  (try simp only [Act.put, List.setIfInBounds_toArray, List.set_cons_zero, List.set_cons_succ])
  refine wpAnyH_take (i := 2) (v := ?_) (toArr_get _ 2 _ rfl) (by kernel_rfl) (by kernel_rfl) (by kernel_rfl) (fun _ _ _ h => h) (Or.inl ⟨by rfl, ?_⟩) (by assumption) ?_
  rotate_left
  · (intro w hSw; (try dsimp only at hSw); go_simp; (try with_reducible rfl))
  (try simp only [Act.put, List.setIfInBounds_toArray, List.set_cons_zero, List.set_cons_succ])
  refine wpAnyH_take (i := 3) (v := ?_) (toArr_get _ 3 _ rfl) (by kernel_rfl) (by kernel_rfl) (by kernel_rfl) (fun _ _ _ h => h) (Or.inl ⟨by rfl, ?_⟩) (by assumption) ?_
  rotate_left
  · (intro w hSw; (try dsimp only at hSw); go_simp; (try with_reducible rfl))
  (try simp only [Act.put, List.setIfInBounds_toArray, List.set_cons_zero, List.set_cons_succ])
  refine wpAnyH_ready (rs := [4]) (by kernel_rfl) (by simp) ?_
  refine AllReadyH.cons (toArr_get _ 4 _ rfl) (fun K hK => ?_) ?_
  · go_simp
    refine (specRunFixed_any _ _ _ _ _ _ ts os js _ (R3.out _) (IO3.out _) (RJ3.out _) (by omega) hoc (by omega)).mono ?_
    rintro e w4 ⟨⟨vr', vf', rfl, p1, p2, _⟩, b4⟩
    obtain ⟨ra', rc', rfl⟩ := own_shape p1
    obtain ⟨fa', fc', rfl⟩ := own_shape p2
    rw [← HLR.out] at p1
    rw [← HLF.out] at p2
    rw [← HLR.out, ← HLF.out]
    have I1 := Lib.hid (((P1.out _).below b4).intF')
    have I2 := Lib.hid (((P2.out _).below b4).intF')
    have I3 := Lib.hid p1.intF'
    have I4 := Lib.hid p2.intF'
    have HB4 := Lib.hid b4
    clear p1 p2 b4
    go_wp2_with fail
    refine hK.out _ _ ?_ (fun hHeld2 => ?_)
    · (try dsimp only)
      (first | exact ⟨by simp [go_sem], by simp [go_sem]⟩ | exact ⟨(HB4.out.cell (p := ⟨w2.heap.size, 0, none⟩) (by simp)).trans hHeld.1, (HB4.out.cell (p := ⟨w2.heap.size, 1, none⟩) (by simp)).trans hHeld.2⟩ | exact ⟨(HB5.out.cell (p := ⟨w2.heap.size, 0, none⟩) (by have := HB4.out.size; simp at this; simp; omega)).trans hHeld.1, (HB5.out.cell (p := ⟨w2.heap.size, 1, none⟩) (by have := HB4.out.size; simp at this; simp; omega)).trans hHeld.2⟩)
    clear hK K hHeld
    have hHeld := hHeld2
    clear hHeld2
    (try simp only [Act.put, List.setIfInBounds_toArray, List.set_cons_zero, List.set_cons_succ])
    refine wpAnyH_ready (rs := [5]) (by kernel_rfl) (by simp) ?_
    refine AllReadyH.cons (toArr_get _ 5 _ rfl) (fun K hK => ?_) ?_
    · go_simp
      refine (sameSchedule_same _ _ _ _ _ _ _ _ _ _ (runX os js) (finX os js) _ I1.out I2.out I3.out I4.out (by omega) (by omega)).mono ?_
      rintro e w5 ⟨rfl, b5⟩
      have HB5 := Lib.hid b5
      clear b5 I1 I2 I3 I4
      go_wp2_with fail
      refine hK.out _ _ ?_ (fun hHeld2 => ?_)
      · (try dsimp only)
        (first | exact ⟨by simp [go_sem], by simp [go_sem]⟩ | exact ⟨(HB4.out.cell (p := ⟨w2.heap.size, 0, none⟩) (by simp)).trans hHeld.1, (HB4.out.cell (p := ⟨w2.heap.size, 1, none⟩) (by simp)).trans hHeld.2⟩ | exact ⟨(HB5.out.cell (p := ⟨w2.heap.size, 0, none⟩) (by have := HB4.out.size; simp at this; simp; omega)).trans hHeld.1, (HB5.out.cell (p := ⟨w2.heap.size, 1, none⟩) (by have := HB4.out.size; simp at this; simp; omega)).trans hHeld.2⟩)
      clear hK K hHeld
      have hHeld := hHeld2
      clear hHeld2
      (try simp only [Act.put, List.setIfInBounds_toArray, List.set_cons_zero, List.set_cons_succ])
      refine wpAnyH_take (i := 6) (v := ?_) (toArr_get _ 6 _ rfl) (by kernel_rfl) (by kernel_rfl) (by kernel_rfl) (fun _ _ _ h => h) (Or.inl ⟨by rfl, ?_⟩) (by assumption) ?_
      rotate_left
      · (intro w hSw; (try dsimp only at hSw); go_simp; (try with_reducible rfl))
      (try simp only [Act.put, List.setIfInBounds_toArray, List.set_cons_zero, List.set_cons_succ])
      refine wpAnyH_done (by kernel_rfl) ?_ _
      refine NoPanic.normal ?_
      have B4 : Below w2.heap.size w2 w5 := ((below_box w2 _).drew.trans ((HB4.out.trans (HB5.out.mono HB4.out.size)).mono (by simp)))
      have hs4 := HB4.out.size
      have hs5 := HB5.out.size
      simp at hs4
      have B5 : Below w.heap.size w w5 := B2.trans (B4.mono (Nat.le_trans hs1 hs2))
      have O15 := Lib.hid (O1.out.below B4)
      have O25 := Lib.hid (O2.out.below B4)
      have R5 := Lib.hid (R1.out.below (b2.trans (B4.mono hs2)))
      have OO5 := Lib.hid (OO1.out.below (b2.trans (B4.mono hs2)))
      have IO5 := Lib.hid OO5.out.intF'
      have OJ5 := Lib.hid (OJ1.out.below (b2.trans (B4.mono hs2)))
      have RJ5 := Lib.hid OJ5.out.rowJ
      have sz5 : w2.heap.size < w5.heap.size := by omega
      obtain ⟨s0, s1⟩ := hHeld
      clear R1 RJ1 OJ1 IO1 OO1 O1 O2 R3 IO3 RJ3 P1 P2 HB4 HB5 B4 B2 b1 b2 hs4 hs5
      by_cases hok : okF ts os js = true
      · obtain ⟨hord, hleg⟩ := okF_iff.1 hok
        have HL := Lib.hid hleg
        have HO := Lib.hid hord
        have hlr2 : LR = 120 := by rw [HLR.out, lenRF, if_pos hok]
        have hlf2 : LF = js.length := by rw [HLF.out, lenFF, if_pos hok]
        have h60 := (legB_iff.1 hleg).2.1
        subst hlf2
        subst hlr2
        clear hleg hord hok
        obtain ⟨gr, rc', er, hgr, hgr', _, _, yr⟩ := O15.out.at (by omega)
        simp only [Value.slice.injEq] at er
        obtain ⟨rfl, _, rfl⟩ := er
        have YR := Lib.hid yr
        have HS := Lib.hid (And.intro s0 s1)
        clear yr
        have hmk := run_make_ints ts.length (by omega)
        go_wp2
        clear hmk s0 s1
        go_loopg [8] os.length (fun m i wr => ∃ k : Nat, m + k = os.length ∧ i = .int .i64 k ∧ wr.rowIs w5.heap.size 3 ts.length (fun i => .int .i64 (rkC os k i)) ∧ Below w5.heap.size w5 wr ∧ w5.heap.size < wr.heap.size)
        case atStart => exact ⟨0, by omega, rfl, (World.rowIs_made w5 (.int .i64 0) ts.length 3).congr (fun i _ => by simp [rkC]), below_box _ _, by simp⟩
        case round =>
          obtain ⟨k, hk, rfl, hrow, B, hsz⟩ := hrel
          have HK := Lib.hid hk
          have HRW := Lib.hid hrow
          have hkk : k ≤ os.length := by omega
          clear hk hrow
          by_cases hlt : k < os.length
          · have hk0 : (0 : Int) ≤ k := by omega
            have hk1 : (k : Int) < os.length := by omega
            obtain ⟨bo, oo, ea, hbo, x0⟩ := (IO5.out.below B) k hlt
            simp only [Option.some.injEq, Addr.mk.injEq, and_true] at ea
            obtain ⟨rfl, rfl⟩ := ea
            have hyb := ord_at HO.out hlt
            obtain ⟨y, hy⟩ : ∃ y, y = (os.getD k 0).toNat := ⟨_, rfl⟩
            have hy' : os.getD k 0 = (y : Int) := by omega
            have HY := Lib.hid hy'
            simp only [hy', Nat.zero_add] at x0
            have hyl : y < ts.length := by omega
            have hy0 : (0 : Int) ≤ y := by omega
            have hy1 : (y : Int) < ts.length := by omega
            have z0 := HRW.out.cell hyl
            have z1 := HRW.out.frozen y
            clear hy hyb hy'
            go_wp2
            go_roundg (gk - 1)
            case measure => have := HK.out; omega
            case rel => exact ⟨k + 1, by have := HK.out; omega, by go_num, (World.rowIs.set HRW.out y (.int .i64 (k : Int))).congr (fun j hj => rkC_step HO.out hlt HY.out hyl j hj), B.setCell (Nat.le_refl _) _, by simpa [World.setCell] using hsz⟩
          · obtain rfl : k = os.length := by omega
            have HRK := Lib.hid (HRW.out.congr (fun j hj => by rw [rkC_all HO.out hj]))
            obtain ⟨w6, hw6⟩ : ∃ w6, w6 = wr := ⟨_, rfl⟩
            subst hw6
            have RJ6 := Lib.hid (RJ5.out.below B)
            have YR6 := Lib.hid (fun t ht => (B.cell (p := ⟨gr, t, none⟩) hgr').trans (YR.out t ht))
            have HS6 := Lib.hid ((B.cell (p := ⟨w2.heap.size, 0, none⟩) sz5).trans HS.out.1)
            have B6 := B5.trans (B.mono B5.size)
            have sz6 : w2.heap.size < w6.heap.size := by omega
            have gr6 : gr < w6.heap.size := by have := B.size; omega
            have rk6 : w5.heap.size < w6.heap.size := hsz
            clear HRW YR HS B B5 RJ5 hsz HK
            have hmk := run_make_ints js.length (by omega)
            go_wp2
            clear hmk
            go_loopg [10] 120 (fun m i wr => ∃ t : Nat, m + t = 120 ∧ i = .int .i64 t ∧ wr.rowIs w6.heap.size 3 js.length (fun i => .int .i64 (((fxP os js).ran i t : Nat) : Int)) ∧ Below w6.heap.size w6 wr ∧ w6.heap.size < wr.heap.size)
            case atStart => exact ⟨0, rfl, rfl, World.rowIs_made w6 (.int .i64 0) js.length 3, below_box _ _, by simp⟩
            case round =>
              obtain ⟨t, hk, rfl, hrow, B, hsz⟩ := hrel
              obtain ⟨G, hG⟩ : ∃ G, G = gk := ⟨_, rfl⟩
              have HG := Lib.hid hG
              have HT := Lib.hid hk
              have HRW := Lib.hid hrow
              have htt : t ≤ 120 := by omega
              clear hk hrow hG
              by_cases hlt : t < 120
              · have hlt' : (t : Int) < 120 := by omega
                have ht0 : (0 : Int) ≤ t := by omega
                have v1 := (B.cell (p := ⟨gr, t, none⟩) gr6).trans (YR6.out t hlt)
                have c0 := (B.cell (p := ⟨w2.heap.size, 0, none⟩) sz6).trans HS6.out
                have RJ := Lib.hid (RJ6.out.below B)
                have HRB := Lib.hid (fun j hj => (B.cell (p := ⟨w5.heap.size, j, none⟩) rk6).trans (HRK.out.cell hj))
                obtain ⟨kk, hkk⟩ : ∃ kk, kk = runX os js t := ⟨_, rfl⟩
                rw [← hkk] at v1
                have HKK := Lib.hid hkk
                clear hkk
                go_wp2
                clear v1 c0
                obtain ⟨w7, hw7⟩ : ∃ w7, w7 = wr := ⟨_, rfl⟩
                subst hw7
                have rk7 : w5.heap.size < w7.heap.size := by have := B.size; omega
                go_loopg [12] js.length (fun m j W => ∃ i : Nat, m + i = js.length ∧ j = .int .i64 i ∧ Below w7.heap.size w7 W)
                case atStart => exact ⟨0, by omega, rfl, Below.refl _ _⟩
                case round =>
                  obtain ⟨i, hk, rfl, BI⟩ := hrel
                  have HK := Lib.hid hk
                  have hii : i ≤ js.length := by omega
                  clear hk
                  by_cases hil : i < js.length
                  · have hi0 : (0 : Int) ≤ i := by omega
                    have hi1 : (i : Int) < js.length := by omega
                    obtain ⟨hyl, hye⟩ := jid_at HL.out hil
                    obtain ⟨bj, oj, ej, -, x0, x1, -, x3⟩ := (RJ.out.below BI) i hil
                    have hfit := fx_fits HL.out os
                    rw [hfit.rel i hil] at x1
                    rw [hfit.ex i hil] at x3
                    rw [hye] at x0
                    subst ej
                    have z0 := (BI.cell (p := ⟨w6.heap.size, i, none⟩) hsz).trans (HRW.out.cell hil)
                    have v0 := (BI.cell (p := ⟨w5.heap.size, jid js i, none⟩) rk7).trans (HRB.out (jid js i) hyl)
                    have hrl := (fxP os js).ran_left i t
                    have hxb := (fx_ex HL.out os i hil).2
                    have hkey : (fxP os js).key i = rk os (jid js i) := rfl
                    obtain ⟨y, hy⟩ : ∃ y, y = jid js i := ⟨_, rfl⟩
                    obtain ⟨r, hr⟩ : ∃ r, r = (fxP os js).rel i := ⟨_, rfl⟩
                    obtain ⟨x, hx⟩ : ∃ x, x = (fxP os js).ex i := ⟨_, rfl⟩
                    obtain ⟨n, hn2⟩ : ∃ n, n = (fxP os js).ran i t := ⟨_, rfl⟩
                    rw [← hy] at x0 v0 hyl hkey
                    obtain ⟨p, hp⟩ : ∃ p, p = rk os y := ⟨_, rfl⟩
                    rw [← hp] at v0 hkey
                    rw [← hr] at x1
                    rw [← hx] at x3 hrl hxb
                    rw [← hn2] at z0 hrl
                    have hy0 : (0 : Int) ≤ y := by omega
                    have hy1 : (y : Int) < ts.length := by omega
                    have HE := Lib.hid (And.intro hr (And.intro hx (And.intro hkey hn2)))
                    have HRL := Lib.hid hrl
                    clear hr hx hn2 hrl hfit hy hp hkey hye
                    by_cases h1 : r ≤ t
                    · have h1' : decide (r ≤ t) = true := decide_eq_true (by omega)
                      by_cases h2 : n < x
                      · have h2' : decide (n < x) = true := decide_eq_true (by omega)
                        have hl0 : 0 < (fxP os js).left t i := by have := HRL.out; omega
                        have hnn : (fxP os js).run t ≠ none := fun e => best_none e i hil ⟨by rw [← HE.out.1]; exact h1, hl0⟩
                        obtain ⟨b, hb⟩ := Option.ne_none_iff_exists'.1 hnn
                        have hbk : kk = b := by rw [HKK.out, runX, hb]; rfl
                        obtain ⟨p1, _, _, p4⟩ := best_some hb
                        have hbn : b < js.length := p1
                        have hbest := p4 i hil (by rw [← HE.out.1]; exact h1) hl0
                        rw [HE.out.2.2.1] at hbest
                        obtain ⟨hyl2, hye2⟩ := jid_at HL.out hbn
                        obtain ⟨bj', oj', ej', -, xb0, -, -, -⟩ := (RJ.out.below BI) b hbn
                        simp only [Option.some.injEq, Addr.mk.injEq, and_true] at ej'
                        obtain ⟨rfl, rfl⟩ := ej'
                        rw [hye2] at xb0
                        have vb := (BI.cell (p := ⟨w5.heap.size, jid js b, none⟩) rk7).trans (HRB.out (jid js b) hyl2)
                        have hkey2 : (fxP os js).key b = rk os (jid js b) := rfl
                        rw [hkey2] at hbest
                        obtain ⟨y2, hy2⟩ : ∃ y2, y2 = jid js b := ⟨_, rfl⟩
                        rw [← hy2] at xb0 vb hbest hyl2
                        obtain ⟨p2, hp2⟩ : ∃ p2, p2 = rk os y2 := ⟨_, rfl⟩
                        rw [← hp2] at vb hbest
                        subst hbk
                        have hb0 : (0 : Int) ≤ b := by omega
                        have hb1 : (b : Int) < js.length := by omega
                        have hbm : decide ((b : Int) < 0) = false := decide_eq_false (by omega)
                        have hpp : decide (p < p2) = false := decide_eq_false (by omega)
                        have hz0 : (0 : Int) ≤ y2 := by omega
                        have hz1 : (y2 : Int) < ts.length := by omega
                        clear hb hnn p1 p4 hbest hl0 hkey2 hy2 hp2 hye2 h1 h2
                        go_wp2
                        go_quiet (fail)
                        go_wp2
                        go_roundg (gk - 1)
                        case measure => have := HK.out; omega
                        case rel => exact ⟨i + 1, by have := HK.out; omega, by go_num, below_drewN' BI _⟩
                      · have h2' : decide (n < x) = false := decide_eq_false (by omega)
                        clear h1 h2
                        go_wp2
                        go_quiet (fail)
                        go_wp2
                        go_roundg (gk - 1)
                        case measure => have := HK.out; omega
                        case rel => exact ⟨i + 1, by have := HK.out; omega, by go_num, below_drewN' BI _⟩
                    · have h1' : decide (r ≤ t) = false := decide_eq_false (by omega)
                      clear h1
                      go_wp2
                      go_quiet (fail)
                      go_wp2
                      go_roundg (gk - 1)
                      case measure => have := HK.out; omega
                      case rel => exact ⟨i + 1, by have := HK.out; omega, by go_num, below_drewN' BI _⟩
                  · obtain rfl : i = js.length := by omega
                    have HRV := Lib.hid (HRW.out.of_block (BI.block _ hsz))
                    have BJ := B.trans (BI.mono B.size)
                    have szj : w6.heap.size < wr.heap.size := by have := BI.size; omega
                    cases hrun : (fxP os js).run t with
                    | none =>
                      have hkm : kk = -1 := by rw [HKK.out, runX, hrun]; rfl
                      subst hkm
                      have HRN := Lib.hid hrun
                      clear hrun
                      go_wp2
                      go_roundg (G - 1)
                      case measure => have := HG.out; have := HT.out; omega
                      case rel => exact ⟨t + 1, by have := HG.out; have := HT.out; omega, by go_num, HRV.out.congr (fun j _ => by rw [ran_next, HRN.out, if_neg (by simp), Nat.add_zero]), BJ, szj⟩
                    | some b =>
                      have hkm : kk = b := by rw [HKK.out, runX, hrun]; rfl
                      subst hkm
                      have hbn : b < js.length := (Pat.run_pos hrun).1
                      have z0 := HRV.out.cell hbn
                      have z1 := HRV.out.frozen b
                      have hrl := (fxP os js).ran_left b t
                      have hxb := (fx_ex HL.out os b hbn).2
                      obtain ⟨n, hn2⟩ : ∃ n, n = (fxP os js).ran b t := ⟨_, rfl⟩
                      rw [← hn2] at z0 hrl
                      have hnb : n ≤ 1000 := by omega
                      have HN2 := Lib.hid hn2
                      have HRN := Lib.hid hrun
                      have hb0 : (0 : Int) ≤ b := by omega
                      have hb1 : (b : Int) < js.length := by omega
                      clear hrun hn2 hrl hxb
                      go_wp2
                      go_roundg (G - 1)
                      case measure => have := HG.out; have := HT.out; omega
                      case rel => exact ⟨t + 1, by have := HG.out; have := HT.out; omega, by go_num, (World.rowIs.set HRV.out b (.int .i64 ((n : Int) + 1))).congr (fun j _ => by
                          rw [ran_next, HRN.out]
                          by_cases e : j = b
                          · subst e; rw [if_pos rfl, if_pos rfl, ← HN2.out]; congr 1
                          · rw [if_neg e, if_neg (by simpa using fun h => e h.symm), Nat.add_zero]), BJ.setCell (Nat.le_refl _) _, by simpa [World.setCell] using szj⟩
              · obtain rfl : t = 120 := by omega
                go_wp2
                go_ret
                exact ⟨rfl, B6.trans (B.mono B6.size)⟩
      · have hlr2 : LR = 0 := by rw [HLR.out, lenRF, if_neg hok]
        have hlf2 : LF = 0 := by rw [HLF.out, lenFF, if_neg hok]
        subst hlf2
        subst hlr2
        go_wp2_with fail
        refine (alive_any _).mono ?_
        rintro e w8 ⟨rfl, b8⟩
        go_wp2
        go_ret
        exact ⟨rfl, B5.trans (b8.mono B5.size)⟩
    exact AllReadyH.nil
  exact AllReadyH.nil

end Go.Proofs.Ytocppoobcanhiab
