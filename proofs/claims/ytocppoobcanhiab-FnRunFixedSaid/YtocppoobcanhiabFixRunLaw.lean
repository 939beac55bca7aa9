/- The walk of laws.FnRunFixed, for whatever code. Condition: the argument is a slice of bytes. -/
import Derived.Test.YtocppoobcanhiabFixRunImpl
import Derived.Test.YtocppoobcanhiabDrawFix
import Derived.Test.YtocppoobcanhiabSame
import Derived.Test.YtocppoobcanhiabFixSub
import Derived.Test.YtocppoobcanhiabMissed
import Derived.BigQuiet
import Derived.StillTailTactics
namespace Go.Proofs.Ytocppoobcanhiab
open Go.RowKit Go.Deep

/-- Two slices that grow, of jobs and of numbers, each in memory of its own. -/
structure TW (w0 wr : World) (vs vf : Value) (o : List J4) (l : List Int) : Prop where
  oj : OwnJ wr w0.heap.size vs o
  oi : OwnI wr w0.heap.size vf l.length (fun k => l.getD k 0)
  ap : Apart vs vf
  be : Below w0.heap.size w0 wr
theorem TW.below {w0 wr w' : World} {vs vf : Value} {o : List J4} {l : List Int} (h : TW w0 wr vs vf o l) (hb : Below wr.heap.size wr w') : TW w0 w' vs vf o l :=
  ⟨h.oj.below hb, h.oi.below hb, h.ap, h.be.trans (hb.mono h.be.size)⟩
theorem TW.pushJ {w0 wr w' : World} {vs vf v' : Value} {o : List J4} {l : List Int} {i r d e : Int} (h : TW w0 wr vs vf o l)
    (ho : w'.ownsRow w0.heap.size 61 4 v' (o.length + 1) (vals (fJ o) (o.length * 4) ++ [.int .i64 i, .int .i64 r, .int .i64 d, .int .i64 e])) (hg : wr.grownBy w' vs.ownBlock) (hp : v'.ownBlock = vs.ownBlock ∨ v'.ownBlock = some wr.heap.size) :
    TW w0 w' v' vf (o ++ [(i, r, d, e)]) l := by
  refine ⟨OwnJ.push ho, h.oi.grown hg h.ap.symm, fun k hk hf => ?_, h.be.grown hg h.be.size (fun k hk => (h.oj.lt k hk).1)⟩
  rcases hp with hp | hp
  · exact h.ap k (hp ▸ hk) hf
  · rw [hp] at hk
    simp only [Option.some.injEq] at hk
    have := (h.oi.lt k hf).2
    omega
theorem TW.pushI {w0 wr w' : World} {vs vf v' : Value} {o : List J4} {l : List Int} {x : Int} (h : TW w0 wr vs vf o l)
    (ho : w'.ownsRow w0.heap.size 3 1 v' (l.length + 1) (vals (fun k => l.getD k 0) l.length ++ [.int .i64 x])) (hg : wr.grownBy w' vf.ownBlock) (hp : v'.ownBlock = vf.ownBlock ∨ v'.ownBlock = some wr.heap.size) :
    TW w0 w' vs v' o (l ++ [x]) := by
  refine ⟨World.ownsRow.kept h.oj hg (by cases e : vs.ownBlock with
    | none => exact .inl rfl
    | some k => exact .inr (fun h2 => h.ap k e h2.symm)), OwnL.push ho, fun k hk hf => ?_, h.be.grown hg h.be.size (fun k hk => (h.oi.lt k hk).1)⟩
  rcases hp with hp | hp
  · exact h.ap k hk (hp ▸ hf)
  · rw [hp] at hf
    simp only [Option.some.injEq] at hf
    have := (h.oj.lt k hk).2
    omega
theorem TW.start (w : World) : TW w ((w.alloc (.cells #[] 61)).alloc (.cells #[] 3)) (.slice (some ⟨w.heap.size, 0, none⟩) 0 0) (.slice (some ⟨w.heap.size + 1, 0, none⟩) 0 0) [] [] := by
  have hs : (w.alloc (.cells #[] 61)).heap.size = w.heap.size + 1 := by simp
  refine ⟨(OwnJ.empty w).below (below_box _ _), ?_, fun k hk hf => ?_, (below_box w _).trans ((below_box _ _).mono (by simp))⟩
  · have h := OwnI.empty (w.alloc (.cells #[] 61)) (fun k => ([] : List Int).getD k 0)
    rw [hs] at h
    exact h.mono (by omega)
  · simp only [Value.ownBlock, Option.some.injEq] at hk hf
    omega
/-- The field Finish of a schedule. -/
theorem field_fin (x : Value) (a : Option Addr) (n c : Nat) (w : World) : (Instr.field 28 (.agg #[x, .slice a n c]) 1).run Try.prog w = .ok (.slice a n c) w := by
  simp [Instr.field, go_sem, part, asAgg]
set_option maxRecDepth 100000 in
set_option maxHeartbeats 8000000 in
/-- laws.FnRunFixed. -/
theorem fnRunFixed_walk (a : Option Addr) (len cap : Nat) (w : World) (hb : Byts w a len cap) :
    Calls Try.prog 8 #[.slice a len cap] w fun e w' => e = .returned (.bool true) ∧ Below w.heap.size w w' := by
  have hm : cap ≤ maxLen := hb.2.2
  have hlc : len ≤ cap := hb.2.1
  unfold maxLen at hm
  have HB := Lib.hid hb
  clear hb
  by_cases hl : 1048576 < len
  · have hl' : (1048576 : Int) < len := by omega
    go_enter Try.func8, Try.ntmps8
    go_wp2
    go_ret
    exact ⟨rfl, Below.refl _ _⟩
  have hl' : ¬ (1048576 : Int) < len := by omega
  go_enter Try.func8, Try.ntmps8
  go_wp2_with fail
  refine (drawRunFixed_any _ _ _ _ HB.out).mono ?_
  rintro e w1 ⟨g, cap1, og, ocap, jcap, ja, ts, os, js, rfl, hn, hlc1, hcm1, hon, hoc, hjn, hr1, hoo, hoj, b1⟩
  have R1 := Lib.hid hr1
  have OO1 := Lib.hid hoo
  have IO1 := Lib.hid hoo.intF'
  have OJ1 := Lib.hid hoj
  have RJ1 := Lib.hid hoj.rowJ
  clear hr1 hoj hoo HB
  go_wp2_with fail
  refine (runFixed_any _ _ _ _ _ _ ts os js _ R1.out IO1.out RJ1.out (by omega) (by omega)).mono ?_
  rintro e w2 ⟨⟨vr, vf, rfl, o1, o2, ap⟩, b2⟩
  obtain ⟨ra, rc, rfl⟩ := own_shape o1
  obtain ⟨fa, fc, rfl⟩ := own_shape o2
  have B2 : Below w.heap.size w w2 := b1.trans (b2.mono b1.size)
  have hs1 := b1.size
  have hs2 := b2.size
  obtain ⟨LR, hLR⟩ : ∃ LR, LR = lenRF ts os js := ⟨_, rfl⟩
  obtain ⟨LF, hLF⟩ : ∃ LF, LF = lenFF ts os js := ⟨_, rfl⟩
  rw [← hLR] at o1
  rw [← hLF] at o2
  have hlr : LR ≤ 120 := by rw [hLR, lenRF]; split <;> omega
  have hlf : LF ≤ 61 := by rw [hLF, lenFF]; split <;> omega
  have HLR := Lib.hid hLR
  have HLF := Lib.hid hLF
  rw [← hLR, ← hLF]
  have O1 := Lib.hid o1
  have O2 := Lib.hid o2
  have AP := Lib.hid ap
  clear hLR hLF o1 o2 ap
  go_wp2
  have X := fun o => (b2.trans ((below_box w2 o).mono hs2)).drew
  have R3 := Lib.hid fun o => R1.out.below (X o)
  have IO3 := Lib.hid fun o => IO1.out.below (X o)
  have RJ3 := Lib.hid fun o => RJ1.out.below (X o)
  have P1 := Lib.hid fun o => (O1.out.alloc o).drew
  have P2 := Lib.hid fun o => (O2.out.alloc o).drew
  clear X
  refine wp_region_noPanic ?_
  refine wp_region_held_drew (S := fun w' => w'.cell? ⟨w2.heap.size, 0, none⟩ = some (.slice ra LR rc) ∧ w'.cell? ⟨w2.heap.size, 1, none⟩ = some (.slice fa LF fc)) (by kernel_rfl) ?_ (fun hHeld => ?_)
  · (try dsimp only)
    (first | exact ⟨by simp [go_sem], by simp [go_sem]⟩ | exact ⟨(HB4.out.cell (p := ⟨w2.heap.size, 0, none⟩) (by simp)).trans hHeld.1, (HB4.out.cell (p := ⟨w2.heap.size, 1, none⟩) (by simp)).trans hHeld.2⟩ | exact ⟨(HB5.out.cell (p := ⟨w2.heap.size, 0, none⟩) (by have := HB4.out.size; simp at this; simp; omega)).trans hHeld.1, (HB5.out.cell (p := ⟨w2.heap.size, 1, none⟩) (by have := HB4.out.size; simp at this; simp; omega)).trans hHeld.2⟩)
  refine wpAnyH_take (i := 0) (v := ?_) (toArr_get _ 0 _ rfl) (by kernel_rfl) (by kernel_rfl) (by kernel_rfl) (fun _ _ _ h => h) (Or.inl ⟨by rfl, ?_⟩) (by assumption) ?_
  rotate_left
  · (intro w hSw; (try dsimp only at hSw); go_simp; (try with_reducible rfl))
  (try simp only [Act.put, List.setIfInBounds_toArray, List.set_cons_zero, List.set_cons_succ])
  refine wpAnyH_take (i := 1) (v := ?_) (toArr_get _ 1 _ rfl) (by kernel_rfl) (by kernel_rfl) (by kernel_rfl) (fun _ _ _ h => h) (Or.inl ⟨by rfl, ?_⟩) (by assumption) ?_
  rotate_left
  · (intro w hSw; (try dsimp only at hSw); go_simp; (try with_reducible rfl))
  (try simp only [Act.put, List.setIfInBounds_toArray, List.set_cons_zero, List.set_cons_succ])
  refine wpAnyH_take (i := 2) (v := ?_) (toArr_get _ 2 _ rfl) (by kernel_rfl) (by kernel_rfl) (by kernel_rfl) (fun _ _ _ h => h) (Or.inl ⟨by rfl, ?_⟩) (by assumption) ?_
  rotate_left
  · (intro w hSw; (try dsimp only at hSw); go_simp; (try with_reducible rfl))
  (try simp only [Act.put, List.setIfInBounds_toArray, List.set_cons_zero, List.set_cons_succ])
  refine wpAnyH_take (i := 3) (v := ?_) (toArr_get _ 3 _ rfl) (by kernel_rfl) (by kernel_rfl) (by kernel_rfl) (fun _ _ _ h => h) (Or.inl ⟨by rfl, ?_⟩) (by assumption) ?_
  rotate_left
  · (intro w hSw; (try dsimp only at hSw); go_simp; (try with_reducible rfl))
  (try simp only [Act.put, List.setIfInBounds_toArray, List.set_cons_zero, List.set_cons_succ])
  refine wpAnyH_ready (rs := [4]) (by kernel_rfl) (by simp) ?_
  refine AllReadyH.cons (toArr_get _ 4 _ rfl) (fun K hK => ?_) ?_
  · go_simp
    refine (specRunFixed_any _ _ _ _ _ _ ts os js _ (R3.out _) (IO3.out _) (RJ3.out _) (by omega) hoc (by omega)).mono ?_
    rintro e w4 ⟨⟨vr', vf', rfl, p1, p2, _⟩, b4⟩
    obtain ⟨ra', rc', rfl⟩ := own_shape p1
    obtain ⟨fa', fc', rfl⟩ := own_shape p2
    rw [← HLR.out] at p1
    rw [← HLF.out] at p2
    rw [← HLR.out, ← HLF.out]
    have I1 := Lib.hid (((P1.out _).below b4).intF')
    have I2 := Lib.hid (((P2.out _).below b4).intF')
    have I3 := Lib.hid p1.intF'
    have I4 := Lib.hid p2.intF'
    have HB4 := Lib.hid b4
    clear p1 p2 b4
    go_wp2_with fail
    refine hK.out _ _ ?_ (fun hHeld2 => ?_)
    · (try dsimp only)
      (first | exact ⟨by simp [go_sem], by simp [go_sem]⟩ | exact ⟨(HB4.out.cell (p := ⟨w2.heap.size, 0, none⟩) (by simp)).trans hHeld.1, (HB4.out.cell (p := ⟨w2.heap.size, 1, none⟩) (by simp)).trans hHeld.2⟩ | exact ⟨(HB5.out.cell (p := ⟨w2.heap.size, 0, none⟩) (by have := HB4.out.size; simp at this; simp; omega)).trans hHeld.1, (HB5.out.cell (p := ⟨w2.heap.size, 1, none⟩) (by have := HB4.out.size; simp at this; simp; omega)).trans hHeld.2⟩)
    clear hK K hHeld
    have hHeld := hHeld2
    clear hHeld2
    (try simp only [Act.put, List.setIfInBounds_toArray, List.set_cons_zero, List.set_cons_succ])
    refine wpAnyH_ready (rs := [5]) (by kernel_rfl) (by simp) ?_
    refine AllReadyH.cons (toArr_get _ 5 _ rfl) (fun K hK => ?_) ?_
    · go_simp
      refine (sameSchedule_same _ _ _ _ _ _ _ _ _ _ (runX os js) (finX os js) _ I1.out I2.out I3.out I4.out (by omega) (by omega)).mono ?_
      rintro e w5 ⟨rfl, b5⟩
      have HB5 := Lib.hid b5
      clear b5 I1 I2 I3 I4
      go_wp2_with fail
      refine hK.out _ _ ?_ (fun hHeld2 => ?_)
      · (try dsimp only)
        (first | exact ⟨by simp [go_sem], by simp [go_sem]⟩ | exact ⟨(HB4.out.cell (p := ⟨w2.heap.size, 0, none⟩) (by simp)).trans hHeld.1, (HB4.out.cell (p := ⟨w2.heap.size, 1, none⟩) (by simp)).trans hHeld.2⟩ | exact ⟨(HB5.out.cell (p := ⟨w2.heap.size, 0, none⟩) (by have := HB4.out.size; simp at this; simp; omega)).trans hHeld.1, (HB5.out.cell (p := ⟨w2.heap.size, 1, none⟩) (by have := HB4.out.size; simp at this; simp; omega)).trans hHeld.2⟩)
      clear hK K hHeld
      have hHeld := hHeld2
      clear hHeld2
      (try simp only [Act.put, List.setIfInBounds_toArray, List.set_cons_zero, List.set_cons_succ])
      refine wpAnyH_take (i := 6) (v := ?_) (toArr_get _ 6 _ rfl) (by kernel_rfl) (by kernel_rfl) (by kernel_rfl) (fun _ _ _ h => h) (Or.inl ⟨by rfl, ?_⟩) (by assumption) ?_
      rotate_left
      · (intro w hSw; (try dsimp only at hSw); go_simp; (try with_reducible rfl))
      (try simp only [Act.put, List.setIfInBounds_toArray, List.set_cons_zero, List.set_cons_succ])
      refine wpAnyH_done (by kernel_rfl) ?_ _
      refine NoPanic.normal ?_
      have B4 : Below w2.heap.size w2 w5 := ((below_box w2 _).drew.trans ((HB4.out.trans (HB5.out.mono HB4.out.size)).mono (by simp)))
      have hs4 := HB4.out.size
      have hs5 := HB5.out.size
      simp at hs4
      have B5 : Below w.heap.size w w5 := B2.trans (B4.mono (Nat.le_trans hs1 hs2))
      have O15 := Lib.hid (O1.out.below B4)
      have O25 := Lib.hid (O2.out.below B4)
      have R5 := Lib.hid (R1.out.below (b2.trans (B4.mono hs2)))
      have OO5 := Lib.hid (OO1.out.below (b2.trans (B4.mono hs2)))
      have IO5 := Lib.hid OO5.out.intF'
      have OJ5 := Lib.hid (OJ1.out.below (b2.trans (B4.mono hs2)))
      have RJ5 := Lib.hid OJ5.out.rowJ
      have sz5 : w2.heap.size < w5.heap.size := by omega
      obtain ⟨s0, s1⟩ := hHeld
      clear R1 RJ1 OJ1 IO1 OO1 O1 O2 R3 IO3 RJ3 P1 P2 HB4 HB5 B4 B2 b1 b2 hs4 hs5
      go_wp2_with fail
      refine (specOrderValid_any _ _ _ _ ts os _ R5.out IO5.out (by omega) hoc).mono ?_
      rintro e w6 ⟨rfl, b6⟩
      have B6 : Below w.heap.size w w6 := B5.trans (b6.mono (by have := B5.size; omega))
      have t0 := (b6.cell (p := ⟨w2.heap.size, 0, none⟩) sz5).trans s0
      have t1 := (b6.cell (p := ⟨w2.heap.size, 1, none⟩) sz5).trans s1
      have hs6 := b6.size
      have R6 := Lib.hid (R5.out.below b6)
      have IO6 := Lib.hid (IO5.out.below b6)
      have RJ6 := Lib.hid (RJ5.out.below b6)
      have O26 := Lib.hid (O25.out.below b6)
      clear s0 s1 R5 RJ5 O25 O15 B5 b6 OJ5 OO5 IO5
      by_cases hord : ordB ts os = true
      · have HO := Lib.hid hord
        rw [hord]
        clear hord
        go_wp2_with fail
        refine (specJobsLegal_any _ _ _ _ ts js _ R6.out RJ6.out (by omega) (by omega)).mono ?_
        rintro e w7 ⟨rfl, b7⟩
        have B7 : Below w.heap.size w w7 := B6.trans (b7.mono B6.size)
        have q0 := (b7.cell (p := ⟨w2.heap.size, 0, none⟩) (by simp; omega)).trans t0
        have q1 := (b7.cell (p := ⟨w2.heap.size, 1, none⟩) (by simp; omega)).trans t1
        have hs7 := b7.size
        have R7 := Lib.hid (R6.out.below b7)
        have IO7 := Lib.hid (IO6.out.below b7)
        have RJ7 := Lib.hid (RJ6.out.below b7)
        have O27 := Lib.hid (O26.out.below b7)
        clear t0 t1 R6 RJ6 O26 B6 b7 IO6
        by_cases hleg : legB ts js = true
        · have HL := Lib.hid hleg
          rw [hleg]
          clear hleg
          have hk : okF ts os js = true := okF_iff.2 ⟨HO.out, HL.out⟩
          have hlf2 : LF = js.length := by rw [HLF.out, lenFF, if_pos hk]
          have hlr2 : LR = 120 := by rw [HLR.out, lenRF, if_pos hk]
          subst hlf2
          subst hlr2
          clear hk
          by_cases ho0 : os.length = 0
          · have hb0 : ((os.length : Int) == 0) = true := beq_iff_eq.2 (by omega)
            clear ho0
            go_wp2_with fail
            refine (alive_any _).mono ?_
            rintro e w8 ⟨rfl, b8⟩
            go_wp2
            go_ret
            exact ⟨rfl, B7.trans (b8.mono B7.size)⟩
          · have hb0 : ((os.length : Int) == 0) = false := beq_eq_false_iff_ne.2 (by omega)
            obtain ⟨L, hL⟩ : ∃ L, L = os.length - 1 := ⟨_, rfl⟩
            have hL1 : L < os.length := by omega
            have HSUB := Lib.hid (fun k hk => sub_fin HO.out HL.out (by omega) (k := k) hk)
            obtain ⟨bo, oo, eo, hbo, z0⟩ := IO7.out L hL1
            simp only [Option.some.injEq, Addr.mk.injEq, and_true] at eo
            obtain ⟨rfl, rfl⟩ := eo
            rw [← hL] at HSUB
            obtain ⟨low, hlow⟩ : ∃ low, low = os.getD L 0 := ⟨_, rfl⟩
            simp only [← hlow, Nat.zero_add] at z0
            rw [← hlow] at HSUB
            have hw1 : IntKind.i64.wrap ((os.length : Int) - 1) = (L : Int) := (IntWalk.i64_in _ (by omega)).trans (by omega)
            have hL0 : (0 : Int) ≤ L := by omega
            have hL2 : (L : Int) < os.length := by omega
            obtain ⟨iI, hi, hz, hsz, hby⟩ := info_parts intInfo
            have HI := Lib.hid (And.intro hi (And.intro hz (And.intro hsz hby)))
            clear hi hz hsz hby
            obtain ⟨iJ, hi, hz, hsz, hby⟩ := info_parts jobInfo
            have HJ := Lib.hid (And.intro hi (And.intro hz (And.intro hsz hby)))
            clear hi hz hsz hby hlow ho0 hL
            go_wp2
            go_loopg [8, 9, 10] js.length (fun m s f z wr => ∃ (k : Nat) (vs vf : Value), m + k = js.length ∧ z = .int .i64 k ∧ s = vs ∧ f = vf ∧ TW w7 wr vs vf (rst js low k) (rsf (finX os js) js low k))
            case atStart => exact ⟨0, _, _, by omega, rfl, rfl, rfl, by have h := TW.start w7; show TW w7 _ _ _ [] []; simpa using h⟩
            case round =>
              obtain ⟨k, vs, vf, hk, rfl, rfl, rfl, T0⟩ := hrel
              have HK := Lib.hid hk
              have hkk : k ≤ js.length := by omega
              have hol : (rst js low k).length ≤ 61 := by have := rsi_le js low k; rw [rst_len]; omega
              have hll : (rsf (finX os js) js low k).length ≤ 61 := by have := rsi_le js low k; rw [rsf_len]; omega
              obtain ⟨o, ho⟩ : ∃ o, o = rst js low k := ⟨_, rfl⟩
              obtain ⟨l, hl⟩ : ∃ l, l = rsf (finX os js) js low k := ⟨_, rfl⟩
              rw [← ho] at T0 hol
              rw [← hl] at T0 hll
              obtain ⟨sa, sc, rfl⟩ := T0.oj.shape
              obtain ⟨fa', fc', rfl⟩ := own_shape T0.oi
              have T := Lib.hid T0
              have HOL := Lib.hid (And.intro ho hl)
              clear hk T0 ho hl
              by_cases hlt : k < js.length
              · have hk0 : (0 : Int) ≤ k := by omega
                have hk1 : (k : Int) < js.length := by omega
                obtain ⟨bj, oj, ej, hbj, x0, x1, x2, x3⟩ := (RJ7.out.below T.out.be) k hlt
                obtain ⟨bf, off, ef, hbf, y7⟩ := O27.out.intF' k hlt
                have HY := Lib.hid (fun W (hB : Below w7.heap.size w7 W) => (hB.cell (p := ⟨bf, off + k, none⟩) hbf).trans y7)
                have HC := Lib.hid (fun W (hB : Below w7.heap.size w7 W) => (hB.cell (p := ⟨w2.heap.size, 1, none⟩) (by simp; omega)).trans q1)
                subst ej ef
                obtain ⟨⟨ji, jr, jd, jx⟩, hjj⟩ : ∃ j, j = jb js k := ⟨_, rfl⟩
                rw [← hjj] at x0 x1 x2 x3
                have HJJ := Lib.hid hjj
                obtain ⟨F, hF⟩ : ∃ F, F = finX os js k := ⟨_, rfl⟩
                simp only [← hF] at HY
                have HF := Lib.hid hF
                dsimp only at x0 x1 x2 x3
                clear hjj hF y7 q0 q1
                by_cases hid : ji = low
                · have hd : (ji == low) = true := beq_iff_eq.2 hid
                  have HD := Lib.hid hid
                  clear hid
                  go_wp2
                  go_roundg (gk - 1)
                  case measure => have := HK.out; omega
                  case rel =>
                    have e0 : (jb js k).1 = low := by rw [← HJJ.out]; exact HD.out
                    exact ⟨k + 1, _, _, by have := HK.out; omega, by go_num, rfl, rfl, by rw [rst_no e0, rsf_no e0, ← HOL.out.1, ← HOL.out.2]; exact T.out⟩
                · have hd : (ji == low) = false := beq_eq_false_iff_ne.2 hid
                  have HD := Lib.hid hid
                  clear hid
                  go_wp2_with (first
                    | (at_builtin; refine wpList_append_at _ rfl (.tmp 68) (.tmp 73) 33 rfl w7.heap.size 61 iJ _ 4 32 Try.underlying33 HJ.out.1 HJ.out.2.1 HJ.out.2.2.1 HJ.out.2.2.2 rfl (by decide) _ o.length (vals (fJ o) (o.length * 4)) rfl (World.ownsRow.alloc T.out.oj _) ⟨wr.heap.size, 0, none⟩ 1 1 [.int .i64 ji, .int .i64 jr, .int .i64 jd, .int .i64 jx] rfl rfl (news4 wr ji jr jd jx _) (one4 _ _ _ _) (by unfold maxLen; omega) (by omega) (Nat.le_trans T.out.be.size (by simp)) (by decide) ?_; intro v1 u1 ho1 hg1 hp1 hn1; obtain ⟨a1, c1, rfl⟩ := own_shape ho1; have T1 := Lib.hid ((T.out.below (below_box _ _)).pushJ ho1 hg1 hp1); have y1 := HY.out u1 T1.out.be; have z1 := HC.out u1 T1.out.be; clear ho1 hg1 hp1 hn1)
                    | (at_builtin; refine wpList_append_at _ rfl (.tmp 75) (.tmp 81) 23 rfl w7.heap.size 3 iI _ 1 8 Try.underlying23 HI.out.1 HI.out.2.1 HI.out.2.2.1 HI.out.2.2.2 rfl (by decide) _ l.length (vals (fun k => l.getD k 0) l.length) rfl (World.ownsRow.alloc T1.out.oi _) ⟨u1.heap.size, 0, none⟩ 1 1 [.int .i64 F] rfl rfl (news1 _ _ _) (one1 _) (by unfold maxLen; omega) (by omega) (Nat.le_trans T1.out.be.size (by simp)) (by decide) ?_; intro v2 u2 ho2 hg2 hp2 hn2; obtain ⟨a2, c2, rfl⟩ := own_shape ho2; have T2 := Lib.hid ((T1.out.below (below_box _ _)).pushI ho2 hg2 hp2); clear ho2 hg2 hp2 hn2))
                  go_roundg (gk - 1)
                  case measure => have := HK.out; omega
                  case rel =>
                    have e0 : ¬ (jb js k).1 = low := by rw [← HJJ.out]; exact HD.out
                    exact ⟨k + 1, _, _, by have := HK.out; omega, by go_num, rfl, rfl, by rw [rst_yes e0, rsf_yes e0, ← HOL.out.1, ← HOL.out.2, ← HJJ.out, ← HF.out]; exact T2.out⟩
              · obtain rfl : k = js.length := by omega
                have hl2 := rst_ok HL.out low
                rw [← HOL.out.1] at hl2
                have HK2 := Lib.hid (okF_iff.2 ⟨HO.out, hl2⟩)
                have hnl : l.length = o.length := by rw [HOL.out.1, HOL.out.2, rst_len, rsf_len]
                have RO := Lib.hid T.out.oj.rowJ
                have RB := Lib.hid (R7.out.below T.out.be)
                have IB := Lib.hid (IO7.out.below T.out.be)
                clear hl2 z0 q0 q1
                go_wp2_with fail
                refine (runFixed_any _ _ _ _ _ _ ts os o _ RB.out IB.out RO.out (by omega) (by omega)).mono ?_
                rintro e w9 ⟨⟨vr, vf, rfl, o1, o2, -⟩, b9⟩
                obtain ⟨ra9, rc9, rfl⟩ := own_shape o1
                obtain ⟨fa9, fc9, rfl⟩ := own_shape o2
                have e2 : lenFF ts os o = o.length := by rw [lenFF, if_pos HK2.out]
                rw [e2] at o2
                rw [e2]
                have P2 := Lib.hid o2.intF'
                have P1 := Lib.hid (show IntF w9 fa' o.length (finX os o) from by
                  have h := T.out.oi.below b9
                  rw [hnl] at h
                  exact (h.congr fun k hk => by rw [HOL.out.1, HOL.out.2]; exact (HSUB.out k (by rw [HOL.out.1, rst_len] at hk; exact hk)).symm).intF')
                rw [hnl]
                have BT := T.out.be.trans (b9.mono T.out.be.size)
                have hff := fun x w => field_fin x fa9 o.length fc9 w
                clear o1 o2 e2 b9 hnl T
                go_wp2_with fail
                refine (sameInts_same _ _ _ _ _ _ _ P2.out P1.out (by omega)).mono ?_
                rintro e w10 ⟨rfl, n10, rfl⟩
                go_wp2
                go_ret
                exact ⟨rfl, B7.trans ((below_drewN' BT _).mono B7.size)⟩
        · have hleg' : legB ts js = false := by simpa using hleg
          rw [hleg']
          clear hleg hleg'
          go_wp2_with fail
          refine (alive_any _).mono ?_
          rintro e w8 ⟨rfl, b8⟩
          go_wp2
          go_ret
          exact ⟨rfl, B7.trans (b8.mono B7.size)⟩
      · have hord' : ordB ts os = false := by simpa using hord
        rw [hord']
        clear hord hord'
        go_wp2_with fail
        refine (alive_any _).mono ?_
        rintro e w8 ⟨rfl, b8⟩
        go_wp2
        go_ret
        exact ⟨rfl, B6.trans (b8.mono B6.size)⟩
    exact AllReadyH.nil
  exact AllReadyH.nil

end Go.Proofs.Ytocppoobcanhiab
