/- Contracts of spec.l20Sections and of the draws over it (spec.DrawSectionsValid, DrawCeilings, DrawBlocking, DrawResourcesFeasible): what is drawn is not told, only its bounds. Condition: the reader of the code's bytes lies where it is said. -/
import Derived.Test.YtlagghoohloklaaOwn3
import Derived.Test.YtlagghoohloklaaSecImpl
import Derived.StillTailTactics
namespace Go.Proofs.Ytlagghoohloklaa
open Go.RowKit Go.Deep

theorem wrap_le (x : Int) : IntKind.i64.wrap x ≤ 9223372036854775807 := by rw [IntKind.wrap_i64]; omega
theorem row_grown {w w' : World} {g off rb : Nat} {ts : List T3} (h : Row w (some ⟨g, off, none⟩) ts) (hg : w.grownBy w' (some rb)) (hne : g ≠ rb) : Row w' (some ⟨g, off, none⟩) ts := by
  intro k t hk
  obtain ⟨b, o, e, hb, h0, h1, h2⟩ := h k t hk
  simp only [Option.some.injEq, Addr.mk.injEq, and_true] at e
  obtain ⟨rfl, rfl⟩ := e
  have hn : ∀ j, some (⟨g, j, none⟩ : Addr).block ≠ some rb := fun j => by simpa using hne
  exact ⟨g, off, rfl, Nat.lt_of_lt_of_le hb hg.size, hg.cell h0 (hn _), hg.cell h1 (hn _), hg.cell h2 (hn _)⟩
theorem tk_last (o : List T3) (s : T3) (k : Nat) : tk (o ++ [s]) k = if k = o.length then s else tk o k := by
  unfold tk
  simp only [List.getD_eq_getElem?_getD]
  by_cases e : k = o.length
  · subst e
    simp
  · rw [if_neg e]
    by_cases hk : k < o.length
    · rw [List.getElem?_append_left hk]
    · rw [List.getElem?_eq_none (by simp; omega), List.getElem?_eq_none (by omega)]
theorem StB.nil : StB [] := fun _ hk => absurd hk (Nat.not_lt_zero _)
theorem StB.push {o : List T3} (h : StB o) {s : T3} (hs : s.1 ≤ 9223372036854775807) : StB (o ++ [s]) := fun k hk => by
  rw [tk_last]
  by_cases e : k = o.length
  · rw [if_pos e]; exact hs
  · rw [if_neg e]; exact h k (by simp at hk; omega)
theorem StB.upd {o : List T3} (h : StB o) {i : Nat} (hi : i < o.length) {s : T3} (hs : s.1 ≤ 9223372036854775807) : StB (upd o i s) := fun k hk => by
  rw [tk_upd hi]
  rw [upd_len hi] at hk
  split
  · exact hs
  · exact h k hk
theorem StB.of {ts ss : List T3} (h : scB ts ss = true) : StB ss := fun k hk => by
  obtain ⟨_, h2, _⟩ := scB_iff.1 h
  have := sc_nat h (k := k) (by omega)
  omega
theorem zs_StB (n : Nat) : StB (zs n) := fun _ _ => by rw [tk_zs]; decide
/-- What spec.l20Sections leaves. -/
def SecDrawn (rb p : Nat) (w : World) (e : Ending) (w' : World) : Prop := ∃ g cap o, e = .returned (.slice (some ⟨g, 0, none⟩) (List.length o) cap) ∧ ZT rb w w' (p + 60) (.slice (some ⟨g, 0, none⟩) o.length cap) o ∧ o.length ≤ 13 ∧ StB o
/-- The section being drawn, in its block, beside those drawn before. -/
structure ZB (rb : Nat) (w wr : World) (q g cap : Nat) (o : List T3) (A : Nat) (x y z : Int) : Prop where
  zt : ZT rb w wr q (.slice (some ⟨g, 0, none⟩) o.length cap) o
  c0 : wr.cell? ⟨A, 0, none⟩ = some (.int .i64 x)
  c1 : wr.cell? ⟨A, 1, none⟩ = some (.int .i64 y)
  c2 : wr.cell? ⟨A, 2, none⟩ = some (.int .i64 z)
  f0 : wr.frozen? ⟨A, 0, none⟩ = false
  f1 : wr.frozen? ⟨A, 1, none⟩ = false
  f2 : wr.frozen? ⟨A, 2, none⟩ = false
  lo : w.heap.size ≤ A
  hi : A < wr.heap.size
  ne : g ≠ A
variable {rb q q' g cap A : Nat} {w wr w' : World} {o : List T3} {x y z : Int}
theorem ZB.start (h : ZT rb w wr q (.slice (some ⟨g, 0, none⟩) o.length cap) o) : ZB rb w (wr.alloc (.cells #[.int .i64 0, .int .i64 0, .int .i64 0] 39)) q g cap o wr.heap.size 0 0 0 :=
  ⟨h.alloc _, by simp [go_sem], by simp [go_sem], by simp [go_sem], by simp [go_sem], by simp [go_sem], by simp [go_sem], h.gb.size, by simp, by have := (h.ow.lt g rfl).2; omega⟩
theorem ZB.pick (h : ZB rb w wr q g cap o A x y z) (hg : wr.grownBy w' (some rb)) (hr : Rd w' rb q') : ZB rb w w' q' g cap o A x y z := by
  have hn : A ≠ rb := by have := h.lo; have := h.zt.rl; omega
  exact ⟨h.zt.pick hg hr, (gb_cell hg (p := ⟨A, 0, none⟩) h.hi hn).trans h.c0, (gb_cell hg (p := ⟨A, 1, none⟩) h.hi hn).trans h.c1, (gb_cell hg (p := ⟨A, 2, none⟩) h.hi hn).trans h.c2,
    (gb_frozen hg (p := ⟨A, 0, none⟩) h.hi hn).trans h.f0, (gb_frozen hg (p := ⟨A, 1, none⟩) h.hi hn).trans h.f1, (gb_frozen hg (p := ⟨A, 2, none⟩) h.hi hn).trans h.f2, h.lo, Nat.lt_of_lt_of_le h.hi hg.size, h.ne⟩
theorem ZB.drew (h : ZB rb w wr q g cap o A x y z) : ZB rb w wr.drew q g cap o A x y z := h.pick (gb_drew (gb_refl _ _)) h.zt.rd.drew
theorem ZB.own : ZB rb w wr q g cap o A x y z → (Value.slice (some ⟨g, 0, none⟩) o.length cap).ownBlock ≠ some A := fun h e => h.ne (by simpa [Value.ownBlock] using e)
theorem ZB.s0 (h : ZB rb w wr q g cap o A x y z) (v : Int) : ZB rb w (wr.setCell ⟨A, 0, none⟩ (.int .i64 v)) q g cap o A v y z := by
  have h0 := h.c0
  have h1 := h.c1
  have h2 := h.c2
  have g0 := h.f0
  have g1 := h.f1
  have g2 := h.f2
  exact ⟨h.zt.side (a := ⟨A, 0, none⟩) _ h.lo h.own, by simp [go_sem, h0], by simp [go_sem, h1], by simp [go_sem, h2], by simp [go_sem, g0], by simp [go_sem, g1], by simp [go_sem, g2], h.lo, by simpa [World.setCell] using h.hi, h.ne⟩
theorem ZB.s1 (h : ZB rb w wr q g cap o A x y z) (v : Int) : ZB rb w (wr.setCell ⟨A, 1, none⟩ (.int .i64 v)) q g cap o A x v z := by
  have h0 := h.c0
  have h1 := h.c1
  have h2 := h.c2
  have g0 := h.f0
  have g1 := h.f1
  have g2 := h.f2
  exact ⟨h.zt.side (a := ⟨A, 1, none⟩) _ h.lo h.own, by simp [go_sem, h0], by simp [go_sem, h1], by simp [go_sem, h2], by simp [go_sem, g0], by simp [go_sem, g1], by simp [go_sem, g2], h.lo, by simpa [World.setCell] using h.hi, h.ne⟩
theorem ZB.s2 (h : ZB rb w wr q g cap o A x y z) (v : Int) : ZB rb w (wr.setCell ⟨A, 2, none⟩ (.int .i64 v)) q g cap o A x y v := by
  have h0 := h.c0
  have h1 := h.c1
  have h2 := h.c2
  have g0 := h.f0
  have g1 := h.f1
  have g2 := h.f2
  exact ⟨h.zt.side (a := ⟨A, 2, none⟩) _ h.lo h.own, by simp [go_sem, h0], by simp [go_sem, h1], by simp [go_sem, h2], by simp [go_sem, g0], by simp [go_sem, g1], by simp [go_sem, g2], h.lo, by simpa [World.setCell] using h.hi, h.ne⟩
theorem ZT.some_at {s : Value} (h : ZT rb w wr q s o) (hn : s ≠ .slice none 0 0) : ∃ g cap, s = .slice (some ⟨g, 0, none⟩) o.length cap := by
  obtain ⟨_, ⟨rfl, _⟩ | ⟨g, cap, cur, rfl, _⟩⟩ := h.ow
  · exact absurd rfl hn
  · exact ⟨g, cap, rfl⟩

set_option maxRecDepth 100000 in
set_option maxHeartbeats 4000000 in
/-- spec.l20Sections. -/
theorem l20Sections_any (rb p g off tcap : Nat) (n : Int) (ts : List T3) (w : World) (hr : Rd w rb p) (hp : p ≤ 700000000) (hrow : Row w (some ⟨g, off, none⟩) ts) (hgne : g ≠ rb) (hn12 : ts.length ≤ 12) :
    Calls Try.prog 43 #[.pointer (some ⟨rb, 0, none⟩), .slice (some ⟨g, off, none⟩) ts.length tcap, .int .i64 n] w (SecDrawn rb p w) := by
  obtain ⟨i0, hi, hz, hsz, hby⟩ := info_parts secInfo
  have HI := Lib.hid (And.intro hi (And.intro hz (And.intro hsz hby)))
  clear hi hz hsz hby
  have hlt := hr.lt
  have T0 := Lib.hid (ZT.start hr)
  have HROW := Lib.hid hrow
  clear hr hrow
  go_enter Try.func43, Try.ntmps43
  go_wp2
  go_loopg [7, 8] ts.length (fun m s i wr => ∃ (k sg sc : Nat) (o : List T3), m + k = ts.length ∧ i = .int .i64 k ∧ s = .slice (some ⟨sg, 0, none⟩) o.length sc ∧ o.length = k ∧ StB o ∧ ZT rb w wr (p + 4 * k) (.slice (some ⟨sg, 0, none⟩) o.length sc) o)
  case atStart => exact ⟨0, w.heap.size, 0, [], rfl, rfl, rfl, rfl, StB.nil, T0.out⟩
  case round =>
    obtain ⟨k, sg, sc, o, hk, rfl, rfl, hok, hst, hT⟩ := hrel
    have HK := Lib.hid hk
    have hkk : k ≤ ts.length := by omega
    have HOK := Lib.hid hok
    have hol : o.length ≤ 12 := by omega
    have HST := Lib.hid hst
    have HT := Lib.hid hT
    clear hk hok hst hT T0
    by_cases hlt2 : k < ts.length
    · have hk0 : (0 : Int) ≤ k := by omega
      have hk1 : (k : Int) < ts.length := by omega
      obtain ⟨bt, ot, e, hbt, y0, -, -⟩ := (row_grown HROW.out HT.out.gb hgne).tk hlt2
      simp only [Option.some.injEq, Addr.mk.injEq, and_true] at e
      obtain ⟨rfl, rfl⟩ := e
      obtain ⟨C, hC⟩ : ∃ C, C = (tk ts k).1 := ⟨_, rfl⟩
      rw [← hC] at y0
      clear hC
      have Z0 := Lib.hid (ZB.start HT.out)
      have hbne : ¬ g = wr.heap.size := by omega
      have hbne2 : ¬ wr.heap.size = g := by omega
      obtain ⟨A, hA⟩ : ∃ A, A = wr.heap.size := ⟨_, rfl⟩
      have ya := (below_box wr (.cells #[.int .i64 0, .int .i64 0, .int .i64 0] 39)).cell (p := ⟨g, off + k * 3, none⟩) hbt
      rw [y0] at ya
      have hba : g < (wr.alloc (.cells #[.int .i64 0, .int .i64 0, .int .i64 0] 39)).heap.size := by simp; omega
      clear y0
      go_upto_region 6 with fail
      rw [← hA]
      rw [← hA] at Z0 hbne hbne2
      obtain ⟨W, hW⟩ : ∃ W, W = wr.alloc (.cells #[.int .i64 0, .int .i64 0, .int .i64 0] 39) := ⟨_, rfl⟩
      rw [← hW]
      rw [← hW] at Z0 ya hba
      clear hA hW HT
      by_cases hCp : 0 < C
      · go_wp2_with fail
        refine (pick_any rb (p + 4 * k) 3 _ Z0.out.zt.rd (by omega)).mono ?_
        rintro e w1 ⟨u, rfl, u0, u1, -, hg1, hr1⟩
        have Z1 := Lib.hid (Z0.out.pick hg1 hr1)
        have y1 := (gb_cell hg1 (p := ⟨g, off + k * 3, none⟩) hba hgne).trans ya
        have hb1 : g < w1.heap.size := Nat.lt_of_lt_of_le hba hg1.size
        clear hg1 hr1 u1 Z0 ya hba
        by_cases hu : 0 < u
        · go_wp2_with fail
          refine (pick_any rb (p + 4 * k + 1) C _ Z1.out.zt.rd (by omega)).mono ?_
          rintro e w2 ⟨l, rfl, l0, l1, -, hg2, hr2⟩
          have Z2 := Lib.hid (Z1.out.pick hg2 hr2)
          have y2 := (gb_cell hg2 (p := ⟨g, off + k * 3, none⟩) hb1 hgne).trans y1
          have hb2 : g < w2.heap.size := Nat.lt_of_lt_of_le hb1 hg2.size
          clear hg2 hr2 l1 Z1 y1 hb1 hu u0 l0 hCp
          obtain ⟨L, hL⟩ : ∃ L, L = IntKind.i64.wrap (1 + l) := ⟨_, rfl⟩
          have hw1 := hL.symm
          obtain ⟨W1, hW1⟩ : ∃ W1, W1 = IntKind.i64.wrap (C - L) := ⟨_, rfl⟩
          have hw2 := hW1.symm
          obtain ⟨W2, hW2⟩ : ∃ W2, W2 = IntKind.i64.wrap (W1 + 1) := ⟨_, rfl⟩
          have hw3 := hW2.symm
          have hb3 : W2 ≤ 9223372036854775807 := by rw [hW2]; exact wrap_le _
          clear hL hW1 hW2
          have f1 := Z2.out.f1
          have c1 := Z2.out.c1
          have Z3 := Lib.hid (Z2.out.s1 L)
          have y3 : (w2.setCell ⟨A, 1, none⟩ (.int .i64 L)).cell? ⟨g, off + k * 3, none⟩ = some (.int .i64 C) := by
            rw [World.cell?_of_block (w := w2) (a := ⟨g, off + k * 3, none⟩) (Below.heap_setCell w2 ⟨A, 1, none⟩ _ g hbne)]
            exact y2
          have hb4 : g < (w2.setCell ⟨A, 1, none⟩ (.int .i64 L)).heap.size := by simpa [World.setCell] using hb2
          go_upto_region 8 with fail
          obtain ⟨w3, hw3'⟩ : ∃ w3, w3 = w2.setCell ⟨A, 1, none⟩ (.int .i64 L) := ⟨_, rfl⟩
          rw [← hw3']
          rw [← hw3'] at Z3 y3 hb4
          clear hw3' hw1 Z2 y2 hb2 c1 f1
          have c1 := Z3.out.c1
          have c0 := Z3.out.c0
          have f0 := Z3.out.f0
          refine wp_region_still_tail 10 (by kernel_rfl) (by kernel_rfl) ?_
          simp only [List.take_succ_cons, List.take_zero, List.drop_succ_cons, List.drop_zero]
          change wpStill _ _ w3.drew (fun a' => wpList _ _ _ _ a' w3.drew) _ _
          iterate 10 still_step
          refine wpStill_nil ?_
          go_wp2_with fail
          refine (pick_any rb (p + 4 * k + 1 + 1) W2 _ Z3.out.drew.zt.rd (by omega)).mono ?_
          rintro e w4 ⟨v, rfl, v0, v1, v2, hg4, hr4⟩
          have hv : v ≤ 9223372036854775807 := by
            by_cases h : 1 ≤ W2
            · have := v1 h; omega
            · have := v2 (by omega); omega
          have Z4 := Lib.hid (Z3.out.drew.pick hg4 hr4)
          clear hg4 hr4 v1 v2 hw2 hw3 hb3 Z3 y3 hb4 c0 c1 f0
          have f0 := Z4.out.f0
          have c0 := Z4.out.c0
          have Z5 := Lib.hid (Z4.out.s0 v)
          go_upto_region 9 with fail
          obtain ⟨w5, hw5⟩ : ∃ w5, w5 = w4.setCell ⟨A, 0, none⟩ (.int .i64 v) := ⟨_, rfl⟩
          rw [← hw5]
          rw [← hw5] at Z5
          clear hw5 Z4 f0 c0
          go_wp2_with fail
          refine (pick_any rb (p + 4 * k + 1 + 1 + 1) 2 _ Z5.out.zt.rd (by omega)).mono ?_
          rintro e w6 ⟨x, rfl, x0, x1, -, hg6, hr6⟩
          have Z6 := Lib.hid (Z5.out.pick hg6 hr6)
          clear hg6 hr6 x1 Z5
          have f2 := Z6.out.f2
          have c2 := Z6.out.c2
          have Z7 := Lib.hid (Z6.out.s2 x)
          go_upto_region 10 with fail
          obtain ⟨w7, hw7⟩ : ∃ w7, w7 = w6.setCell ⟨A, 2, none⟩ (.int .i64 x) := ⟨_, rfl⟩
          rw [← hw7]
          rw [← hw7] at Z7
          clear hw7 Z6 f2 c2
          have c0 := Z7.out.c0
          have c1 := Z7.out.c1
          have c2 := Z7.out.c2
          go_wp2_with (at_builtin; refine wpList_append_own _ rfl (.tmp 53) (.tmp 55) 24 rfl w.heap.size 39 i0 _ 3 24 Try.underlying24 HI.out.1 HI.out.2.1 HI.out.2.2.1 HI.out.2.2.2 rfl (by decide) _ o.length (flat o) rfl (Z7.out.zt.alloc _).ow ⟨w7.heap.size, 0, none⟩ 1 1 [.int .i64 v, .int .i64 L, .int .i64 x] rfl rfl (newsS _ _ _ _) (one3 _ _ _) (by unfold maxLen; omega) (by omega) (Z7.out.zt.alloc _).gb.size ?_; intro v' w' hown' hgrow hnil)
          have T5 := Lib.hid ((Z7.out.zt.alloc _).push hown' hgrow)
          obtain ⟨g5, c5, rfl⟩ := T5.out.some_at (fun e => by have := (hnil.1 e).2; omega)
          clear hown' hgrow hnil
          go_roundg (gk - 1)
          case measure => have := HK.out; omega
          case rel => exact ⟨k + 1, g5, c5, o ++ [(v, L, x)], by have := HK.out; omega, by go_num, by simp, by have := HOK.out; simp; omega, HST.out.push hv, T5.out.more (by omega)⟩
        · have hu0 : ¬ 0 < u := hu
          have c0 := Z1.out.c0
          have c1 := Z1.out.c1
          have c2 := Z1.out.c2
          go_wp2_with (at_builtin; refine wpList_append_own _ rfl (.tmp 53) (.tmp 55) 24 rfl w.heap.size 39 i0 _ 3 24 Try.underlying24 HI.out.1 HI.out.2.1 HI.out.2.2.1 HI.out.2.2.2 rfl (by decide) _ o.length (flat o) rfl (Z1.out.zt.alloc _).ow ⟨w1.heap.size, 0, none⟩ 1 1 [.int .i64 0, .int .i64 0, .int .i64 0] rfl rfl (newsS _ _ _ _) (one3 _ _ _) (by unfold maxLen; omega) (by omega) (Z1.out.zt.alloc _).gb.size ?_; intro v' w' hown' hgrow hnil)
          have T5 := Lib.hid ((Z1.out.zt.alloc _).push hown' hgrow)
          obtain ⟨g5, c5, rfl⟩ := T5.out.some_at (fun e => by have := (hnil.1 e).2; omega)
          clear hown' hgrow hnil
          go_roundg (gk - 1)
          case measure => have := HK.out; omega
          case rel => exact ⟨k + 1, g5, c5, o ++ [(0, 0, 0)], by have := HK.out; omega, by go_num, by simp, by have := HOK.out; simp; omega, HST.out.push (by decide), T5.out.more (by omega)⟩
      · have c0 := Z0.out.c0
        have c1 := Z0.out.c1
        have c2 := Z0.out.c2
        go_wp2_with (at_builtin; refine wpList_append_own _ rfl (.tmp 53) (.tmp 55) 24 rfl w.heap.size 39 i0 _ 3 24 Try.underlying24 HI.out.1 HI.out.2.1 HI.out.2.2.1 HI.out.2.2.2 rfl (by decide) _ o.length (flat o) rfl (Z0.out.zt.alloc _).ow ⟨W.heap.size, 0, none⟩ 1 1 [.int .i64 0, .int .i64 0, .int .i64 0] rfl rfl (newsS _ _ _ _) (one3 _ _ _) (by unfold maxLen; omega) (by omega) (Z0.out.zt.alloc _).gb.size ?_; intro v' w' hown' hgrow hnil)
        have T5 := Lib.hid ((Z0.out.zt.alloc _).push hown' hgrow)
        obtain ⟨g5, c5, rfl⟩ := T5.out.some_at (fun e => by have := (hnil.1 e).2; omega)
        clear hown' hgrow hnil
        go_roundg (gk - 1)
        case measure => have := HK.out; omega
        case rel => exact ⟨k + 1, g5, c5, o ++ [(0, 0, 0)], by have := HK.out; omega, by go_num, by simp, by have := HOK.out; simp; omega, HST.out.push (by decide), T5.out.more (by omega)⟩
    · have hlt3 : ¬ (k : Int) < ts.length := by omega
      clear HK
      go_wp2_with fail
      refine (odd_any rb (p + 4 * k) n _ HT.out.rd (by omega)).mono ?_
      rintro e w1 ⟨b, rfl, hg1, hr1⟩
      have T1 := Lib.hid (HT.out.pick hg1 hr1)
      have hlt1 := hr1.lt
      clear hg1 hr1 HT
      cases b with
      | false =>
        go_wp2
        go_ret
        exact ⟨_, _, o, rfl, T1.out.more (by omega), by omega, HST.out⟩
      | true =>
        by_cases ho : o.length = 0
        · have ho0 : ((o.length : Int) == 0) = true := beq_iff_eq.2 (by omega)
          have ho1 : (o.length == 0) = true := beq_iff_eq.2 ho
          clear ho
          go_wp2_with (at_builtin; refine wpList_append_own _ rfl (.tmp 68) (.tmp 70) 24 rfl w.heap.size 39 i0 _ 3 24 Try.underlying24 HI.out.1 HI.out.2.1 HI.out.2.2.1 HI.out.2.2.2 rfl (by decide) _ o.length (flat o) rfl (T1.out.alloc _).ow ⟨w1.heap.size, 0, none⟩ 1 1 [.int .i64 0, .int .i64 0, .int .i64 0] rfl rfl (newsS _ _ _ _) (one3 _ _ _) (by unfold maxLen; omega) (by omega) (T1.out.alloc _).gb.size ?_; intro v' w' hown' hgrow hnil)
          have T5 := Lib.hid ((T1.out.alloc _).push hown' hgrow)
          obtain ⟨g5, c5, rfl⟩ := T5.out.some_at (fun e => by have := (hnil.1 e).2; omega)
          clear hown' hgrow hnil
          go_ret
          exact ⟨_, _, o ++ [(0, 0, 0)], by simp, T5.out.more (by omega), by simp; omega, HST.out.push (by decide)⟩
        · have ho0 : ((o.length : Int) == 0) = false := beq_eq_false_iff_ne.2 (by omega)
          have ho1 : (o.length == 0) = false := beq_eq_false_iff_ne.2 ho
          go_wp2_with fail
          refine (pick_any rb (p + 4 * k + 1) 3 _ T1.out.rd (by omega)).mono ?_
          rintro e w2 ⟨u, rfl, u0, u1, -, hg2, hr2⟩
          have T2 := Lib.hid (T1.out.pick hg2 hr2)
          clear hg2 hr2 u1 T1
          by_cases hu : u = 0
          · subst hu
            go_wp2_with (at_builtin; refine wpList_append_own _ rfl (.tmp 68) (.tmp 70) 24 rfl w.heap.size 39 i0 _ 3 24 Try.underlying24 HI.out.1 HI.out.2.1 HI.out.2.2.1 HI.out.2.2.2 rfl (by decide) _ o.length (flat o) rfl (T2.out.alloc _).ow ⟨w2.heap.size, 0, none⟩ 1 1 [.int .i64 0, .int .i64 0, .int .i64 0] rfl rfl (newsS _ _ _ _) (one3 _ _ _) (by unfold maxLen; omega) (by omega) (T2.out.alloc _).gb.size ?_; intro v' w' hown' hgrow hnil)
            have T5 := Lib.hid ((T2.out.alloc _).push hown' hgrow)
            obtain ⟨g5, c5, rfl⟩ := T5.out.some_at (fun e => by have := (hnil.1 e).2; omega)
            clear hown' hgrow hnil
            go_ret
            exact ⟨_, _, o ++ [(0, 0, 0)], by simp, T5.out.more (by omega), by simp; omega, HST.out.push (by decide)⟩
          · have hu0 : (u == 0) = false := beq_eq_false_iff_ne.2 hu
            clear ho0 ho1
            have ho0 : ((o.length : Int) == 0) = false := beq_eq_false_iff_ne.2 (by omega)
            go_wp2_with fail
            refine (pick_any rb (p + 4 * k + 1 + 1) o.length _ T2.out.rd (by omega)).mono ?_
            rintro e w3 ⟨v, rfl, v0, v1, -, hg3, hr3⟩
            have hv := v1 (by omega)
            obtain ⟨v, rfl⟩ := Int.eq_ofNat_of_zero_le v0
            have hvo : v < o.length := by omega
            have T3 := Lib.hid (T2.out.pick hg3 hr3)
            have hl3 := hr3.lt
            clear hg3 hr3 v1 T2
            go_wp2_with fail
            refine (pick_any rb (p + 4 * k + 1 + 1 + 1) 6 _ (T3.out.alloc _).rd (by omega)).mono ?_
            rintro e w4 ⟨x, rfl, x0, x1, -, hg4, hr4⟩
            have hx := x1 (by omega)
            obtain ⟨x, rfl⟩ := Int.eq_ofNat_of_zero_le x0
            obtain ⟨P, hP, hp0⟩ := ints_new (j := x * 3) [1, 0, 0, 0, -1, 0, 0, 1, 3, 0, 9, 0, -1, 1, 0, 8, 1, 0] hg4 hl3 (by simp; omega)
            obtain ⟨Q, -, hp1⟩ := ints_new (j := x * 3 + 1) [1, 0, 0, 0, -1, 0, 0, 1, 3, 0, 9, 0, -1, 1, 0, 8, 1, 0] hg4 hl3 (by simp; omega)
            obtain ⟨R, -, hp2⟩ := ints_new (j := x * 3 + 2) [1, 0, 0, 0, -1, 0, 0, 1, 3, 0, 9, 0, -1, 1, 0, 8, 1, 0] hg4 hl3 (by simp; omega)
            have hPb : P ≤ 9223372036854775807 := by simp at hP; omega
            have T4 := Lib.hid ((T3.out.alloc _).pick hg4 hr4)
            obtain ⟨og, oe, -, -, hfz⟩ := T4.out.ow.at (by omega)
            simp only [Option.some.injEq, Addr.mk.injEq, and_true] at oe
            subst oe
            have z0 := hfz (v * 3)
            have z1 := hfz (v * 3 + 1)
            have z2 := hfz (v * 3 + 2)
            obtain ⟨bb, bo, be, -, s0, s1, s2⟩ := T4.out.ow.row.tk hvo
            simp only [Option.some.injEq, Addr.mk.injEq, and_true] at be
            obtain ⟨rfl, rfl⟩ := be
            simp only [Nat.zero_add] at s0 s1 s2
            have T5 := Lib.hid (T4.out.put hvo P Q R)
            clear hg4 hr4 x1 hP hfz T3 T4
            have hv0 : (0 : Int) ≤ v := by omega
            have hx0 : (0 : Int) ≤ x := by omega
            go_wp2
            go_ret
            exact ⟨sg, sc, upd o v (P, Q, R), by rw [upd_len hvo]; rfl, by rw [upd_len hvo]; exact T5.out.more (by omega), by rw [upd_len hvo]; omega, HST.out.upd hvo hPb⟩

/-- A task set, not nil, and sections were drawn. -/
def GotSec (w : World) (e : Ending) (w' : World) : Prop :=
  ∃ (g cap sg scap : Nat) (ts ss : List T3), e = .returned (.tuple #[.slice (some ⟨g, 0, none⟩) ts.length cap, .slice (some ⟨sg, 0, none⟩) ss.length scap]) ∧ ts.length ≤ 12 ∧ ts.length ≤ cap ∧ cap ≤ maxLen ∧ ss.length ≤ 13 ∧ StB ss ∧
    Row w' (some ⟨g, 0, none⟩) ts ∧ Own3 w' w.heap.size (.slice (some ⟨sg, 0, none⟩) ss.length scap) ss ∧ Below w.heap.size w w'
/-- .. and a time. -/
def GotSecT (w : World) (e : Ending) (w' : World) : Prop :=
  ∃ (g cap sg scap : Nat) (t : Int) (ts ss : List T3), e = .returned (.tuple #[.slice (some ⟨g, 0, none⟩) ts.length cap, .slice (some ⟨sg, 0, none⟩) ss.length scap, .int .i64 t]) ∧ ts.length ≤ 12 ∧ ts.length ≤ cap ∧ cap ≤ maxLen ∧ ss.length ≤ 13 ∧ StB ss ∧
    Row w' (some ⟨g, 0, none⟩) ts ∧ Own3 w' w.heap.size (.slice (some ⟨sg, 0, none⟩) ss.length scap) ss ∧ Below w.heap.size w w'

end Go.Proofs.Ytlagghoohloklaa
