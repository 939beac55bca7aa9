/- Contract of spec.DrawBlocking: a task set, sections and a time are drawn. What is drawn is not told, only its bounds. Condition: the argument is a slice of bytes. -/
import Derived.Test.YtfacohicfcdamaaDrawSec
namespace Go.Proofs.Ytfacohicfcdamaa
open Go.RowKit Go.Deep

/-- A block of numbers of which something is known. -/
def Blk (c : World) (A n : Nat) (Q : Int → Prop) : Prop := A < c.heap.size ∧ ∀ j, j < n → ∃ P, Q P ∧ c.cell? ⟨A, j, none⟩ = some (.int .i64 P)
theorem Blk.kept {c c' : World} {A n rb : Nat} {Q : Int → Prop} (h : Blk c A n Q) (hg : c.grownBy c' (some rb)) (hA : A ≠ rb) : Blk c' A n Q :=
  ⟨Nat.lt_of_lt_of_le h.1 hg.size, fun j hj => by
    obtain ⟨P, hP, hc⟩ := h.2 j hj
    exact ⟨P, hP, (gb_cell hg (p := ⟨A, j, none⟩) h.1 hA).trans hc⟩⟩
theorem Blk.new6 (c : World) : Blk (c.alloc (.cells #[.int .i64 0, .int .i64 0, .int .i64 0, .int .i64 0, .int .i64 1, .int .i64 2] 3)) c.heap.size 6 (fun P => 0 ≤ P ∧ P < 3) := by
  refine ⟨by simp, fun j hj => ?_⟩
  match j, hj with
  | 0, _ => exact ⟨0, by omega, by simp [go_sem]⟩
  | 1, _ => exact ⟨0, by omega, by simp [go_sem]⟩
  | 2, _ => exact ⟨0, by omega, by simp [go_sem]⟩
  | 3, _ => exact ⟨0, by omega, by simp [go_sem]⟩
  | 4, _ => exact ⟨1, by omega, by simp [go_sem]⟩
  | 5, _ => exact ⟨2, by omega, by simp [go_sem]⟩
theorem Blk.new3 (c : World) (x : Int) : Blk (c.alloc (.cells #[.int .i64 x, .int .i64 (-1), .int .i64 121] 3)) c.heap.size 3 (fun _ => True) := by
  refine ⟨by simp, fun j hj => ?_⟩
  match j, hj with
  | 0, _ => exact ⟨x, trivial, by simp [go_sem]⟩
  | 1, _ => exact ⟨-1, trivial, by simp [go_sem]⟩
  | 2, _ => exact ⟨121, trivial, by simp [go_sem]⟩

set_option maxRecDepth 100000 in
set_option maxHeartbeats 8000000 in
/-- spec.DrawBlocking. -/
theorem drawBlocking_any (a : Option Addr) (len cap : Nat) (w : World) (hb : Byts w a len cap) :
    Calls Try.prog 35 #[.slice a len cap] w (GotSecT w) := by
  obtain ⟨hb, hc, hm⟩ := hb
  have HB := Lib.hid hb
  clear hb
  go_enter Try.func35, Try.ntmps35
  go_wp2_with fail
  refine (l20Open_any _ _ _ _ HB.out hc hm).mono ?_
  rintro e w1 ⟨rfl, hr, hb1, hs1⟩
  have HR := Lib.hid hr
  clear hr
  go_wp2_with fail
  refine (l20Set_full w.heap.size 0 20 _ HR.out (by omega)).mono ?_
  rintro e w2 ⟨a2, cap2, ts, rfl, hlen, hlc, hcm, hrow, hg, hr2, ⟨g, rfl, hgg⟩, -⟩
  have HW := Lib.hid hrow
  have B2 : Below w.heap.size w w2 := hb1.trans (gb_to_below hg (Nat.le_refl _) hb1.size)
  have hgne : g ≠ w.heap.size := by have := HR.out.lt; omega
  have hs2 := B2.size
  have rl := hr2.lt
  have D0 := Lib.hid hr2.drew
  have G0 := Lib.hid (gb_drew (gb_refl w2 w.heap.size))
  clear hrow hr2 hg
  go_wp2
  obtain ⟨c0, hc0⟩ : ∃ c0, c0 = w2.drew := ⟨_, rfl⟩
  rw [← hc0] at D0 G0
  refine wp_region_held_drew (S := fun _ => True) (by kernel_rfl) ?_ (fun hHeld => ?_)
  · (try dsimp only)
    (all_goals trivial)
  rw [← hc0]
  clear hc0
  refine wpAnyH_take (i := 0) (v := ?_) (toArr_get _ 0 _ rfl) (by kernel_rfl) (by kernel_rfl) (by kernel_rfl) (fun _ _ _ h => h) (Or.inl ⟨by rfl, ?_⟩) (by assumption) ?_
  rotate_left
  · (intro w hSw; (try dsimp only at hSw); go_simp; (try with_reducible rfl))
  (try simp only [Act.put, List.setIfInBounds_toArray, List.set_cons_zero, List.set_cons_succ])
  refine wpAnyH_take (i := 1) (v := ?_) (toArr_get _ 1 _ rfl) (by kernel_rfl) (by kernel_rfl) (by kernel_rfl) (fun _ _ _ h => h) (Or.inl ⟨by rfl, ?_⟩) (by assumption) ?_
  rotate_left
  · (intro w hSw; (try dsimp only at hSw); go_simp; (try with_reducible rfl))
  (try simp only [Act.put, List.setIfInBounds_toArray, List.set_cons_zero, List.set_cons_succ])
  refine wpAnyH_take (i := 2) (v := ?_) (toArr_get _ 2 _ rfl) (by kernel_rfl) (by kernel_rfl) (by kernel_rfl) (fun _ _ _ h => h) (Or.inl ⟨by rfl, ?_⟩) (by assumption) ?_
  rotate_left
  · (intro w hSw; (try dsimp only at hSw); go_simp; (try with_reducible rfl))
  (try simp only [Act.put, List.setIfInBounds_toArray, List.set_cons_zero, List.set_cons_succ])
  refine wpAnyH_take (i := 4) (v := ?_) (toArr_get _ 4 _ rfl) (by kernel_rfl) (by kernel_rfl) (by kernel_rfl) (fun _ _ _ h => h) (Or.inl ⟨by rfl, ?_⟩) (by assumption) ?_
  rotate_left
  · (intro w hSw; (try dsimp only at hSw); go_simp; (try with_reducible rfl))
  (try simp only [Act.put, List.setIfInBounds_toArray, List.set_cons_zero, List.set_cons_succ])
  refine wpAnyH_take (i := 8) (v := ?_) (toArr_get _ 8 _ rfl) (by kernel_rfl) (by kernel_rfl) (by kernel_rfl) (fun _ _ _ h => h) (Or.inl ⟨by rfl, ?_⟩) (by assumption) ?_
  rotate_left
  · (intro w hSw; (try dsimp only at hSw); go_simp; (try with_reducible rfl))
  (try simp only [Act.put, List.setIfInBounds_toArray, List.set_cons_zero, List.set_cons_succ])
  refine wpAnyH_ready (rs := [3, 7]) (by kernel_rfl) (by simp) ?_
  refine AllReadyH.cons (toArr_get _ 3 _ rfl) (fun K hK => ?_) ?_
  · go_simp
    refine (l20Sections_any w.heap.size 200 g 0 cap2 12 ts _ D0.out (by omega) (row_grown HW.out G0.out hgne) hgne hlen).mono ?_
    rintro e c1 ⟨sg, scap, o, rfl, hT, ho, hst⟩
    have HO := Lib.hid hst
    have hg1 := hT.gb
    have G1 := Lib.hid (gb_trans G0.out hg1)
    have D1 := Lib.hid hT.rd
    have Z1 := Lib.hid (hT.ow.mono G0.out.size)
    clear hT hst
    go_wp2_with fail
    refine hK.out _ _ ?_ (fun hHeld2 => ?_)
    · (try dsimp only)
      (all_goals trivial)
    clear hK K hHeld
    have hHeld := hHeld2
    clear hHeld2
    (try simp only [Act.put, List.setIfInBounds_toArray, List.set_cons_zero, List.set_cons_succ])
    refine wpAnyH_ready (rs := [5, 7]) (by kernel_rfl) (by simp) ?_
    refine AllReadyH.cons (toArr_get _ 5 _ rfl) (fun K hK => ?_) ?_
    · go_simp
      refine (pick_any w.heap.size (260) 14 _ D1.out (by omega)).mono ?_
      rintro e c2 ⟨x, rfl, x0, x1, -, hg2, hr2⟩
      have x2 := x1 (by omega)
      have G2 := Lib.hid (gb_trans G1.out hg2)
      have D2 := Lib.hid hr2
      have Z2 := Lib.hid (Z1.out.kept hg2 rl)
      clear hr2 x1
      go_wp2_with fail
      refine hK.out _ _ ?_ (fun hHeld2 => ?_)
      · (try dsimp only)
        (all_goals trivial)
      clear hK K hHeld
      have hHeld := hHeld2
      clear hHeld2
      (try simp only [Act.put, List.setIfInBounds_toArray, List.set_cons_zero, List.set_cons_succ])
      refine wpAnyH_ready (rs := [6, 7, 9]) (by kernel_rfl) (by simp) ?_
      refine AllReadyH.cons (toArr_get _ 6 _ rfl) (fun K hK => ?_) ?_
      · go_simp
        obtain ⟨c3, hc3⟩ : ∃ c3, c3 = c2.alloc (.cells #[.int .i64 x, .int .i64 (-1), .int .i64 121] 3) := ⟨_, rfl⟩
        rw [← hc3]
        have hg3 : c2.grownBy c3 (some w.heap.size) := by rw [hc3]; exact gb_below (below_box _ _)
        have G3 := Lib.hid (gb_trans G2.out hg3)
        have D3 := Lib.hid (show Rd c3 w.heap.size _ by rw [hc3]; exact D2.out.alloc _)
        have Z3 := Lib.hid (Z2.out.kept hg3 rl)
        have n6 : c2.heap.size ≠ w.heap.size := by have := D2.out.lt; omega
        have X3 := Lib.hid (show Blk c3 c2.heap.size 3 (fun _ => True) by rw [hc3]; exact Blk.new3 c2 x)
        clear hc3
        refine hK.out _ _ ?_ (fun hHeld2 => ?_)
        · (try dsimp only)
          (all_goals trivial)
        clear hK K hHeld
        have hHeld := hHeld2
        clear hHeld2
        (try simp only [Act.put, List.setIfInBounds_toArray, List.set_cons_zero, List.set_cons_succ])
        refine wpAnyH_ready (rs := [7, 9]) (by kernel_rfl) (by simp) ?_
        refine AllReadyH.cons (toArr_get _ 7 _ rfl) (fun K hK => ?_) ?_
        · go_simp
          obtain ⟨c4, hc4⟩ : ∃ c4, c4 = c3.alloc (.cells #[.int .i64 0, .int .i64 0, .int .i64 0, .int .i64 0, .int .i64 1, .int .i64 2] 3) := ⟨_, rfl⟩
          rw [← hc4]
          have hg4 : c3.grownBy c4 (some w.heap.size) := by rw [hc4]; exact gb_below (below_box _ _)
          have G4 := Lib.hid (gb_trans G3.out hg4)
          have D4 := Lib.hid (show Rd c4 w.heap.size _ by rw [hc4]; exact D3.out.alloc _)
          have Z4 := Lib.hid (Z3.out.kept hg4 rl)
          have X4 := Lib.hid (X3.out.kept hg4 n6)
          have n7 : c3.heap.size ≠ w.heap.size := by have := D3.out.lt; omega
          have S4 := Lib.hid (show Blk c4 c3.heap.size 6 (fun P => 0 ≤ P ∧ P < 3) by rw [hc4]; exact Blk.new6 c3)
          clear hc4
          refine hK.out _ _ ?_ (fun hHeld2 => ?_)
          · (try dsimp only)
            (all_goals trivial)
          clear hK K hHeld
          have hHeld := hHeld2
          clear hHeld2
          (try simp only [Act.put, List.setIfInBounds_toArray, List.set_cons_zero, List.set_cons_succ])
          refine wpAnyH_ready (rs := [9]) (by kernel_rfl) (by simp) ?_
          refine AllReadyH.cons (toArr_get _ 9 _ rfl) (fun K hK => ?_) ?_
          · go_simp
            refine (pick_any w.heap.size (261) 6 _ D4.out (by omega)).mono ?_
            rintro e c5 ⟨y, rfl, y0, y1, -, hg5, hr5⟩
            have y2 := y1 (by omega)
            have G5 := Lib.hid (gb_trans G4.out hg5)
            have D5 := Lib.hid hr5
            have Z5 := Lib.hid (Z4.out.kept hg5 rl)
            have S5 := Lib.hid (S4.out.kept hg5 n7)
            have X5 := Lib.hid (X4.out.kept hg5 n6)
            clear hr5 y1
            go_wp2_with fail
            refine hK.out _ _ ?_ (fun hHeld2 => ?_)
            · (try dsimp only)
              (all_goals trivial)
            clear hK K hHeld
            have hHeld := hHeld2
            clear hHeld2
            (try simp only [Act.put, List.setIfInBounds_toArray, List.set_cons_zero, List.set_cons_succ])
            refine wpAnyH_take (i := 10) (v := ?_) (toArr_get _ 10 _ rfl) (by kernel_rfl) (by kernel_rfl) (by kernel_rfl) (fun _ _ _ h => h) (Or.inl ⟨by rfl, ?_⟩) (by assumption) ?_
            rotate_left
            · (intro w hSw; (try dsimp only at hSw); go_simp; (try with_reducible rfl))
            (try simp only [Act.put, List.setIfInBounds_toArray, List.set_cons_zero, List.set_cons_succ])
            refine wpAnyH_take (i := 14) (v := ?_) (toArr_get _ 14 _ rfl) (by kernel_rfl) (by kernel_rfl) (by kernel_rfl) (fun _ _ _ h => h) (Or.inl ⟨by rfl, ?_⟩) (by assumption) ?_
            rotate_left
            · (intro w hSw; (try dsimp only at hSw); go_simp; (try with_reducible rfl))
            (try simp only [Act.put, List.setIfInBounds_toArray, List.set_cons_zero, List.set_cons_succ])
            refine wpAnyH_take (i := 15) (v := ?_) (toArr_get _ 15 _ rfl) (by kernel_rfl) (by kernel_rfl) (by kernel_rfl) (fun _ _ _ h => h) (Or.inl ⟨by rfl, ?_⟩) (by assumption) ?_
            rotate_left
            · (intro w hSw; (try dsimp only at hSw); go_simp; (try with_reducible rfl))
            (try simp only [Act.put, List.setIfInBounds_toArray, List.set_cons_zero, List.set_cons_succ])
            refine wpAnyH_ready (rs := [11]) (by kernel_rfl) (by simp) ?_
            refine AllReadyH.cons (toArr_get _ 11 _ rfl) (fun K hK => ?_) ?_
            · obtain ⟨P, ⟨hP0, hP3⟩, hPc⟩ := S5.out.2 y.toNat (by omega)
              go_simp
              clear hPc
              refine hK.out _ _ ?_ (fun hHeld2 => ?_)
              · (try dsimp only)
                (all_goals trivial)
              clear hK K hHeld
              have hHeld := hHeld2
              clear hHeld2
              (try simp only [Act.put, List.setIfInBounds_toArray, List.set_cons_zero, List.set_cons_succ])
              refine wpAnyH_take (i := 12) (v := ?_) (toArr_get _ 12 _ rfl) (by kernel_rfl) (by kernel_rfl) (by kernel_rfl) (fun _ _ _ h => h) (Or.inl ⟨by rfl, ?_⟩) (by assumption) ?_
              rotate_left
              · (intro w hSw; (try dsimp only at hSw); go_simp; (try with_reducible rfl))
              (try simp only [Act.put, List.setIfInBounds_toArray, List.set_cons_zero, List.set_cons_succ])
              refine wpAnyH_ready (rs := [13]) (by kernel_rfl) (by simp) ?_
              refine AllReadyH.cons (toArr_get _ 13 _ rfl) (fun K hK => ?_) ?_
              · obtain ⟨T, -, hTc⟩ := X5.out.2 P.toNat (by omega)
                go_simp
                clear hTc
                refine hK.out _ _ ?_ (fun hHeld2 => ?_)
                · (try dsimp only)
                  (all_goals trivial)
                clear hK K hHeld
                have hHeld := hHeld2
                clear hHeld2
                (try simp only [Act.put, List.setIfInBounds_toArray, List.set_cons_zero, List.set_cons_succ])
                refine wpAnyH_take (i := 16) (v := ?_) (toArr_get _ 16 _ rfl) (by kernel_rfl) (by kernel_rfl) (by kernel_rfl) (fun _ _ _ h => h) (Or.inl ⟨by rfl, ?_⟩) (by assumption) ?_
                rotate_left
                · (intro w hSw; (try dsimp only at hSw); go_simp; (try with_reducible rfl))
                (try simp only [Act.put, List.setIfInBounds_toArray, List.set_cons_zero, List.set_cons_succ])
                refine wpAnyH_done (by kernel_rfl) ?_ _
                go_wp2
                go_ret3
                exact ⟨g, cap2, sg, scap, T, ts, o, rfl, hlen, hlc, hcm, ho, HO.out, row_grown HW.out G5.out hgne, Z5.out.mono hs2, B2.trans (gb_to_below G5.out (Nat.le_refl _) hs2)⟩
              exact AllReadyH.nil
            exact AllReadyH.nil
          exact AllReadyH.nil
        refine AllReadyH.cons (toArr_get _ 9 _ rfl) (fun K hK => ?_) ?_
        · go_simp
          refine (pick_any w.heap.size (261) 6 _ D3.out (by omega)).mono ?_
          rintro e c4 ⟨y, rfl, y0, y1, -, hg4, hr4⟩
          have y2 := y1 (by omega)
          have G4 := Lib.hid (gb_trans G3.out hg4)
          have D4 := Lib.hid hr4
          have Z4 := Lib.hid (Z3.out.kept hg4 rl)
          have X4 := Lib.hid (X3.out.kept hg4 n6)
          clear hr4 y1
          go_wp2_with fail
          refine hK.out _ _ ?_ (fun hHeld2 => ?_)
          · (try dsimp only)
            (all_goals trivial)
          clear hK K hHeld
          have hHeld := hHeld2
          clear hHeld2
          (try simp only [Act.put, List.setIfInBounds_toArray, List.set_cons_zero, List.set_cons_succ])
          refine wpAnyH_take (i := 14) (v := ?_) (toArr_get _ 14 _ rfl) (by kernel_rfl) (by kernel_rfl) (by kernel_rfl) (fun _ _ _ h => h) (Or.inl ⟨by rfl, ?_⟩) (by assumption) ?_
          rotate_left
          · (intro w hSw; (try dsimp only at hSw); go_simp; (try with_reducible rfl))
          (try simp only [Act.put, List.setIfInBounds_toArray, List.set_cons_zero, List.set_cons_succ])
          refine wpAnyH_take (i := 15) (v := ?_) (toArr_get _ 15 _ rfl) (by kernel_rfl) (by kernel_rfl) (by kernel_rfl) (fun _ _ _ h => h) (Or.inl ⟨by rfl, ?_⟩) (by assumption) ?_
          rotate_left
          · (intro w hSw; (try dsimp only at hSw); go_simp; (try with_reducible rfl))
          (try simp only [Act.put, List.setIfInBounds_toArray, List.set_cons_zero, List.set_cons_succ])
          refine wpAnyH_ready (rs := [7]) (by kernel_rfl) (by simp) ?_
          refine AllReadyH.cons (toArr_get _ 7 _ rfl) (fun K hK => ?_) ?_
          · go_simp
            obtain ⟨c5, hc5⟩ : ∃ c5, c5 = c4.alloc (.cells #[.int .i64 0, .int .i64 0, .int .i64 0, .int .i64 0, .int .i64 1, .int .i64 2] 3) := ⟨_, rfl⟩
            rw [← hc5]
            have hg5 : c4.grownBy c5 (some w.heap.size) := by rw [hc5]; exact gb_below (below_box _ _)
            have G5 := Lib.hid (gb_trans G4.out hg5)
            have D5 := Lib.hid (show Rd c5 w.heap.size _ by rw [hc5]; exact D4.out.alloc _)
            have Z5 := Lib.hid (Z4.out.kept hg5 rl)
            have X5 := Lib.hid (X4.out.kept hg5 n6)
            have n7 : c4.heap.size ≠ w.heap.size := by have := D4.out.lt; omega
            have S5 := Lib.hid (show Blk c5 c4.heap.size 6 (fun P => 0 ≤ P ∧ P < 3) by rw [hc5]; exact Blk.new6 c4)
            clear hc5
            refine hK.out _ _ ?_ (fun hHeld2 => ?_)
            · (try dsimp only)
              (all_goals trivial)
            clear hK K hHeld
            have hHeld := hHeld2
            clear hHeld2
            (try simp only [Act.put, List.setIfInBounds_toArray, List.set_cons_zero, List.set_cons_succ])
            refine wpAnyH_take (i := 10) (v := ?_) (toArr_get _ 10 _ rfl) (by kernel_rfl) (by kernel_rfl) (by kernel_rfl) (fun _ _ _ h => h) (Or.inl ⟨by rfl, ?_⟩) (by assumption) ?_
            rotate_left
            · (intro w hSw; (try dsimp only at hSw); go_simp; (try with_reducible rfl))
            (try simp only [Act.put, List.setIfInBounds_toArray, List.set_cons_zero, List.set_cons_succ])
            refine wpAnyH_ready (rs := [11]) (by kernel_rfl) (by simp) ?_
            refine AllReadyH.cons (toArr_get _ 11 _ rfl) (fun K hK => ?_) ?_
            · obtain ⟨P, ⟨hP0, hP3⟩, hPc⟩ := S5.out.2 y.toNat (by omega)
              go_simp
              clear hPc
              refine hK.out _ _ ?_ (fun hHeld2 => ?_)
              · (try dsimp only)
                (all_goals trivial)
              clear hK K hHeld
              have hHeld := hHeld2
              clear hHeld2
              (try simp only [Act.put, List.setIfInBounds_toArray, List.set_cons_zero, List.set_cons_succ])
              refine wpAnyH_take (i := 12) (v := ?_) (toArr_get _ 12 _ rfl) (by kernel_rfl) (by kernel_rfl) (by kernel_rfl) (fun _ _ _ h => h) (Or.inl ⟨by rfl, ?_⟩) (by assumption) ?_
              rotate_left
              · (intro w hSw; (try dsimp only at hSw); go_simp; (try with_reducible rfl))
              (try simp only [Act.put, List.setIfInBounds_toArray, List.set_cons_zero, List.set_cons_succ])
              refine wpAnyH_ready (rs := [13]) (by kernel_rfl) (by simp) ?_
              refine AllReadyH.cons (toArr_get _ 13 _ rfl) (fun K hK => ?_) ?_
              · obtain ⟨T, -, hTc⟩ := X5.out.2 P.toNat (by omega)
                go_simp
                clear hTc
                refine hK.out _ _ ?_ (fun hHeld2 => ?_)
                · (try dsimp only)
                  (all_goals trivial)
                clear hK K hHeld
                have hHeld := hHeld2
                clear hHeld2
                (try simp only [Act.put, List.setIfInBounds_toArray, List.set_cons_zero, List.set_cons_succ])
                refine wpAnyH_take (i := 16) (v := ?_) (toArr_get _ 16 _ rfl) (by kernel_rfl) (by kernel_rfl) (by kernel_rfl) (fun _ _ _ h => h) (Or.inl ⟨by rfl, ?_⟩) (by assumption) ?_
                rotate_left
                · (intro w hSw; (try dsimp only at hSw); go_simp; (try with_reducible rfl))
                (try simp only [Act.put, List.setIfInBounds_toArray, List.set_cons_zero, List.set_cons_succ])
                refine wpAnyH_done (by kernel_rfl) ?_ _
                go_wp2
                go_ret3
                exact ⟨g, cap2, sg, scap, T, ts, o, rfl, hlen, hlc, hcm, ho, HO.out, row_grown HW.out G5.out hgne, Z5.out.mono hs2, B2.trans (gb_to_below G5.out (Nat.le_refl _) hs2)⟩
              exact AllReadyH.nil
            exact AllReadyH.nil
          exact AllReadyH.nil
        exact AllReadyH.nil
      refine AllReadyH.cons (toArr_get _ 7 _ rfl) (fun K hK => ?_) ?_
      · go_simp
        obtain ⟨c3, hc3⟩ : ∃ c3, c3 = c2.alloc (.cells #[.int .i64 0, .int .i64 0, .int .i64 0, .int .i64 0, .int .i64 1, .int .i64 2] 3) := ⟨_, rfl⟩
        rw [← hc3]
        have hg3 : c2.grownBy c3 (some w.heap.size) := by rw [hc3]; exact gb_below (below_box _ _)
        have G3 := Lib.hid (gb_trans G2.out hg3)
        have D3 := Lib.hid (show Rd c3 w.heap.size _ by rw [hc3]; exact D2.out.alloc _)
        have Z3 := Lib.hid (Z2.out.kept hg3 rl)
        have n7 : c2.heap.size ≠ w.heap.size := by have := D2.out.lt; omega
        have S3 := Lib.hid (show Blk c3 c2.heap.size 6 (fun P => 0 ≤ P ∧ P < 3) by rw [hc3]; exact Blk.new6 c2)
        clear hc3
        refine hK.out _ _ ?_ (fun hHeld2 => ?_)
        · (try dsimp only)
          (all_goals trivial)
        clear hK K hHeld
        have hHeld := hHeld2
        clear hHeld2
        (try simp only [Act.put, List.setIfInBounds_toArray, List.set_cons_zero, List.set_cons_succ])
        refine wpAnyH_ready (rs := [6, 9]) (by kernel_rfl) (by simp) ?_
        refine AllReadyH.cons (toArr_get _ 6 _ rfl) (fun K hK => ?_) ?_
        · go_simp
          obtain ⟨c4, hc4⟩ : ∃ c4, c4 = c3.alloc (.cells #[.int .i64 x, .int .i64 (-1), .int .i64 121] 3) := ⟨_, rfl⟩
          rw [← hc4]
          have hg4 : c3.grownBy c4 (some w.heap.size) := by rw [hc4]; exact gb_below (below_box _ _)
          have G4 := Lib.hid (gb_trans G3.out hg4)
          have D4 := Lib.hid (show Rd c4 w.heap.size _ by rw [hc4]; exact D3.out.alloc _)
          have Z4 := Lib.hid (Z3.out.kept hg4 rl)
          have S4 := Lib.hid (S3.out.kept hg4 n7)
          have n6 : c3.heap.size ≠ w.heap.size := by have := D3.out.lt; omega
          have X4 := Lib.hid (show Blk c4 c3.heap.size 3 (fun _ => True) by rw [hc4]; exact Blk.new3 c3 x)
          clear hc4
          refine hK.out _ _ ?_ (fun hHeld2 => ?_)
          · (try dsimp only)
            (all_goals trivial)
          clear hK K hHeld
          have hHeld := hHeld2
          clear hHeld2
          (try simp only [Act.put, List.setIfInBounds_toArray, List.set_cons_zero, List.set_cons_succ])
          refine wpAnyH_ready (rs := [9]) (by kernel_rfl) (by simp) ?_
          refine AllReadyH.cons (toArr_get _ 9 _ rfl) (fun K hK => ?_) ?_
          · go_simp
            refine (pick_any w.heap.size (261) 6 _ D4.out (by omega)).mono ?_
            rintro e c5 ⟨y, rfl, y0, y1, -, hg5, hr5⟩
            have y2 := y1 (by omega)
            have G5 := Lib.hid (gb_trans G4.out hg5)
            have D5 := Lib.hid hr5
            have Z5 := Lib.hid (Z4.out.kept hg5 rl)
            have S5 := Lib.hid (S4.out.kept hg5 n7)
            have X5 := Lib.hid (X4.out.kept hg5 n6)
            clear hr5 y1
            go_wp2_with fail
            refine hK.out _ _ ?_ (fun hHeld2 => ?_)
            · (try dsimp only)
              (all_goals trivial)
            clear hK K hHeld
            have hHeld := hHeld2
            clear hHeld2
            (try simp only [Act.put, List.setIfInBounds_toArray, List.set_cons_zero, List.set_cons_succ])
            refine wpAnyH_take (i := 10) (v := ?_) (toArr_get _ 10 _ rfl) (by kernel_rfl) (by kernel_rfl) (by kernel_rfl) (fun _ _ _ h => h) (Or.inl ⟨by rfl, ?_⟩) (by assumption) ?_
            rotate_left
            · (intro w hSw; (try dsimp only at hSw); go_simp; (try with_reducible rfl))
            (try simp only [Act.put, List.setIfInBounds_toArray, List.set_cons_zero, List.set_cons_succ])
            refine wpAnyH_take (i := 14) (v := ?_) (toArr_get _ 14 _ rfl) (by kernel_rfl) (by kernel_rfl) (by kernel_rfl) (fun _ _ _ h => h) (Or.inl ⟨by rfl, ?_⟩) (by assumption) ?_
            rotate_left
            · (intro w hSw; (try dsimp only at hSw); go_simp; (try with_reducible rfl))
            (try simp only [Act.put, List.setIfInBounds_toArray, List.set_cons_zero, List.set_cons_succ])
            refine wpAnyH_take (i := 15) (v := ?_) (toArr_get _ 15 _ rfl) (by kernel_rfl) (by kernel_rfl) (by kernel_rfl) (fun _ _ _ h => h) (Or.inl ⟨by rfl, ?_⟩) (by assumption) ?_
            rotate_left
            · (intro w hSw; (try dsimp only at hSw); go_simp; (try with_reducible rfl))
            (try simp only [Act.put, List.setIfInBounds_toArray, List.set_cons_zero, List.set_cons_succ])
            refine wpAnyH_ready (rs := [11]) (by kernel_rfl) (by simp) ?_
            refine AllReadyH.cons (toArr_get _ 11 _ rfl) (fun K hK => ?_) ?_
            · obtain ⟨P, ⟨hP0, hP3⟩, hPc⟩ := S5.out.2 y.toNat (by omega)
              go_simp
              clear hPc
              refine hK.out _ _ ?_ (fun hHeld2 => ?_)
              · (try dsimp only)
                (all_goals trivial)
              clear hK K hHeld
              have hHeld := hHeld2
              clear hHeld2
              (try simp only [Act.put, List.setIfInBounds_toArray, List.set_cons_zero, List.set_cons_succ])
              refine wpAnyH_take (i := 12) (v := ?_) (toArr_get _ 12 _ rfl) (by kernel_rfl) (by kernel_rfl) (by kernel_rfl) (fun _ _ _ h => h) (Or.inl ⟨by rfl, ?_⟩) (by assumption) ?_
              rotate_left
              · (intro w hSw; (try dsimp only at hSw); go_simp; (try with_reducible rfl))
              (try simp only [Act.put, List.setIfInBounds_toArray, List.set_cons_zero, List.set_cons_succ])
              refine wpAnyH_ready (rs := [13]) (by kernel_rfl) (by simp) ?_
              refine AllReadyH.cons (toArr_get _ 13 _ rfl) (fun K hK => ?_) ?_
              · obtain ⟨T, -, hTc⟩ := X5.out.2 P.toNat (by omega)
                go_simp
                clear hTc
                refine hK.out _ _ ?_ (fun hHeld2 => ?_)
                · (try dsimp only)
                  (all_goals trivial)
                clear hK K hHeld
                have hHeld := hHeld2
                clear hHeld2
                (try simp only [Act.put, List.setIfInBounds_toArray, List.set_cons_zero, List.set_cons_succ])
                refine wpAnyH_take (i := 16) (v := ?_) (toArr_get _ 16 _ rfl) (by kernel_rfl) (by kernel_rfl) (by kernel_rfl) (fun _ _ _ h => h) (Or.inl ⟨by rfl, ?_⟩) (by assumption) ?_
                rotate_left
                · (intro w hSw; (try dsimp only at hSw); go_simp; (try with_reducible rfl))
                (try simp only [Act.put, List.setIfInBounds_toArray, List.set_cons_zero, List.set_cons_succ])
                refine wpAnyH_done (by kernel_rfl) ?_ _
                go_wp2
                go_ret3
                exact ⟨g, cap2, sg, scap, T, ts, o, rfl, hlen, hlc, hcm, ho, HO.out, row_grown HW.out G5.out hgne, Z5.out.mono hs2, B2.trans (gb_to_below G5.out (Nat.le_refl _) hs2)⟩
              exact AllReadyH.nil
            exact AllReadyH.nil
          exact AllReadyH.nil
        refine AllReadyH.cons (toArr_get _ 9 _ rfl) (fun K hK => ?_) ?_
        · go_simp
          refine (pick_any w.heap.size (261) 6 _ D3.out (by omega)).mono ?_
          rintro e c4 ⟨y, rfl, y0, y1, -, hg4, hr4⟩
          have y2 := y1 (by omega)
          have G4 := Lib.hid (gb_trans G3.out hg4)
          have D4 := Lib.hid hr4
          have Z4 := Lib.hid (Z3.out.kept hg4 rl)
          have S4 := Lib.hid (S3.out.kept hg4 n7)
          clear hr4 y1
          go_wp2_with fail
          refine hK.out _ _ ?_ (fun hHeld2 => ?_)
          · (try dsimp only)
            (all_goals trivial)
          clear hK K hHeld
          have hHeld := hHeld2
          clear hHeld2
          (try simp only [Act.put, List.setIfInBounds_toArray, List.set_cons_zero, List.set_cons_succ])
          refine wpAnyH_take (i := 10) (v := ?_) (toArr_get _ 10 _ rfl) (by kernel_rfl) (by kernel_rfl) (by kernel_rfl) (fun _ _ _ h => h) (Or.inl ⟨by rfl, ?_⟩) (by assumption) ?_
          rotate_left
          · (intro w hSw; (try dsimp only at hSw); go_simp; (try with_reducible rfl))
          (try simp only [Act.put, List.setIfInBounds_toArray, List.set_cons_zero, List.set_cons_succ])
          refine wpAnyH_take (i := 14) (v := ?_) (toArr_get _ 14 _ rfl) (by kernel_rfl) (by kernel_rfl) (by kernel_rfl) (fun _ _ _ h => h) (Or.inl ⟨by rfl, ?_⟩) (by assumption) ?_
          rotate_left
          · (intro w hSw; (try dsimp only at hSw); go_simp; (try with_reducible rfl))
          (try simp only [Act.put, List.setIfInBounds_toArray, List.set_cons_zero, List.set_cons_succ])
          refine wpAnyH_take (i := 15) (v := ?_) (toArr_get _ 15 _ rfl) (by kernel_rfl) (by kernel_rfl) (by kernel_rfl) (fun _ _ _ h => h) (Or.inl ⟨by rfl, ?_⟩) (by assumption) ?_
          rotate_left
          · (intro w hSw; (try dsimp only at hSw); go_simp; (try with_reducible rfl))
          (try simp only [Act.put, List.setIfInBounds_toArray, List.set_cons_zero, List.set_cons_succ])
          refine wpAnyH_ready (rs := [6, 11]) (by kernel_rfl) (by simp) ?_
          refine AllReadyH.cons (toArr_get _ 6 _ rfl) (fun K hK => ?_) ?_
          · go_simp
            obtain ⟨c5, hc5⟩ : ∃ c5, c5 = c4.alloc (.cells #[.int .i64 x, .int .i64 (-1), .int .i64 121] 3) := ⟨_, rfl⟩
            rw [← hc5]
            have hg5 : c4.grownBy c5 (some w.heap.size) := by rw [hc5]; exact gb_below (below_box _ _)
            have G5 := Lib.hid (gb_trans G4.out hg5)
            have D5 := Lib.hid (show Rd c5 w.heap.size _ by rw [hc5]; exact D4.out.alloc _)
            have Z5 := Lib.hid (Z4.out.kept hg5 rl)
            have S5 := Lib.hid (S4.out.kept hg5 n7)
            have n6 : c4.heap.size ≠ w.heap.size := by have := D4.out.lt; omega
            have X5 := Lib.hid (show Blk c5 c4.heap.size 3 (fun _ => True) by rw [hc5]; exact Blk.new3 c4 x)
            clear hc5
            refine hK.out _ _ ?_ (fun hHeld2 => ?_)
            · (try dsimp only)
              (all_goals trivial)
            clear hK K hHeld
            have hHeld := hHeld2
            clear hHeld2
            (try simp only [Act.put, List.setIfInBounds_toArray, List.set_cons_zero, List.set_cons_succ])
            refine wpAnyH_ready (rs := [11]) (by kernel_rfl) (by simp) ?_
            refine AllReadyH.cons (toArr_get _ 11 _ rfl) (fun K hK => ?_) ?_
            · obtain ⟨P, ⟨hP0, hP3⟩, hPc⟩ := S5.out.2 y.toNat (by omega)
              go_simp
              clear hPc
              refine hK.out _ _ ?_ (fun hHeld2 => ?_)
              · (try dsimp only)
                (all_goals trivial)
              clear hK K hHeld
              have hHeld := hHeld2
              clear hHeld2
              (try simp only [Act.put, List.setIfInBounds_toArray, List.set_cons_zero, List.set_cons_succ])
              refine wpAnyH_take (i := 12) (v := ?_) (toArr_get _ 12 _ rfl) (by kernel_rfl) (by kernel_rfl) (by kernel_rfl) (fun _ _ _ h => h) (Or.inl ⟨by rfl, ?_⟩) (by assumption) ?_
              rotate_left
              · (intro w hSw; (try dsimp only at hSw); go_simp; (try with_reducible rfl))
              (try simp only [Act.put, List.setIfInBounds_toArray, List.set_cons_zero, List.set_cons_succ])
              refine wpAnyH_ready (rs := [13]) (by kernel_rfl) (by simp) ?_
              refine AllReadyH.cons (toArr_get _ 13 _ rfl) (fun K hK => ?_) ?_
              · obtain ⟨T, -, hTc⟩ := X5.out.2 P.toNat (by omega)
                go_simp
                clear hTc
                refine hK.out _ _ ?_ (fun hHeld2 => ?_)
                · (try dsimp only)
                  (all_goals trivial)
                clear hK K hHeld
                have hHeld := hHeld2
                clear hHeld2
                (try simp only [Act.put, List.setIfInBounds_toArray, List.set_cons_zero, List.set_cons_succ])
                refine wpAnyH_take (i := 16) (v := ?_) (toArr_get _ 16 _ rfl) (by kernel_rfl) (by kernel_rfl) (by kernel_rfl) (fun _ _ _ h => h) (Or.inl ⟨by rfl, ?_⟩) (by assumption) ?_
                rotate_left
                · (intro w hSw; (try dsimp only at hSw); go_simp; (try with_reducible rfl))
                (try simp only [Act.put, List.setIfInBounds_toArray, List.set_cons_zero, List.set_cons_succ])
                refine wpAnyH_done (by kernel_rfl) ?_ _
                go_wp2
                go_ret3
                exact ⟨g, cap2, sg, scap, T, ts, o, rfl, hlen, hlc, hcm, ho, HO.out, row_grown HW.out G5.out hgne, Z5.out.mono hs2, B2.trans (gb_to_below G5.out (Nat.le_refl _) hs2)⟩
              exact AllReadyH.nil
            exact AllReadyH.nil
          refine AllReadyH.cons (toArr_get _ 11 _ rfl) (fun K hK => ?_) ?_
          · obtain ⟨P, ⟨hP0, hP3⟩, hPc⟩ := S4.out.2 y.toNat (by omega)
            go_simp
            clear hPc
            refine hK.out _ _ ?_ (fun hHeld2 => ?_)
            · (try dsimp only)
              (all_goals trivial)
            clear hK K hHeld
            have hHeld := hHeld2
            clear hHeld2
            (try simp only [Act.put, List.setIfInBounds_toArray, List.set_cons_zero, List.set_cons_succ])
            refine wpAnyH_ready (rs := [6]) (by kernel_rfl) (by simp) ?_
            refine AllReadyH.cons (toArr_get _ 6 _ rfl) (fun K hK => ?_) ?_
            · go_simp
              obtain ⟨c5, hc5⟩ : ∃ c5, c5 = c4.alloc (.cells #[.int .i64 x, .int .i64 (-1), .int .i64 121] 3) := ⟨_, rfl⟩
              rw [← hc5]
              have hg5 : c4.grownBy c5 (some w.heap.size) := by rw [hc5]; exact gb_below (below_box _ _)
              have G5 := Lib.hid (gb_trans G4.out hg5)
              have D5 := Lib.hid (show Rd c5 w.heap.size _ by rw [hc5]; exact D4.out.alloc _)
              have Z5 := Lib.hid (Z4.out.kept hg5 rl)
              have S5 := Lib.hid (S4.out.kept hg5 n7)
              have n6 : c4.heap.size ≠ w.heap.size := by have := D4.out.lt; omega
              have X5 := Lib.hid (show Blk c5 c4.heap.size 3 (fun _ => True) by rw [hc5]; exact Blk.new3 c4 x)
              clear hc5
              refine hK.out _ _ ?_ (fun hHeld2 => ?_)
              · (try dsimp only)
                (all_goals trivial)
              clear hK K hHeld
              have hHeld := hHeld2
              clear hHeld2
              (try simp only [Act.put, List.setIfInBounds_toArray, List.set_cons_zero, List.set_cons_succ])
              refine wpAnyH_take (i := 12) (v := ?_) (toArr_get _ 12 _ rfl) (by kernel_rfl) (by kernel_rfl) (by kernel_rfl) (fun _ _ _ h => h) (Or.inl ⟨by rfl, ?_⟩) (by assumption) ?_
              rotate_left
              · (intro w hSw; (try dsimp only at hSw); go_simp; (try with_reducible rfl))
              (try simp only [Act.put, List.setIfInBounds_toArray, List.set_cons_zero, List.set_cons_succ])
              refine wpAnyH_ready (rs := [13]) (by kernel_rfl) (by simp) ?_
              refine AllReadyH.cons (toArr_get _ 13 _ rfl) (fun K hK => ?_) ?_
              · obtain ⟨T, -, hTc⟩ := X5.out.2 P.toNat (by omega)
                go_simp
                clear hTc
                refine hK.out _ _ ?_ (fun hHeld2 => ?_)
                · (try dsimp only)
                  (all_goals trivial)
                clear hK K hHeld
                have hHeld := hHeld2
                clear hHeld2
                (try simp only [Act.put, List.setIfInBounds_toArray, List.set_cons_zero, List.set_cons_succ])
                refine wpAnyH_take (i := 16) (v := ?_) (toArr_get _ 16 _ rfl) (by kernel_rfl) (by kernel_rfl) (by kernel_rfl) (fun _ _ _ h => h) (Or.inl ⟨by rfl, ?_⟩) (by assumption) ?_
                rotate_left
                · (intro w hSw; (try dsimp only at hSw); go_simp; (try with_reducible rfl))
                (try simp only [Act.put, List.setIfInBounds_toArray, List.set_cons_zero, List.set_cons_succ])
                refine wpAnyH_done (by kernel_rfl) ?_ _
                go_wp2
                go_ret3
                exact ⟨g, cap2, sg, scap, T, ts, o, rfl, hlen, hlc, hcm, ho, HO.out, row_grown HW.out G5.out hgne, Z5.out.mono hs2, B2.trans (gb_to_below G5.out (Nat.le_refl _) hs2)⟩
              exact AllReadyH.nil
            exact AllReadyH.nil
          exact AllReadyH.nil
        exact AllReadyH.nil
      refine AllReadyH.cons (toArr_get _ 9 _ rfl) (fun K hK => ?_) ?_
      · go_simp
        refine (pick_any w.heap.size (261) 6 _ D2.out (by omega)).mono ?_
        rintro e c3 ⟨y, rfl, y0, y1, -, hg3, hr3⟩
        have y2 := y1 (by omega)
        have G3 := Lib.hid (gb_trans G2.out hg3)
        have D3 := Lib.hid hr3
        have Z3 := Lib.hid (Z2.out.kept hg3 rl)
        clear hr3 y1
        go_wp2_with fail
        refine hK.out _ _ ?_ (fun hHeld2 => ?_)
        · (try dsimp only)
          (all_goals trivial)
        clear hK K hHeld
        have hHeld := hHeld2
        clear hHeld2
        (try simp only [Act.put, List.setIfInBounds_toArray, List.set_cons_zero, List.set_cons_succ])
        refine wpAnyH_take (i := 14) (v := ?_) (toArr_get _ 14 _ rfl) (by kernel_rfl) (by kernel_rfl) (by kernel_rfl) (fun _ _ _ h => h) (Or.inl ⟨by rfl, ?_⟩) (by assumption) ?_
        rotate_left
        · (intro w hSw; (try dsimp only at hSw); go_simp; (try with_reducible rfl))
        (try simp only [Act.put, List.setIfInBounds_toArray, List.set_cons_zero, List.set_cons_succ])
        refine wpAnyH_take (i := 15) (v := ?_) (toArr_get _ 15 _ rfl) (by kernel_rfl) (by kernel_rfl) (by kernel_rfl) (fun _ _ _ h => h) (Or.inl ⟨by rfl, ?_⟩) (by assumption) ?_
        rotate_left
        · (intro w hSw; (try dsimp only at hSw); go_simp; (try with_reducible rfl))
        (try simp only [Act.put, List.setIfInBounds_toArray, List.set_cons_zero, List.set_cons_succ])
        refine wpAnyH_ready (rs := [6, 7]) (by kernel_rfl) (by simp) ?_
        refine AllReadyH.cons (toArr_get _ 6 _ rfl) (fun K hK => ?_) ?_
        · go_simp
          obtain ⟨c4, hc4⟩ : ∃ c4, c4 = c3.alloc (.cells #[.int .i64 x, .int .i64 (-1), .int .i64 121] 3) := ⟨_, rfl⟩
          rw [← hc4]
          have hg4 : c3.grownBy c4 (some w.heap.size) := by rw [hc4]; exact gb_below (below_box _ _)
          have G4 := Lib.hid (gb_trans G3.out hg4)
          have D4 := Lib.hid (show Rd c4 w.heap.size _ by rw [hc4]; exact D3.out.alloc _)
          have Z4 := Lib.hid (Z3.out.kept hg4 rl)
          have n6 : c3.heap.size ≠ w.heap.size := by have := D3.out.lt; omega
          have X4 := Lib.hid (show Blk c4 c3.heap.size 3 (fun _ => True) by rw [hc4]; exact Blk.new3 c3 x)
          clear hc4
          refine hK.out _ _ ?_ (fun hHeld2 => ?_)
          · (try dsimp only)
            (all_goals trivial)
          clear hK K hHeld
          have hHeld := hHeld2
          clear hHeld2
          (try simp only [Act.put, List.setIfInBounds_toArray, List.set_cons_zero, List.set_cons_succ])
          refine wpAnyH_ready (rs := [7]) (by kernel_rfl) (by simp) ?_
          refine AllReadyH.cons (toArr_get _ 7 _ rfl) (fun K hK => ?_) ?_
          · go_simp
            obtain ⟨c5, hc5⟩ : ∃ c5, c5 = c4.alloc (.cells #[.int .i64 0, .int .i64 0, .int .i64 0, .int .i64 0, .int .i64 1, .int .i64 2] 3) := ⟨_, rfl⟩
            rw [← hc5]
            have hg5 : c4.grownBy c5 (some w.heap.size) := by rw [hc5]; exact gb_below (below_box _ _)
            have G5 := Lib.hid (gb_trans G4.out hg5)
            have D5 := Lib.hid (show Rd c5 w.heap.size _ by rw [hc5]; exact D4.out.alloc _)
            have Z5 := Lib.hid (Z4.out.kept hg5 rl)
            have X5 := Lib.hid (X4.out.kept hg5 n6)
            have n7 : c4.heap.size ≠ w.heap.size := by have := D4.out.lt; omega
            have S5 := Lib.hid (show Blk c5 c4.heap.size 6 (fun P => 0 ≤ P ∧ P < 3) by rw [hc5]; exact Blk.new6 c4)
            clear hc5
            refine hK.out _ _ ?_ (fun hHeld2 => ?_)
            · (try dsimp only)
              (all_goals trivial)
            clear hK K hHeld
            have hHeld := hHeld2
            clear hHeld2
            (try simp only [Act.put, List.setIfInBounds_toArray, List.set_cons_zero, List.set_cons_succ])
            refine wpAnyH_take (i := 10) (v := ?_) (toArr_get _ 10 _ rfl) (by kernel_rfl) (by kernel_rfl) (by kernel_rfl) (fun _ _ _ h => h) (Or.inl ⟨by rfl, ?_⟩) (by assumption) ?_
            rotate_left
            · (intro w hSw; (try dsimp only at hSw); go_simp; (try with_reducible rfl))
            (try simp only [Act.put, List.setIfInBounds_toArray, List.set_cons_zero, List.set_cons_succ])
            refine wpAnyH_ready (rs := [11]) (by kernel_rfl) (by simp) ?_
            refine AllReadyH.cons (toArr_get _ 11 _ rfl) (fun K hK => ?_) ?_
            · obtain ⟨P, ⟨hP0, hP3⟩, hPc⟩ := S5.out.2 y.toNat (by omega)
              go_simp
              clear hPc
              refine hK.out _ _ ?_ (fun hHeld2 => ?_)
              · (try dsimp only)
                (all_goals trivial)
              clear hK K hHeld
              have hHeld := hHeld2
              clear hHeld2
              (try simp only [Act.put, List.setIfInBounds_toArray, List.set_cons_zero, List.set_cons_succ])
              refine wpAnyH_take (i := 12) (v := ?_) (toArr_get _ 12 _ rfl) (by kernel_rfl) (by kernel_rfl) (by kernel_rfl) (fun _ _ _ h => h) (Or.inl ⟨by rfl, ?_⟩) (by assumption) ?_
              rotate_left
              · (intro w hSw; (try dsimp only at hSw); go_simp; (try with_reducible rfl))
              (try simp only [Act.put, List.setIfInBounds_toArray, List.set_cons_zero, List.set_cons_succ])
              refine wpAnyH_ready (rs := [13]) (by kernel_rfl) (by simp) ?_
              refine AllReadyH.cons (toArr_get _ 13 _ rfl) (fun K hK => ?_) ?_
              · obtain ⟨T, -, hTc⟩ := X5.out.2 P.toNat (by omega)
                go_simp
                clear hTc
                refine hK.out _ _ ?_ (fun hHeld2 => ?_)
                · (try dsimp only)
                  (all_goals trivial)
                clear hK K hHeld
                have hHeld := hHeld2
                clear hHeld2
                (try simp only [Act.put, List.setIfInBounds_toArray, List.set_cons_zero, List.set_cons_succ])
                refine wpAnyH_take (i := 16) (v := ?_) (toArr_get _ 16 _ rfl) (by kernel_rfl) (by kernel_rfl) (by kernel_rfl) (fun _ _ _ h => h) (Or.inl ⟨by rfl, ?_⟩) (by assumption) ?_
                rotate_left
                · (intro w hSw; (try dsimp only at hSw); go_simp; (try with_reducible rfl))
                (try simp only [Act.put, List.setIfInBounds_toArray, List.set_cons_zero, List.set_cons_succ])
                refine wpAnyH_done (by kernel_rfl) ?_ _
                go_wp2
                go_ret3
                exact ⟨g, cap2, sg, scap, T, ts, o, rfl, hlen, hlc, hcm, ho, HO.out, row_grown HW.out G5.out hgne, Z5.out.mono hs2, B2.trans (gb_to_below G5.out (Nat.le_refl _) hs2)⟩
              exact AllReadyH.nil
            exact AllReadyH.nil
          exact AllReadyH.nil
        refine AllReadyH.cons (toArr_get _ 7 _ rfl) (fun K hK => ?_) ?_
        · go_simp
          obtain ⟨c4, hc4⟩ : ∃ c4, c4 = c3.alloc (.cells #[.int .i64 0, .int .i64 0, .int .i64 0, .int .i64 0, .int .i64 1, .int .i64 2] 3) := ⟨_, rfl⟩
          rw [← hc4]
          have hg4 : c3.grownBy c4 (some w.heap.size) := by rw [hc4]; exact gb_below (below_box _ _)
          have G4 := Lib.hid (gb_trans G3.out hg4)
          have D4 := Lib.hid (show Rd c4 w.heap.size _ by rw [hc4]; exact D3.out.alloc _)
          have Z4 := Lib.hid (Z3.out.kept hg4 rl)
          have n7 : c3.heap.size ≠ w.heap.size := by have := D3.out.lt; omega
          have S4 := Lib.hid (show Blk c4 c3.heap.size 6 (fun P => 0 ≤ P ∧ P < 3) by rw [hc4]; exact Blk.new6 c3)
          clear hc4
          refine hK.out _ _ ?_ (fun hHeld2 => ?_)
          · (try dsimp only)
            (all_goals trivial)
          clear hK K hHeld
          have hHeld := hHeld2
          clear hHeld2
          (try simp only [Act.put, List.setIfInBounds_toArray, List.set_cons_zero, List.set_cons_succ])
          refine wpAnyH_take (i := 10) (v := ?_) (toArr_get _ 10 _ rfl) (by kernel_rfl) (by kernel_rfl) (by kernel_rfl) (fun _ _ _ h => h) (Or.inl ⟨by rfl, ?_⟩) (by assumption) ?_
          rotate_left
          · (intro w hSw; (try dsimp only at hSw); go_simp; (try with_reducible rfl))
          (try simp only [Act.put, List.setIfInBounds_toArray, List.set_cons_zero, List.set_cons_succ])
          refine wpAnyH_ready (rs := [6, 11]) (by kernel_rfl) (by simp) ?_
          refine AllReadyH.cons (toArr_get _ 6 _ rfl) (fun K hK => ?_) ?_
          · go_simp
            obtain ⟨c5, hc5⟩ : ∃ c5, c5 = c4.alloc (.cells #[.int .i64 x, .int .i64 (-1), .int .i64 121] 3) := ⟨_, rfl⟩
            rw [← hc5]
            have hg5 : c4.grownBy c5 (some w.heap.size) := by rw [hc5]; exact gb_below (below_box _ _)
            have G5 := Lib.hid (gb_trans G4.out hg5)
            have D5 := Lib.hid (show Rd c5 w.heap.size _ by rw [hc5]; exact D4.out.alloc _)
            have Z5 := Lib.hid (Z4.out.kept hg5 rl)
            have S5 := Lib.hid (S4.out.kept hg5 n7)
            have n6 : c4.heap.size ≠ w.heap.size := by have := D4.out.lt; omega
            have X5 := Lib.hid (show Blk c5 c4.heap.size 3 (fun _ => True) by rw [hc5]; exact Blk.new3 c4 x)
            clear hc5
            refine hK.out _ _ ?_ (fun hHeld2 => ?_)
            · (try dsimp only)
              (all_goals trivial)
            clear hK K hHeld
            have hHeld := hHeld2
            clear hHeld2
            (try simp only [Act.put, List.setIfInBounds_toArray, List.set_cons_zero, List.set_cons_succ])
            refine wpAnyH_ready (rs := [11]) (by kernel_rfl) (by simp) ?_
            refine AllReadyH.cons (toArr_get _ 11 _ rfl) (fun K hK => ?_) ?_
            · obtain ⟨P, ⟨hP0, hP3⟩, hPc⟩ := S5.out.2 y.toNat (by omega)
              go_simp
              clear hPc
              refine hK.out _ _ ?_ (fun hHeld2 => ?_)
              · (try dsimp only)
                (all_goals trivial)
              clear hK K hHeld
              have hHeld := hHeld2
              clear hHeld2
              (try simp only [Act.put, List.setIfInBounds_toArray, List.set_cons_zero, List.set_cons_succ])
              refine wpAnyH_take (i := 12) (v := ?_) (toArr_get _ 12 _ rfl) (by kernel_rfl) (by kernel_rfl) (by kernel_rfl) (fun _ _ _ h => h) (Or.inl ⟨by rfl, ?_⟩) (by assumption) ?_
              rotate_left
              · (intro w hSw; (try dsimp only at hSw); go_simp; (try with_reducible rfl))
              (try simp only [Act.put, List.setIfInBounds_toArray, List.set_cons_zero, List.set_cons_succ])
              refine wpAnyH_ready (rs := [13]) (by kernel_rfl) (by simp) ?_
              refine AllReadyH.cons (toArr_get _ 13 _ rfl) (fun K hK => ?_) ?_
              · obtain ⟨T, -, hTc⟩ := X5.out.2 P.toNat (by omega)
                go_simp
                clear hTc
                refine hK.out _ _ ?_ (fun hHeld2 => ?_)
                · (try dsimp only)
                  (all_goals trivial)
                clear hK K hHeld
                have hHeld := hHeld2
                clear hHeld2
                (try simp only [Act.put, List.setIfInBounds_toArray, List.set_cons_zero, List.set_cons_succ])
                refine wpAnyH_take (i := 16) (v := ?_) (toArr_get _ 16 _ rfl) (by kernel_rfl) (by kernel_rfl) (by kernel_rfl) (fun _ _ _ h => h) (Or.inl ⟨by rfl, ?_⟩) (by assumption) ?_
                rotate_left
                · (intro w hSw; (try dsimp only at hSw); go_simp; (try with_reducible rfl))
                (try simp only [Act.put, List.setIfInBounds_toArray, List.set_cons_zero, List.set_cons_succ])
                refine wpAnyH_done (by kernel_rfl) ?_ _
                go_wp2
                go_ret3
                exact ⟨g, cap2, sg, scap, T, ts, o, rfl, hlen, hlc, hcm, ho, HO.out, row_grown HW.out G5.out hgne, Z5.out.mono hs2, B2.trans (gb_to_below G5.out (Nat.le_refl _) hs2)⟩
              exact AllReadyH.nil
            exact AllReadyH.nil
          refine AllReadyH.cons (toArr_get _ 11 _ rfl) (fun K hK => ?_) ?_
          · obtain ⟨P, ⟨hP0, hP3⟩, hPc⟩ := S4.out.2 y.toNat (by omega)
            go_simp
            clear hPc
            refine hK.out _ _ ?_ (fun hHeld2 => ?_)
            · (try dsimp only)
              (all_goals trivial)
            clear hK K hHeld
            have hHeld := hHeld2
            clear hHeld2
            (try simp only [Act.put, List.setIfInBounds_toArray, List.set_cons_zero, List.set_cons_succ])
            refine wpAnyH_ready (rs := [6]) (by kernel_rfl) (by simp) ?_
            refine AllReadyH.cons (toArr_get _ 6 _ rfl) (fun K hK => ?_) ?_
            · go_simp
              obtain ⟨c5, hc5⟩ : ∃ c5, c5 = c4.alloc (.cells #[.int .i64 x, .int .i64 (-1), .int .i64 121] 3) := ⟨_, rfl⟩
              rw [← hc5]
              have hg5 : c4.grownBy c5 (some w.heap.size) := by rw [hc5]; exact gb_below (below_box _ _)
              have G5 := Lib.hid (gb_trans G4.out hg5)
              have D5 := Lib.hid (show Rd c5 w.heap.size _ by rw [hc5]; exact D4.out.alloc _)
              have Z5 := Lib.hid (Z4.out.kept hg5 rl)
              have S5 := Lib.hid (S4.out.kept hg5 n7)
              have n6 : c4.heap.size ≠ w.heap.size := by have := D4.out.lt; omega
              have X5 := Lib.hid (show Blk c5 c4.heap.size 3 (fun _ => True) by rw [hc5]; exact Blk.new3 c4 x)
              clear hc5
              refine hK.out _ _ ?_ (fun hHeld2 => ?_)
              · (try dsimp only)
                (all_goals trivial)
              clear hK K hHeld
              have hHeld := hHeld2
              clear hHeld2
              (try simp only [Act.put, List.setIfInBounds_toArray, List.set_cons_zero, List.set_cons_succ])
              refine wpAnyH_take (i := 12) (v := ?_) (toArr_get _ 12 _ rfl) (by kernel_rfl) (by kernel_rfl) (by kernel_rfl) (fun _ _ _ h => h) (Or.inl ⟨by rfl, ?_⟩) (by assumption) ?_
              rotate_left
              · (intro w hSw; (try dsimp only at hSw); go_simp; (try with_reducible rfl))
              (try simp only [Act.put, List.setIfInBounds_toArray, List.set_cons_zero, List.set_cons_succ])
              refine wpAnyH_ready (rs := [13]) (by kernel_rfl) (by simp) ?_
              refine AllReadyH.cons (toArr_get _ 13 _ rfl) (fun K hK => ?_) ?_
              · obtain ⟨T, -, hTc⟩ := X5.out.2 P.toNat (by omega)
                go_simp
                clear hTc
                refine hK.out _ _ ?_ (fun hHeld2 => ?_)
                · (try dsimp only)
                  (all_goals trivial)
                clear hK K hHeld
                have hHeld := hHeld2
                clear hHeld2
                (try simp only [Act.put, List.setIfInBounds_toArray, List.set_cons_zero, List.set_cons_succ])
                refine wpAnyH_take (i := 16) (v := ?_) (toArr_get _ 16 _ rfl) (by kernel_rfl) (by kernel_rfl) (by kernel_rfl) (fun _ _ _ h => h) (Or.inl ⟨by rfl, ?_⟩) (by assumption) ?_
                rotate_left
                · (intro w hSw; (try dsimp only at hSw); go_simp; (try with_reducible rfl))
                (try simp only [Act.put, List.setIfInBounds_toArray, List.set_cons_zero, List.set_cons_succ])
                refine wpAnyH_done (by kernel_rfl) ?_ _
                go_wp2
                go_ret3
                exact ⟨g, cap2, sg, scap, T, ts, o, rfl, hlen, hlc, hcm, ho, HO.out, row_grown HW.out G5.out hgne, Z5.out.mono hs2, B2.trans (gb_to_below G5.out (Nat.le_refl _) hs2)⟩
              exact AllReadyH.nil
            exact AllReadyH.nil
          exact AllReadyH.nil
        exact AllReadyH.nil
      exact AllReadyH.nil
    refine AllReadyH.cons (toArr_get _ 7 _ rfl) (fun K hK => ?_) ?_
    · go_simp
      obtain ⟨c2, hc2⟩ : ∃ c2, c2 = c1.alloc (.cells #[.int .i64 0, .int .i64 0, .int .i64 0, .int .i64 0, .int .i64 1, .int .i64 2] 3) := ⟨_, rfl⟩
      rw [← hc2]
      have hg2 : c1.grownBy c2 (some w.heap.size) := by rw [hc2]; exact gb_below (below_box _ _)
      have G2 := Lib.hid (gb_trans G1.out hg2)
      have D2 := Lib.hid (show Rd c2 w.heap.size _ by rw [hc2]; exact D1.out.alloc _)
      have Z2 := Lib.hid (Z1.out.kept hg2 rl)
      have n7 : c1.heap.size ≠ w.heap.size := by have := D1.out.lt; omega
      have S2 := Lib.hid (show Blk c2 c1.heap.size 6 (fun P => 0 ≤ P ∧ P < 3) by rw [hc2]; exact Blk.new6 c1)
      clear hc2
      refine hK.out _ _ ?_ (fun hHeld2 => ?_)
      · (try dsimp only)
        (all_goals trivial)
      clear hK K hHeld
      have hHeld := hHeld2
      clear hHeld2
      (try simp only [Act.put, List.setIfInBounds_toArray, List.set_cons_zero, List.set_cons_succ])
      refine wpAnyH_ready (rs := [5]) (by kernel_rfl) (by simp) ?_
      refine AllReadyH.cons (toArr_get _ 5 _ rfl) (fun K hK => ?_) ?_
      · go_simp
        refine (pick_any w.heap.size (260) 14 _ D2.out (by omega)).mono ?_
        rintro e c3 ⟨x, rfl, x0, x1, -, hg3, hr3⟩
        have x2 := x1 (by omega)
        have G3 := Lib.hid (gb_trans G2.out hg3)
        have D3 := Lib.hid hr3
        have Z3 := Lib.hid (Z2.out.kept hg3 rl)
        have S3 := Lib.hid (S2.out.kept hg3 n7)
        clear hr3 x1
        go_wp2_with fail
        refine hK.out _ _ ?_ (fun hHeld2 => ?_)
        · (try dsimp only)
          (all_goals trivial)
        clear hK K hHeld
        have hHeld := hHeld2
        clear hHeld2
        (try simp only [Act.put, List.setIfInBounds_toArray, List.set_cons_zero, List.set_cons_succ])
        refine wpAnyH_ready (rs := [6, 9]) (by kernel_rfl) (by simp) ?_
        refine AllReadyH.cons (toArr_get _ 6 _ rfl) (fun K hK => ?_) ?_
        · go_simp
          obtain ⟨c4, hc4⟩ : ∃ c4, c4 = c3.alloc (.cells #[.int .i64 x, .int .i64 (-1), .int .i64 121] 3) := ⟨_, rfl⟩
          rw [← hc4]
          have hg4 : c3.grownBy c4 (some w.heap.size) := by rw [hc4]; exact gb_below (below_box _ _)
          have G4 := Lib.hid (gb_trans G3.out hg4)
          have D4 := Lib.hid (show Rd c4 w.heap.size _ by rw [hc4]; exact D3.out.alloc _)
          have Z4 := Lib.hid (Z3.out.kept hg4 rl)
          have S4 := Lib.hid (S3.out.kept hg4 n7)
          have n6 : c3.heap.size ≠ w.heap.size := by have := D3.out.lt; omega
          have X4 := Lib.hid (show Blk c4 c3.heap.size 3 (fun _ => True) by rw [hc4]; exact Blk.new3 c3 x)
          clear hc4
          refine hK.out _ _ ?_ (fun hHeld2 => ?_)
          · (try dsimp only)
            (all_goals trivial)
          clear hK K hHeld
          have hHeld := hHeld2
          clear hHeld2
          (try simp only [Act.put, List.setIfInBounds_toArray, List.set_cons_zero, List.set_cons_succ])
          refine wpAnyH_ready (rs := [9]) (by kernel_rfl) (by simp) ?_
          refine AllReadyH.cons (toArr_get _ 9 _ rfl) (fun K hK => ?_) ?_
          · go_simp
            refine (pick_any w.heap.size (261) 6 _ D4.out (by omega)).mono ?_
            rintro e c5 ⟨y, rfl, y0, y1, -, hg5, hr5⟩
            have y2 := y1 (by omega)
            have G5 := Lib.hid (gb_trans G4.out hg5)
            have D5 := Lib.hid hr5
            have Z5 := Lib.hid (Z4.out.kept hg5 rl)
            have S5 := Lib.hid (S4.out.kept hg5 n7)
            have X5 := Lib.hid (X4.out.kept hg5 n6)
            clear hr5 y1
            go_wp2_with fail
            refine hK.out _ _ ?_ (fun hHeld2 => ?_)
            · (try dsimp only)
              (all_goals trivial)
            clear hK K hHeld
            have hHeld := hHeld2
            clear hHeld2
            (try simp only [Act.put, List.setIfInBounds_toArray, List.set_cons_zero, List.set_cons_succ])
            refine wpAnyH_take (i := 10) (v := ?_) (toArr_get _ 10 _ rfl) (by kernel_rfl) (by kernel_rfl) (by kernel_rfl) (fun _ _ _ h => h) (Or.inl ⟨by rfl, ?_⟩) (by assumption) ?_
            rotate_left
            · (intro w hSw; (try dsimp only at hSw); go_simp; (try with_reducible rfl))
            (try simp only [Act.put, List.setIfInBounds_toArray, List.set_cons_zero, List.set_cons_succ])
            refine wpAnyH_take (i := 14) (v := ?_) (toArr_get _ 14 _ rfl) (by kernel_rfl) (by kernel_rfl) (by kernel_rfl) (fun _ _ _ h => h) (Or.inl ⟨by rfl, ?_⟩) (by assumption) ?_
            rotate_left
            · (intro w hSw; (try dsimp only at hSw); go_simp; (try with_reducible rfl))
            (try simp only [Act.put, List.setIfInBounds_toArray, List.set_cons_zero, List.set_cons_succ])
            refine wpAnyH_take (i := 15) (v := ?_) (toArr_get _ 15 _ rfl) (by kernel_rfl) (by kernel_rfl) (by kernel_rfl) (fun _ _ _ h => h) (Or.inl ⟨by rfl, ?_⟩) (by assumption) ?_
            rotate_left
            · (intro w hSw; (try dsimp only at hSw); go_simp; (try with_reducible rfl))
            (try simp only [Act.put, List.setIfInBounds_toArray, List.set_cons_zero, List.set_cons_succ])
            refine wpAnyH_ready (rs := [11]) (by kernel_rfl) (by simp) ?_
            refine AllReadyH.cons (toArr_get _ 11 _ rfl) (fun K hK => ?_) ?_
            · obtain ⟨P, ⟨hP0, hP3⟩, hPc⟩ := S5.out.2 y.toNat (by omega)
              go_simp
              clear hPc
              refine hK.out _ _ ?_ (fun hHeld2 => ?_)
              · (try dsimp only)
                (all_goals trivial)
              clear hK K hHeld
              have hHeld := hHeld2
              clear hHeld2
              (try simp only [Act.put, List.setIfInBounds_toArray, List.set_cons_zero, List.set_cons_succ])
              refine wpAnyH_take (i := 12) (v := ?_) (toArr_get _ 12 _ rfl) (by kernel_rfl) (by kernel_rfl) (by kernel_rfl) (fun _ _ _ h => h) (Or.inl ⟨by rfl, ?_⟩) (by assumption) ?_
              rotate_left
              · (intro w hSw; (try dsimp only at hSw); go_simp; (try with_reducible rfl))
              (try simp only [Act.put, List.setIfInBounds_toArray, List.set_cons_zero, List.set_cons_succ])
              refine wpAnyH_ready (rs := [13]) (by kernel_rfl) (by simp) ?_
              refine AllReadyH.cons (toArr_get _ 13 _ rfl) (fun K hK => ?_) ?_
              · obtain ⟨T, -, hTc⟩ := X5.out.2 P.toNat (by omega)
                go_simp
                clear hTc
                refine hK.out _ _ ?_ (fun hHeld2 => ?_)
                · (try dsimp only)
                  (all_goals trivial)
                clear hK K hHeld
                have hHeld := hHeld2
                clear hHeld2
                (try simp only [Act.put, List.setIfInBounds_toArray, List.set_cons_zero, List.set_cons_succ])
                refine wpAnyH_take (i := 16) (v := ?_) (toArr_get _ 16 _ rfl) (by kernel_rfl) (by kernel_rfl) (by kernel_rfl) (fun _ _ _ h => h) (Or.inl ⟨by rfl, ?_⟩) (by assumption) ?_
                rotate_left
                · (intro w hSw; (try dsimp only at hSw); go_simp; (try with_reducible rfl))
                (try simp only [Act.put, List.setIfInBounds_toArray, List.set_cons_zero, List.set_cons_succ])
                refine wpAnyH_done (by kernel_rfl) ?_ _
                go_wp2
                go_ret3
                exact ⟨g, cap2, sg, scap, T, ts, o, rfl, hlen, hlc, hcm, ho, HO.out, row_grown HW.out G5.out hgne, Z5.out.mono hs2, B2.trans (gb_to_below G5.out (Nat.le_refl _) hs2)⟩
              exact AllReadyH.nil
            exact AllReadyH.nil
          exact AllReadyH.nil
        refine AllReadyH.cons (toArr_get _ 9 _ rfl) (fun K hK => ?_) ?_
        · go_simp
          refine (pick_any w.heap.size (261) 6 _ D3.out (by omega)).mono ?_
          rintro e c4 ⟨y, rfl, y0, y1, -, hg4, hr4⟩
          have y2 := y1 (by omega)
          have G4 := Lib.hid (gb_trans G3.out hg4)
          have D4 := Lib.hid hr4
          have Z4 := Lib.hid (Z3.out.kept hg4 rl)
          have S4 := Lib.hid (S3.out.kept hg4 n7)
          clear hr4 y1
          go_wp2_with fail
          refine hK.out _ _ ?_ (fun hHeld2 => ?_)
          · (try dsimp only)
            (all_goals trivial)
          clear hK K hHeld
          have hHeld := hHeld2
          clear hHeld2
          (try simp only [Act.put, List.setIfInBounds_toArray, List.set_cons_zero, List.set_cons_succ])
          refine wpAnyH_take (i := 10) (v := ?_) (toArr_get _ 10 _ rfl) (by kernel_rfl) (by kernel_rfl) (by kernel_rfl) (fun _ _ _ h => h) (Or.inl ⟨by rfl, ?_⟩) (by assumption) ?_
          rotate_left
          · (intro w hSw; (try dsimp only at hSw); go_simp; (try with_reducible rfl))
          (try simp only [Act.put, List.setIfInBounds_toArray, List.set_cons_zero, List.set_cons_succ])
          refine wpAnyH_take (i := 14) (v := ?_) (toArr_get _ 14 _ rfl) (by kernel_rfl) (by kernel_rfl) (by kernel_rfl) (fun _ _ _ h => h) (Or.inl ⟨by rfl, ?_⟩) (by assumption) ?_
          rotate_left
          · (intro w hSw; (try dsimp only at hSw); go_simp; (try with_reducible rfl))
          (try simp only [Act.put, List.setIfInBounds_toArray, List.set_cons_zero, List.set_cons_succ])
          refine wpAnyH_take (i := 15) (v := ?_) (toArr_get _ 15 _ rfl) (by kernel_rfl) (by kernel_rfl) (by kernel_rfl) (fun _ _ _ h => h) (Or.inl ⟨by rfl, ?_⟩) (by assumption) ?_
          rotate_left
          · (intro w hSw; (try dsimp only at hSw); go_simp; (try with_reducible rfl))
          (try simp only [Act.put, List.setIfInBounds_toArray, List.set_cons_zero, List.set_cons_succ])
          refine wpAnyH_ready (rs := [6, 11]) (by kernel_rfl) (by simp) ?_
          refine AllReadyH.cons (toArr_get _ 6 _ rfl) (fun K hK => ?_) ?_
          · go_simp
            obtain ⟨c5, hc5⟩ : ∃ c5, c5 = c4.alloc (.cells #[.int .i64 x, .int .i64 (-1), .int .i64 121] 3) := ⟨_, rfl⟩
            rw [← hc5]
            have hg5 : c4.grownBy c5 (some w.heap.size) := by rw [hc5]; exact gb_below (below_box _ _)
            have G5 := Lib.hid (gb_trans G4.out hg5)
            have D5 := Lib.hid (show Rd c5 w.heap.size _ by rw [hc5]; exact D4.out.alloc _)
            have Z5 := Lib.hid (Z4.out.kept hg5 rl)
            have S5 := Lib.hid (S4.out.kept hg5 n7)
            have n6 : c4.heap.size ≠ w.heap.size := by have := D4.out.lt; omega
            have X5 := Lib.hid (show Blk c5 c4.heap.size 3 (fun _ => True) by rw [hc5]; exact Blk.new3 c4 x)
            clear hc5
            refine hK.out _ _ ?_ (fun hHeld2 => ?_)
            · (try dsimp only)
              (all_goals trivial)
            clear hK K hHeld
            have hHeld := hHeld2
            clear hHeld2
            (try simp only [Act.put, List.setIfInBounds_toArray, List.set_cons_zero, List.set_cons_succ])
            refine wpAnyH_ready (rs := [11]) (by kernel_rfl) (by simp) ?_
            refine AllReadyH.cons (toArr_get _ 11 _ rfl) (fun K hK => ?_) ?_
            · obtain ⟨P, ⟨hP0, hP3⟩, hPc⟩ := S5.out.2 y.toNat (by omega)
              go_simp
              clear hPc
              refine hK.out _ _ ?_ (fun hHeld2 => ?_)
              · (try dsimp only)
                (all_goals trivial)
              clear hK K hHeld
              have hHeld := hHeld2
              clear hHeld2
              (try simp only [Act.put, List.setIfInBounds_toArray, List.set_cons_zero, List.set_cons_succ])
              refine wpAnyH_take (i := 12) (v := ?_) (toArr_get _ 12 _ rfl) (by kernel_rfl) (by kernel_rfl) (by kernel_rfl) (fun _ _ _ h => h) (Or.inl ⟨by rfl, ?_⟩) (by assumption) ?_
              rotate_left
              · (intro w hSw; (try dsimp only at hSw); go_simp; (try with_reducible rfl))
              (try simp only [Act.put, List.setIfInBounds_toArray, List.set_cons_zero, List.set_cons_succ])
              refine wpAnyH_ready (rs := [13]) (by kernel_rfl) (by simp) ?_
              refine AllReadyH.cons (toArr_get _ 13 _ rfl) (fun K hK => ?_) ?_
              · obtain ⟨T, -, hTc⟩ := X5.out.2 P.toNat (by omega)
                go_simp
                clear hTc
                refine hK.out _ _ ?_ (fun hHeld2 => ?_)
                · (try dsimp only)
                  (all_goals trivial)
                clear hK K hHeld
                have hHeld := hHeld2
                clear hHeld2
                (try simp only [Act.put, List.setIfInBounds_toArray, List.set_cons_zero, List.set_cons_succ])
                refine wpAnyH_take (i := 16) (v := ?_) (toArr_get _ 16 _ rfl) (by kernel_rfl) (by kernel_rfl) (by kernel_rfl) (fun _ _ _ h => h) (Or.inl ⟨by rfl, ?_⟩) (by assumption) ?_
                rotate_left
                · (intro w hSw; (try dsimp only at hSw); go_simp; (try with_reducible rfl))
                (try simp only [Act.put, List.setIfInBounds_toArray, List.set_cons_zero, List.set_cons_succ])
                refine wpAnyH_done (by kernel_rfl) ?_ _
                go_wp2
                go_ret3
                exact ⟨g, cap2, sg, scap, T, ts, o, rfl, hlen, hlc, hcm, ho, HO.out, row_grown HW.out G5.out hgne, Z5.out.mono hs2, B2.trans (gb_to_below G5.out (Nat.le_refl _) hs2)⟩
              exact AllReadyH.nil
            exact AllReadyH.nil
          refine AllReadyH.cons (toArr_get _ 11 _ rfl) (fun K hK => ?_) ?_
          · obtain ⟨P, ⟨hP0, hP3⟩, hPc⟩ := S4.out.2 y.toNat (by omega)
            go_simp
            clear hPc
            refine hK.out _ _ ?_ (fun hHeld2 => ?_)
            · (try dsimp only)
              (all_goals trivial)
            clear hK K hHeld
            have hHeld := hHeld2
            clear hHeld2
            (try simp only [Act.put, List.setIfInBounds_toArray, List.set_cons_zero, List.set_cons_succ])
            refine wpAnyH_ready (rs := [6]) (by kernel_rfl) (by simp) ?_
            refine AllReadyH.cons (toArr_get _ 6 _ rfl) (fun K hK => ?_) ?_
            · go_simp
              obtain ⟨c5, hc5⟩ : ∃ c5, c5 = c4.alloc (.cells #[.int .i64 x, .int .i64 (-1), .int .i64 121] 3) := ⟨_, rfl⟩
              rw [← hc5]
              have hg5 : c4.grownBy c5 (some w.heap.size) := by rw [hc5]; exact gb_below (below_box _ _)
              have G5 := Lib.hid (gb_trans G4.out hg5)
              have D5 := Lib.hid (show Rd c5 w.heap.size _ by rw [hc5]; exact D4.out.alloc _)
              have Z5 := Lib.hid (Z4.out.kept hg5 rl)
              have S5 := Lib.hid (S4.out.kept hg5 n7)
              have n6 : c4.heap.size ≠ w.heap.size := by have := D4.out.lt; omega
              have X5 := Lib.hid (show Blk c5 c4.heap.size 3 (fun _ => True) by rw [hc5]; exact Blk.new3 c4 x)
              clear hc5
              refine hK.out _ _ ?_ (fun hHeld2 => ?_)
              · (try dsimp only)
                (all_goals trivial)
              clear hK K hHeld
              have hHeld := hHeld2
              clear hHeld2
              (try simp only [Act.put, List.setIfInBounds_toArray, List.set_cons_zero, List.set_cons_succ])
              refine wpAnyH_take (i := 12) (v := ?_) (toArr_get _ 12 _ rfl) (by kernel_rfl) (by kernel_rfl) (by kernel_rfl) (fun _ _ _ h => h) (Or.inl ⟨by rfl, ?_⟩) (by assumption) ?_
              rotate_left
              · (intro w hSw; (try dsimp only at hSw); go_simp; (try with_reducible rfl))
              (try simp only [Act.put, List.setIfInBounds_toArray, List.set_cons_zero, List.set_cons_succ])
              refine wpAnyH_ready (rs := [13]) (by kernel_rfl) (by simp) ?_
              refine AllReadyH.cons (toArr_get _ 13 _ rfl) (fun K hK => ?_) ?_
              · obtain ⟨T, -, hTc⟩ := X5.out.2 P.toNat (by omega)
                go_simp
                clear hTc
                refine hK.out _ _ ?_ (fun hHeld2 => ?_)
                · (try dsimp only)
                  (all_goals trivial)
                clear hK K hHeld
                have hHeld := hHeld2
                clear hHeld2
                (try simp only [Act.put, List.setIfInBounds_toArray, List.set_cons_zero, List.set_cons_succ])
                refine wpAnyH_take (i := 16) (v := ?_) (toArr_get _ 16 _ rfl) (by kernel_rfl) (by kernel_rfl) (by kernel_rfl) (fun _ _ _ h => h) (Or.inl ⟨by rfl, ?_⟩) (by assumption) ?_
                rotate_left
                · (intro w hSw; (try dsimp only at hSw); go_simp; (try with_reducible rfl))
                (try simp only [Act.put, List.setIfInBounds_toArray, List.set_cons_zero, List.set_cons_succ])
                refine wpAnyH_done (by kernel_rfl) ?_ _
                go_wp2
                go_ret3
                exact ⟨g, cap2, sg, scap, T, ts, o, rfl, hlen, hlc, hcm, ho, HO.out, row_grown HW.out G5.out hgne, Z5.out.mono hs2, B2.trans (gb_to_below G5.out (Nat.le_refl _) hs2)⟩
              exact AllReadyH.nil
            exact AllReadyH.nil
          exact AllReadyH.nil
        exact AllReadyH.nil
      exact AllReadyH.nil
    exact AllReadyH.nil
  refine AllReadyH.cons (toArr_get _ 7 _ rfl) (fun K hK => ?_) ?_
  · go_simp
    obtain ⟨c1, hc1⟩ : ∃ c1, c1 = c0.alloc (.cells #[.int .i64 0, .int .i64 0, .int .i64 0, .int .i64 0, .int .i64 1, .int .i64 2] 3) := ⟨_, rfl⟩
    rw [← hc1]
    have hg1 : c0.grownBy c1 (some w.heap.size) := by rw [hc1]; exact gb_below (below_box _ _)
    have G1 := Lib.hid (gb_trans G0.out hg1)
    have D1 := Lib.hid (show Rd c1 w.heap.size _ by rw [hc1]; exact D0.out.alloc _)
    have n7 : c0.heap.size ≠ w.heap.size := by have := D0.out.lt; omega
    have S1 := Lib.hid (show Blk c1 c0.heap.size 6 (fun P => 0 ≤ P ∧ P < 3) by rw [hc1]; exact Blk.new6 c0)
    clear hc1
    refine hK.out _ _ ?_ (fun hHeld2 => ?_)
    · (try dsimp only)
      (all_goals trivial)
    clear hK K hHeld
    have hHeld := hHeld2
    clear hHeld2
    (try simp only [Act.put, List.setIfInBounds_toArray, List.set_cons_zero, List.set_cons_succ])
    refine wpAnyH_ready (rs := [3]) (by kernel_rfl) (by simp) ?_
    refine AllReadyH.cons (toArr_get _ 3 _ rfl) (fun K hK => ?_) ?_
    · go_simp
      refine (l20Sections_any w.heap.size 200 g 0 cap2 12 ts _ D1.out (by omega) (row_grown HW.out G1.out hgne) hgne hlen).mono ?_
      rintro e c2 ⟨sg, scap, o, rfl, hT, ho, hst⟩
      have HO := Lib.hid hst
      have hg2 := hT.gb
      have G2 := Lib.hid (gb_trans G1.out hg2)
      have D2 := Lib.hid hT.rd
      have S2 := Lib.hid (S1.out.kept hg2 n7)
      have Z2 := Lib.hid (hT.ow.mono G1.out.size)
      clear hT hst
      go_wp2_with fail
      refine hK.out _ _ ?_ (fun hHeld2 => ?_)
      · (try dsimp only)
        (all_goals trivial)
      clear hK K hHeld
      have hHeld := hHeld2
      clear hHeld2
      (try simp only [Act.put, List.setIfInBounds_toArray, List.set_cons_zero, List.set_cons_succ])
      refine wpAnyH_ready (rs := [5]) (by kernel_rfl) (by simp) ?_
      refine AllReadyH.cons (toArr_get _ 5 _ rfl) (fun K hK => ?_) ?_
      · go_simp
        refine (pick_any w.heap.size (260) 14 _ D2.out (by omega)).mono ?_
        rintro e c3 ⟨x, rfl, x0, x1, -, hg3, hr3⟩
        have x2 := x1 (by omega)
        have G3 := Lib.hid (gb_trans G2.out hg3)
        have D3 := Lib.hid hr3
        have Z3 := Lib.hid (Z2.out.kept hg3 rl)
        have S3 := Lib.hid (S2.out.kept hg3 n7)
        clear hr3 x1
        go_wp2_with fail
        refine hK.out _ _ ?_ (fun hHeld2 => ?_)
        · (try dsimp only)
          (all_goals trivial)
        clear hK K hHeld
        have hHeld := hHeld2
        clear hHeld2
        (try simp only [Act.put, List.setIfInBounds_toArray, List.set_cons_zero, List.set_cons_succ])
        refine wpAnyH_ready (rs := [6, 9]) (by kernel_rfl) (by simp) ?_
        refine AllReadyH.cons (toArr_get _ 6 _ rfl) (fun K hK => ?_) ?_
        · go_simp
          obtain ⟨c4, hc4⟩ : ∃ c4, c4 = c3.alloc (.cells #[.int .i64 x, .int .i64 (-1), .int .i64 121] 3) := ⟨_, rfl⟩
          rw [← hc4]
          have hg4 : c3.grownBy c4 (some w.heap.size) := by rw [hc4]; exact gb_below (below_box _ _)
          have G4 := Lib.hid (gb_trans G3.out hg4)
          have D4 := Lib.hid (show Rd c4 w.heap.size _ by rw [hc4]; exact D3.out.alloc _)
          have Z4 := Lib.hid (Z3.out.kept hg4 rl)
          have S4 := Lib.hid (S3.out.kept hg4 n7)
          have n6 : c3.heap.size ≠ w.heap.size := by have := D3.out.lt; omega
          have X4 := Lib.hid (show Blk c4 c3.heap.size 3 (fun _ => True) by rw [hc4]; exact Blk.new3 c3 x)
          clear hc4
          refine hK.out _ _ ?_ (fun hHeld2 => ?_)
          · (try dsimp only)
            (all_goals trivial)
          clear hK K hHeld
          have hHeld := hHeld2
          clear hHeld2
          (try simp only [Act.put, List.setIfInBounds_toArray, List.set_cons_zero, List.set_cons_succ])
          refine wpAnyH_ready (rs := [9]) (by kernel_rfl) (by simp) ?_
          refine AllReadyH.cons (toArr_get _ 9 _ rfl) (fun K hK => ?_) ?_
          · go_simp
            refine (pick_any w.heap.size (261) 6 _ D4.out (by omega)).mono ?_
            rintro e c5 ⟨y, rfl, y0, y1, -, hg5, hr5⟩
            have y2 := y1 (by omega)
            have G5 := Lib.hid (gb_trans G4.out hg5)
            have D5 := Lib.hid hr5
            have Z5 := Lib.hid (Z4.out.kept hg5 rl)
            have S5 := Lib.hid (S4.out.kept hg5 n7)
            have X5 := Lib.hid (X4.out.kept hg5 n6)
            clear hr5 y1
            go_wp2_with fail
            refine hK.out _ _ ?_ (fun hHeld2 => ?_)
            · (try dsimp only)
              (all_goals trivial)
            clear hK K hHeld
            have hHeld := hHeld2
            clear hHeld2
            (try simp only [Act.put, List.setIfInBounds_toArray, List.set_cons_zero, List.set_cons_succ])
            refine wpAnyH_take (i := 10) (v := ?_) (toArr_get _ 10 _ rfl) (by kernel_rfl) (by kernel_rfl) (by kernel_rfl) (fun _ _ _ h => h) (Or.inl ⟨by rfl, ?_⟩) (by assumption) ?_
            rotate_left
            · (intro w hSw; (try dsimp only at hSw); go_simp; (try with_reducible rfl))
            (try simp only [Act.put, List.setIfInBounds_toArray, List.set_cons_zero, List.set_cons_succ])
            refine wpAnyH_take (i := 14) (v := ?_) (toArr_get _ 14 _ rfl) (by kernel_rfl) (by kernel_rfl) (by kernel_rfl) (fun _ _ _ h => h) (Or.inl ⟨by rfl, ?_⟩) (by assumption) ?_
            rotate_left
            · (intro w hSw; (try dsimp only at hSw); go_simp; (try with_reducible rfl))
            (try simp only [Act.put, List.setIfInBounds_toArray, List.set_cons_zero, List.set_cons_succ])
            refine wpAnyH_take (i := 15) (v := ?_) (toArr_get _ 15 _ rfl) (by kernel_rfl) (by kernel_rfl) (by kernel_rfl) (fun _ _ _ h => h) (Or.inl ⟨by rfl, ?_⟩) (by assumption) ?_
            rotate_left
            · (intro w hSw; (try dsimp only at hSw); go_simp; (try with_reducible rfl))
            (try simp only [Act.put, List.setIfInBounds_toArray, List.set_cons_zero, List.set_cons_succ])
            refine wpAnyH_ready (rs := [11]) (by kernel_rfl) (by simp) ?_
            refine AllReadyH.cons (toArr_get _ 11 _ rfl) (fun K hK => ?_) ?_
            · obtain ⟨P, ⟨hP0, hP3⟩, hPc⟩ := S5.out.2 y.toNat (by omega)
              go_simp
              clear hPc
              refine hK.out _ _ ?_ (fun hHeld2 => ?_)
              · (try dsimp only)
                (all_goals trivial)
              clear hK K hHeld
              have hHeld := hHeld2
              clear hHeld2
              (try simp only [Act.put, List.setIfInBounds_toArray, List.set_cons_zero, List.set_cons_succ])
              refine wpAnyH_take (i := 12) (v := ?_) (toArr_get _ 12 _ rfl) (by kernel_rfl) (by kernel_rfl) (by kernel_rfl) (fun _ _ _ h => h) (Or.inl ⟨by rfl, ?_⟩) (by assumption) ?_
              rotate_left
              · (intro w hSw; (try dsimp only at hSw); go_simp; (try with_reducible rfl))
              (try simp only [Act.put, List.setIfInBounds_toArray, List.set_cons_zero, List.set_cons_succ])
              refine wpAnyH_ready (rs := [13]) (by kernel_rfl) (by simp) ?_
              refine AllReadyH.cons (toArr_get _ 13 _ rfl) (fun K hK => ?_) ?_
              · obtain ⟨T, -, hTc⟩ := X5.out.2 P.toNat (by omega)
                go_simp
                clear hTc
                refine hK.out _ _ ?_ (fun hHeld2 => ?_)
                · (try dsimp only)
                  (all_goals trivial)
                clear hK K hHeld
                have hHeld := hHeld2
                clear hHeld2
                (try simp only [Act.put, List.setIfInBounds_toArray, List.set_cons_zero, List.set_cons_succ])
                refine wpAnyH_take (i := 16) (v := ?_) (toArr_get _ 16 _ rfl) (by kernel_rfl) (by kernel_rfl) (by kernel_rfl) (fun _ _ _ h => h) (Or.inl ⟨by rfl, ?_⟩) (by assumption) ?_
                rotate_left
                · (intro w hSw; (try dsimp only at hSw); go_simp; (try with_reducible rfl))
                (try simp only [Act.put, List.setIfInBounds_toArray, List.set_cons_zero, List.set_cons_succ])
                refine wpAnyH_done (by kernel_rfl) ?_ _
                go_wp2
                go_ret3
                exact ⟨g, cap2, sg, scap, T, ts, o, rfl, hlen, hlc, hcm, ho, HO.out, row_grown HW.out G5.out hgne, Z5.out.mono hs2, B2.trans (gb_to_below G5.out (Nat.le_refl _) hs2)⟩
              exact AllReadyH.nil
            exact AllReadyH.nil
          exact AllReadyH.nil
        refine AllReadyH.cons (toArr_get _ 9 _ rfl) (fun K hK => ?_) ?_
        · go_simp
          refine (pick_any w.heap.size (261) 6 _ D3.out (by omega)).mono ?_
          rintro e c4 ⟨y, rfl, y0, y1, -, hg4, hr4⟩
          have y2 := y1 (by omega)
          have G4 := Lib.hid (gb_trans G3.out hg4)
          have D4 := Lib.hid hr4
          have Z4 := Lib.hid (Z3.out.kept hg4 rl)
          have S4 := Lib.hid (S3.out.kept hg4 n7)
          clear hr4 y1
          go_wp2_with fail
          refine hK.out _ _ ?_ (fun hHeld2 => ?_)
          · (try dsimp only)
            (all_goals trivial)
          clear hK K hHeld
          have hHeld := hHeld2
          clear hHeld2
          (try simp only [Act.put, List.setIfInBounds_toArray, List.set_cons_zero, List.set_cons_succ])
          refine wpAnyH_take (i := 10) (v := ?_) (toArr_get _ 10 _ rfl) (by kernel_rfl) (by kernel_rfl) (by kernel_rfl) (fun _ _ _ h => h) (Or.inl ⟨by rfl, ?_⟩) (by assumption) ?_
          rotate_left
          · (intro w hSw; (try dsimp only at hSw); go_simp; (try with_reducible rfl))
          (try simp only [Act.put, List.setIfInBounds_toArray, List.set_cons_zero, List.set_cons_succ])
          refine wpAnyH_take (i := 14) (v := ?_) (toArr_get _ 14 _ rfl) (by kernel_rfl) (by kernel_rfl) (by kernel_rfl) (fun _ _ _ h => h) (Or.inl ⟨by rfl, ?_⟩) (by assumption) ?_
          rotate_left
          · (intro w hSw; (try dsimp only at hSw); go_simp; (try with_reducible rfl))
          (try simp only [Act.put, List.setIfInBounds_toArray, List.set_cons_zero, List.set_cons_succ])
          refine wpAnyH_take (i := 15) (v := ?_) (toArr_get _ 15 _ rfl) (by kernel_rfl) (by kernel_rfl) (by kernel_rfl) (fun _ _ _ h => h) (Or.inl ⟨by rfl, ?_⟩) (by assumption) ?_
          rotate_left
          · (intro w hSw; (try dsimp only at hSw); go_simp; (try with_reducible rfl))
          (try simp only [Act.put, List.setIfInBounds_toArray, List.set_cons_zero, List.set_cons_succ])
          refine wpAnyH_ready (rs := [6, 11]) (by kernel_rfl) (by simp) ?_
          refine AllReadyH.cons (toArr_get _ 6 _ rfl) (fun K hK => ?_) ?_
          · go_simp
            obtain ⟨c5, hc5⟩ : ∃ c5, c5 = c4.alloc (.cells #[.int .i64 x, .int .i64 (-1), .int .i64 121] 3) := ⟨_, rfl⟩
            rw [← hc5]
            have hg5 : c4.grownBy c5 (some w.heap.size) := by rw [hc5]; exact gb_below (below_box _ _)
            have G5 := Lib.hid (gb_trans G4.out hg5)
            have D5 := Lib.hid (show Rd c5 w.heap.size _ by rw [hc5]; exact D4.out.alloc _)
            have Z5 := Lib.hid (Z4.out.kept hg5 rl)
            have S5 := Lib.hid (S4.out.kept hg5 n7)
            have n6 : c4.heap.size ≠ w.heap.size := by have := D4.out.lt; omega
            have X5 := Lib.hid (show Blk c5 c4.heap.size 3 (fun _ => True) by rw [hc5]; exact Blk.new3 c4 x)
            clear hc5
            refine hK.out _ _ ?_ (fun hHeld2 => ?_)
            · (try dsimp only)
              (all_goals trivial)
            clear hK K hHeld
            have hHeld := hHeld2
            clear hHeld2
            (try simp only [Act.put, List.setIfInBounds_toArray, List.set_cons_zero, List.set_cons_succ])
            refine wpAnyH_ready (rs := [11]) (by kernel_rfl) (by simp) ?_
            refine AllReadyH.cons (toArr_get _ 11 _ rfl) (fun K hK => ?_) ?_
            · obtain ⟨P, ⟨hP0, hP3⟩, hPc⟩ := S5.out.2 y.toNat (by omega)
              go_simp
              clear hPc
              refine hK.out _ _ ?_ (fun hHeld2 => ?_)
              · (try dsimp only)
                (all_goals trivial)
              clear hK K hHeld
              have hHeld := hHeld2
              clear hHeld2
              (try simp only [Act.put, List.setIfInBounds_toArray, List.set_cons_zero, List.set_cons_succ])
              refine wpAnyH_take (i := 12) (v := ?_) (toArr_get _ 12 _ rfl) (by kernel_rfl) (by kernel_rfl) (by kernel_rfl) (fun _ _ _ h => h) (Or.inl ⟨by rfl, ?_⟩) (by assumption) ?_
              rotate_left
              · (intro w hSw; (try dsimp only at hSw); go_simp; (try with_reducible rfl))
              (try simp only [Act.put, List.setIfInBounds_toArray, List.set_cons_zero, List.set_cons_succ])
              refine wpAnyH_ready (rs := [13]) (by kernel_rfl) (by simp) ?_
              refine AllReadyH.cons (toArr_get _ 13 _ rfl) (fun K hK => ?_) ?_
              · obtain ⟨T, -, hTc⟩ := X5.out.2 P.toNat (by omega)
                go_simp
                clear hTc
                refine hK.out _ _ ?_ (fun hHeld2 => ?_)
                · (try dsimp only)
                  (all_goals trivial)
                clear hK K hHeld
                have hHeld := hHeld2
                clear hHeld2
                (try simp only [Act.put, List.setIfInBounds_toArray, List.set_cons_zero, List.set_cons_succ])
                refine wpAnyH_take (i := 16) (v := ?_) (toArr_get _ 16 _ rfl) (by kernel_rfl) (by kernel_rfl) (by kernel_rfl) (fun _ _ _ h => h) (Or.inl ⟨by rfl, ?_⟩) (by assumption) ?_
                rotate_left
                · (intro w hSw; (try dsimp only at hSw); go_simp; (try with_reducible rfl))
                (try simp only [Act.put, List.setIfInBounds_toArray, List.set_cons_zero, List.set_cons_succ])
                refine wpAnyH_done (by kernel_rfl) ?_ _
                go_wp2
                go_ret3
                exact ⟨g, cap2, sg, scap, T, ts, o, rfl, hlen, hlc, hcm, ho, HO.out, row_grown HW.out G5.out hgne, Z5.out.mono hs2, B2.trans (gb_to_below G5.out (Nat.le_refl _) hs2)⟩
              exact AllReadyH.nil
            exact AllReadyH.nil
          refine AllReadyH.cons (toArr_get _ 11 _ rfl) (fun K hK => ?_) ?_
          · obtain ⟨P, ⟨hP0, hP3⟩, hPc⟩ := S4.out.2 y.toNat (by omega)
            go_simp
            clear hPc
            refine hK.out _ _ ?_ (fun hHeld2 => ?_)
            · (try dsimp only)
              (all_goals trivial)
            clear hK K hHeld
            have hHeld := hHeld2
            clear hHeld2
            (try simp only [Act.put, List.setIfInBounds_toArray, List.set_cons_zero, List.set_cons_succ])
            refine wpAnyH_ready (rs := [6]) (by kernel_rfl) (by simp) ?_
            refine AllReadyH.cons (toArr_get _ 6 _ rfl) (fun K hK => ?_) ?_
            · go_simp
              obtain ⟨c5, hc5⟩ : ∃ c5, c5 = c4.alloc (.cells #[.int .i64 x, .int .i64 (-1), .int .i64 121] 3) := ⟨_, rfl⟩
              rw [← hc5]
              have hg5 : c4.grownBy c5 (some w.heap.size) := by rw [hc5]; exact gb_below (below_box _ _)
              have G5 := Lib.hid (gb_trans G4.out hg5)
              have D5 := Lib.hid (show Rd c5 w.heap.size _ by rw [hc5]; exact D4.out.alloc _)
              have Z5 := Lib.hid (Z4.out.kept hg5 rl)
              have S5 := Lib.hid (S4.out.kept hg5 n7)
              have n6 : c4.heap.size ≠ w.heap.size := by have := D4.out.lt; omega
              have X5 := Lib.hid (show Blk c5 c4.heap.size 3 (fun _ => True) by rw [hc5]; exact Blk.new3 c4 x)
              clear hc5
              refine hK.out _ _ ?_ (fun hHeld2 => ?_)
              · (try dsimp only)
                (all_goals trivial)
              clear hK K hHeld
              have hHeld := hHeld2
              clear hHeld2
              (try simp only [Act.put, List.setIfInBounds_toArray, List.set_cons_zero, List.set_cons_succ])
              refine wpAnyH_take (i := 12) (v := ?_) (toArr_get _ 12 _ rfl) (by kernel_rfl) (by kernel_rfl) (by kernel_rfl) (fun _ _ _ h => h) (Or.inl ⟨by rfl, ?_⟩) (by assumption) ?_
              rotate_left
              · (intro w hSw; (try dsimp only at hSw); go_simp; (try with_reducible rfl))
              (try simp only [Act.put, List.setIfInBounds_toArray, List.set_cons_zero, List.set_cons_succ])
              refine wpAnyH_ready (rs := [13]) (by kernel_rfl) (by simp) ?_
              refine AllReadyH.cons (toArr_get _ 13 _ rfl) (fun K hK => ?_) ?_
              · obtain ⟨T, -, hTc⟩ := X5.out.2 P.toNat (by omega)
                go_simp
                clear hTc
                refine hK.out _ _ ?_ (fun hHeld2 => ?_)
                · (try dsimp only)
                  (all_goals trivial)
                clear hK K hHeld
                have hHeld := hHeld2
                clear hHeld2
                (try simp only [Act.put, List.setIfInBounds_toArray, List.set_cons_zero, List.set_cons_succ])
                refine wpAnyH_take (i := 16) (v := ?_) (toArr_get _ 16 _ rfl) (by kernel_rfl) (by kernel_rfl) (by kernel_rfl) (fun _ _ _ h => h) (Or.inl ⟨by rfl, ?_⟩) (by assumption) ?_
                rotate_left
                · (intro w hSw; (try dsimp only at hSw); go_simp; (try with_reducible rfl))
                (try simp only [Act.put, List.setIfInBounds_toArray, List.set_cons_zero, List.set_cons_succ])
                refine wpAnyH_done (by kernel_rfl) ?_ _
                go_wp2
                go_ret3
                exact ⟨g, cap2, sg, scap, T, ts, o, rfl, hlen, hlc, hcm, ho, HO.out, row_grown HW.out G5.out hgne, Z5.out.mono hs2, B2.trans (gb_to_below G5.out (Nat.le_refl _) hs2)⟩
              exact AllReadyH.nil
            exact AllReadyH.nil
          exact AllReadyH.nil
        exact AllReadyH.nil
      exact AllReadyH.nil
    exact AllReadyH.nil
  exact AllReadyH.nil

end Go.Proofs.Ytfacohicfcdamaa
