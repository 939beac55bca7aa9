/- Contract of spec.DrawSynchronous: a task set and a limit are drawn. What is drawn is not told, only its bounds. Condition: the argument is a slice of bytes. -/
import Derived.Test.YtpnfbgbbmpacfaaDrawDem
import Derived.Test.YtpnfbgbbmpacfaaJobsDraw
namespace Go.Proofs.Ytpnfbgbbmpacfaa
open Go.RowKit

/-- A task set was drawn, not nil, and a limit. -/
def GotLim (w : World) (e : Ending) (w' : World) : Prop :=
  ∃ (g cap : Nat) (ts : List T3) (x : Int), e = .returned (.tuple #[.slice (some ⟨g, 0, none⟩) ts.length cap, .int .i64 x]) ∧ -1 ≤ x ∧ x ≤ 121 ∧ ts.length ≤ 12 ∧ ts.length ≤ cap ∧ cap ≤ maxLen ∧ Row w' (some ⟨g, 0, none⟩) ts ∧ Below w.heap.size w w'

set_option maxHeartbeats 4000000 in
/-- spec.DrawSynchronous. -/
theorem drawSynchronous_any (a : Option Addr) (len cap : Nat) (w : World) (hb : Byts w a len cap) :
    Calls Try.prog 18 #[.slice a len cap] w (GotLim w) := by
  obtain ⟨hb, hc, hm⟩ := hb
  have HB := Lib.hid hb
  clear hb
  go_enter Try.func18, Try.ntmps18
  go_wp2_with fail
  refine (l20Open_any _ _ _ _ HB.out hc hm).mono ?_
  rintro e w1 ⟨rfl, hr, hb1, hs1⟩
  have HB1 := Lib.hid hb1
  clear hs1 hb1
  have HR := Lib.hid hr
  clear hr
  go_wp2_with fail
  refine wp_region_noPanic ?_
  refine wp_region_held_drew (S := fun _ => True) (by kernel_rfl) ?_ (fun hHeld => ?_)
  · (try dsimp only)
    all_goals exact True.intro
  generalize hW0 : World.drew _ = w0
  have R := Lib.hid (HR.out.drew' hW0)
  have G := Lib.hid (gb_drew' (rb := w.heap.size) hW0)
  clear hW0
  refine wpAnyH_take (i := 0) (v := ?_) (toArr_get _ 0 _ rfl) (by kernel_rfl) (by kernel_rfl) (by kernel_rfl) (fun _ _ _ h => h) (Or.inl ⟨by rfl, ?_⟩) (by assumption) ?_
  rotate_left
  · (intro w hSw; (try dsimp only at hSw); go_simp; (try with_reducible rfl))
  (try simp only [Act.put, List.setIfInBounds_toArray, List.set_cons_zero, List.set_cons_succ])
  refine wpAnyH_take (i := 2) (v := ?_) (toArr_get _ 2 _ rfl) (by kernel_rfl) (by kernel_rfl) (by kernel_rfl) (fun _ _ _ h => h) (Or.inl ⟨by rfl, ?_⟩) (by assumption) ?_
  rotate_left
  · (intro w hSw; (try dsimp only at hSw); go_simp; (try with_reducible rfl))
  (try simp only [Act.put, List.setIfInBounds_toArray, List.set_cons_zero, List.set_cons_succ])
  refine wpAnyH_take (i := 6) (v := ?_) (toArr_get _ 6 _ rfl) (by kernel_rfl) (by kernel_rfl) (by kernel_rfl) (fun _ _ _ h => h) (Or.inl ⟨by rfl, ?_⟩) (by assumption) ?_
  rotate_left
  · (intro w hSw; (try dsimp only at hSw); go_simp; (try with_reducible rfl))
  (try simp only [Act.put, List.setIfInBounds_toArray, List.set_cons_zero, List.set_cons_succ])
  refine wpAnyH_ready (rs := [1, 5]) (by kernel_rfl) (by simp) ?_
  refine AllReadyH.cons (toArr_get _ 1 _ rfl) (fun K hK => ?_) ?_
  · go_simp
    go_at_call 54
    refine (l20Set_full w.heap.size 0 12 _ R.out (by omega)).mono ?_
    rintro e w2 ⟨a2, cap2, ts, rfl, hlen, hlc, hcm, hrow, hg2, hr2, ⟨g, rfl, hgg⟩, _⟩
    have hgne : g ≠ w.heap.size := by have := R.out.lt; omega
    have HW := Lib.hid hrow
    have G := Lib.hid (gb_trans G.out hg2)
    have R := Lib.hid hr2
    (try have B7 := Lib.hid (B7.out.grow hg2))
    clear hg2 hr2 hrow
    go_wp2_with fail
    refine hK.out _ _ ?_ (fun hHeld2 => ?_)
    · (try dsimp only)
      all_goals exact True.intro
    clear hK K hHeld
    have hHeld := hHeld2
    clear hHeld2
    (try simp only [Act.put, List.setIfInBounds_toArray, List.set_cons_zero, List.set_cons_succ])
    refine wpAnyH_ready (rs := [3, 5]) (by kernel_rfl) (by simp) ?_
    refine AllReadyH.cons (toArr_get _ 3 _ rfl) (fun K hK => ?_) ?_
    · go_simp
      go_at_call 61
      refine (pick_any w.heap.size 200 121 _ R.out (by omega)).mono ?_
      rintro e wx ⟨x, rfl, x0, x1, _, hgx, hrx⟩
      have xp := x1 (by decide)
      have G := Lib.hid (gb_trans G.out hgx)
      have R := Lib.hid hrx
      (try have B7 := Lib.hid (B7.out.grow hgx))
      (try have B6 := Lib.hid (B6.out.grow hgx))
      (try have HW := Lib.hid (HW.out.grown hgx hgne))
      clear hgx hrx x1
      go_wp2_with fail
      refine hK.out _ _ ?_ (fun hHeld2 => ?_)
      · (try dsimp only)
        all_goals exact True.intro
      clear hK K hHeld
      have hHeld := hHeld2
      clear hHeld2
      (try simp only [Act.put, List.setIfInBounds_toArray, List.set_cons_zero, List.set_cons_succ])
      refine wpAnyH_ready (rs := [4, 5, 7]) (by kernel_rfl) (by simp) ?_
      refine AllReadyH.cons (toArr_get _ 4 _ rfl) (fun K hK => ?_) ?_
      · go_simp
        generalize hWB6 : World.alloc _ _ = wB6
        have B6 := Lib.hid (Blk.new3 hWB6 R.out.lt)
        (try have B7 := Lib.hid (B7.out.grow (gb_alloc' (gb_refl _ _) hWB6)))
        (try have HW := Lib.hid (HW.out.grown (gb_alloc' (gb_refl _ _) hWB6) hgne))
        have G := Lib.hid (gb_alloc' G.out hWB6)
        have R := Lib.hid (R.out.alloc' hWB6)
        clear hWB6
        refine hK.out _ _ ?_ (fun hHeld2 => ?_)
        · (try dsimp only)
          all_goals exact True.intro
        clear hK K hHeld
        have hHeld := hHeld2
        clear hHeld2
        (try simp only [Act.put, List.setIfInBounds_toArray, List.set_cons_zero, List.set_cons_succ])
        refine wpAnyH_ready (rs := [5, 7]) (by kernel_rfl) (by simp) ?_
        refine AllReadyH.cons (toArr_get _ 5 _ rfl) (fun K hK => ?_) ?_
        · go_simp
          generalize hWB7 : World.alloc _ _ = wB7
          have B7 := Lib.hid (Blk.new6 hWB7 R.out.lt)
          (try have B6 := Lib.hid (B6.out.grow (gb_alloc' (gb_refl _ _) hWB7)))
          (try have HW := Lib.hid (HW.out.grown (gb_alloc' (gb_refl _ _) hWB7) hgne))
          have G := Lib.hid (gb_alloc' G.out hWB7)
          have R := Lib.hid (R.out.alloc' hWB7)
          clear hWB7
          refine hK.out _ _ ?_ (fun hHeld2 => ?_)
          · (try dsimp only)
            all_goals exact True.intro
          clear hK K hHeld
          have hHeld := hHeld2
          clear hHeld2
          (try simp only [Act.put, List.setIfInBounds_toArray, List.set_cons_zero, List.set_cons_succ])
          refine wpAnyH_ready (rs := [7]) (by kernel_rfl) (by simp) ?_
          refine AllReadyH.cons (toArr_get _ 7 _ rfl) (fun K hK => ?_) ?_
          · go_simp
            go_at_call 61
            refine (pick_any w.heap.size 201 6 _ R.out (by omega)).mono ?_
            rintro e wu ⟨u, rfl, u0, u1, _, hgu, hru⟩
            have up := u1 (by decide)
            have G := Lib.hid (gb_trans G.out hgu)
            have R := Lib.hid hru
            (try have B7 := Lib.hid (B7.out.grow hgu))
            (try have B6 := Lib.hid (B6.out.grow hgu))
            (try have HW := Lib.hid (HW.out.grown hgu hgne))
            clear hgu hru u1
            have s0 := sel6_lo u
            have s1 := sel6_hi u
            go_wp2_with fail
            refine hK.out _ _ ?_ (fun hHeld2 => ?_)
            · (try dsimp only)
              all_goals exact True.intro
            clear hK K hHeld
            have hHeld := hHeld2
            clear hHeld2
            (try simp only [Act.put, List.setIfInBounds_toArray, List.set_cons_zero, List.set_cons_succ])
            refine wpAnyH_take (i := 8) (v := ?_) (toArr_get _ 8 _ rfl) (by kernel_rfl) (by kernel_rfl) (by kernel_rfl) (fun _ _ _ h => h) (Or.inl ⟨by rfl, ?_⟩) (by assumption) ?_
            rotate_left
            · (intro w hSw; (try dsimp only at hSw); go_simp; (try with_reducible rfl))
            (try simp only [Act.put, List.setIfInBounds_toArray, List.set_cons_zero, List.set_cons_succ])
            refine wpAnyH_take (i := 12) (v := ?_) (toArr_get _ 12 _ rfl) (by kernel_rfl) (by kernel_rfl) (by kernel_rfl) (fun _ _ _ h => h) (Or.inl ⟨by rfl, ?_⟩) (by assumption) ?_
            rotate_left
            · (intro w hSw; (try dsimp only at hSw); go_simp; (try with_reducible rfl))
            (try simp only [Act.put, List.setIfInBounds_toArray, List.set_cons_zero, List.set_cons_succ])
            refine wpAnyH_ready (rs := [9]) (by kernel_rfl) (by simp) ?_
            refine AllReadyH.cons (toArr_get _ 9 _ rfl) (fun K hK => ?_) ?_
            · have l11 := B7.out.at6 u u0 up
              go_simp
              clear l11
              refine hK.out _ _ ?_ (fun hHeld2 => ?_)
              · (try dsimp only)
                all_goals exact True.intro
              clear hK K hHeld
              have hHeld := hHeld2
              clear hHeld2
              (try simp only [Act.put, List.setIfInBounds_toArray, List.set_cons_zero, List.set_cons_succ])
              refine wpAnyH_take (i := 10) (v := ?_) (toArr_get _ 10 _ rfl) (by kernel_rfl) (by kernel_rfl) (by kernel_rfl) (fun _ _ _ h => h) (Or.inl ⟨by rfl, ?_⟩) (by assumption) ?_
              rotate_left
              · (intro w hSw; (try dsimp only at hSw); go_simp; (try with_reducible rfl))
              (try simp only [Act.put, List.setIfInBounds_toArray, List.set_cons_zero, List.set_cons_succ])
              refine wpAnyH_ready (rs := [11]) (by kernel_rfl) (by simp) ?_
              refine AllReadyH.cons (toArr_get _ 11 _ rfl) (fun K hK => ?_) ?_
              · have l13 := B6.out.at3 (sel6 u) s0 s1
                go_simp
                clear l13
                refine hK.out _ _ ?_ (fun hHeld2 => ?_)
                · (try dsimp only)
                  all_goals exact True.intro
                clear hK K hHeld
                have hHeld := hHeld2
                clear hHeld2
                (try simp only [Act.put, List.setIfInBounds_toArray, List.set_cons_zero, List.set_cons_succ])
                refine wpAnyH_take (i := 13) (v := ?_) (toArr_get _ 13 _ rfl) (by kernel_rfl) (by kernel_rfl) (by kernel_rfl) (fun _ _ _ h => h) (Or.inl ⟨by rfl, ?_⟩) (by assumption) ?_
                rotate_left
                · (intro w hSw; (try dsimp only at hSw); go_simp; (try with_reducible rfl))
                (try simp only [Act.put, List.setIfInBounds_toArray, List.set_cons_zero, List.set_cons_succ])
                refine wpAnyH_done (by kernel_rfl) ?_ _
                refine NoPanic.normal ?_
                go_wp2_with fail
                go_ret2
                have bd := sel3_in (u := sel6 u) (x := x) (y := -1) (z := 121) (lo := -1) (hi := 121) (by omega) (by omega) (by omega) (by omega) (by omega) (by omega)
                exact ⟨g, cap2, ts, _, rfl, bd.1, bd.2, hlen, hlc, hcm, HW.out, HB1.out.trans (gb_to_below G.out (Nat.le_refl _) HB1.out.size)⟩
              exact AllReadyH.nil
            exact AllReadyH.nil
          exact AllReadyH.nil
        refine AllReadyH.cons (toArr_get _ 7 _ rfl) (fun K hK => ?_) ?_
        · go_simp
          go_at_call 61
          refine (pick_any w.heap.size 201 6 _ R.out (by omega)).mono ?_
          rintro e wu ⟨u, rfl, u0, u1, _, hgu, hru⟩
          have up := u1 (by decide)
          have G := Lib.hid (gb_trans G.out hgu)
          have R := Lib.hid hru
          (try have B7 := Lib.hid (B7.out.grow hgu))
          (try have B6 := Lib.hid (B6.out.grow hgu))
          (try have HW := Lib.hid (HW.out.grown hgu hgne))
          clear hgu hru u1
          have s0 := sel6_lo u
          have s1 := sel6_hi u
          go_wp2_with fail
          refine hK.out _ _ ?_ (fun hHeld2 => ?_)
          · (try dsimp only)
            all_goals exact True.intro
          clear hK K hHeld
          have hHeld := hHeld2
          clear hHeld2
          (try simp only [Act.put, List.setIfInBounds_toArray, List.set_cons_zero, List.set_cons_succ])
          refine wpAnyH_take (i := 12) (v := ?_) (toArr_get _ 12 _ rfl) (by kernel_rfl) (by kernel_rfl) (by kernel_rfl) (fun _ _ _ h => h) (Or.inl ⟨by rfl, ?_⟩) (by assumption) ?_
          rotate_left
          · (intro w hSw; (try dsimp only at hSw); go_simp; (try with_reducible rfl))
          (try simp only [Act.put, List.setIfInBounds_toArray, List.set_cons_zero, List.set_cons_succ])
          refine wpAnyH_ready (rs := [5]) (by kernel_rfl) (by simp) ?_
          refine AllReadyH.cons (toArr_get _ 5 _ rfl) (fun K hK => ?_) ?_
          · go_simp
            generalize hWB7 : World.alloc _ _ = wB7
            have B7 := Lib.hid (Blk.new6 hWB7 R.out.lt)
            (try have B6 := Lib.hid (B6.out.grow (gb_alloc' (gb_refl _ _) hWB7)))
            (try have HW := Lib.hid (HW.out.grown (gb_alloc' (gb_refl _ _) hWB7) hgne))
            have G := Lib.hid (gb_alloc' G.out hWB7)
            have R := Lib.hid (R.out.alloc' hWB7)
            clear hWB7
            refine hK.out _ _ ?_ (fun hHeld2 => ?_)
            · (try dsimp only)
              all_goals exact True.intro
            clear hK K hHeld
            have hHeld := hHeld2
            clear hHeld2
            (try simp only [Act.put, List.setIfInBounds_toArray, List.set_cons_zero, List.set_cons_succ])
            refine wpAnyH_take (i := 8) (v := ?_) (toArr_get _ 8 _ rfl) (by kernel_rfl) (by kernel_rfl) (by kernel_rfl) (fun _ _ _ h => h) (Or.inl ⟨by rfl, ?_⟩) (by assumption) ?_
            rotate_left
            · (intro w hSw; (try dsimp only at hSw); go_simp; (try with_reducible rfl))
            (try simp only [Act.put, List.setIfInBounds_toArray, List.set_cons_zero, List.set_cons_succ])
            refine wpAnyH_ready (rs := [9]) (by kernel_rfl) (by simp) ?_
            refine AllReadyH.cons (toArr_get _ 9 _ rfl) (fun K hK => ?_) ?_
            · have l11 := B7.out.at6 u u0 up
              go_simp
              clear l11
              refine hK.out _ _ ?_ (fun hHeld2 => ?_)
              · (try dsimp only)
                all_goals exact True.intro
              clear hK K hHeld
              have hHeld := hHeld2
              clear hHeld2
              (try simp only [Act.put, List.setIfInBounds_toArray, List.set_cons_zero, List.set_cons_succ])
              refine wpAnyH_take (i := 10) (v := ?_) (toArr_get _ 10 _ rfl) (by kernel_rfl) (by kernel_rfl) (by kernel_rfl) (fun _ _ _ h => h) (Or.inl ⟨by rfl, ?_⟩) (by assumption) ?_
              rotate_left
              · (intro w hSw; (try dsimp only at hSw); go_simp; (try with_reducible rfl))
              (try simp only [Act.put, List.setIfInBounds_toArray, List.set_cons_zero, List.set_cons_succ])
              refine wpAnyH_ready (rs := [11]) (by kernel_rfl) (by simp) ?_
              refine AllReadyH.cons (toArr_get _ 11 _ rfl) (fun K hK => ?_) ?_
              · have l13 := B6.out.at3 (sel6 u) s0 s1
                go_simp
                clear l13
                refine hK.out _ _ ?_ (fun hHeld2 => ?_)
                · (try dsimp only)
                  all_goals exact True.intro
                clear hK K hHeld
                have hHeld := hHeld2
                clear hHeld2
                (try simp only [Act.put, List.setIfInBounds_toArray, List.set_cons_zero, List.set_cons_succ])
                refine wpAnyH_take (i := 13) (v := ?_) (toArr_get _ 13 _ rfl) (by kernel_rfl) (by kernel_rfl) (by kernel_rfl) (fun _ _ _ h => h) (Or.inl ⟨by rfl, ?_⟩) (by assumption) ?_
                rotate_left
                · (intro w hSw; (try dsimp only at hSw); go_simp; (try with_reducible rfl))
                (try simp only [Act.put, List.setIfInBounds_toArray, List.set_cons_zero, List.set_cons_succ])
                refine wpAnyH_done (by kernel_rfl) ?_ _
                refine NoPanic.normal ?_
                go_wp2_with fail
                go_ret2
                have bd := sel3_in (u := sel6 u) (x := x) (y := -1) (z := 121) (lo := -1) (hi := 121) (by omega) (by omega) (by omega) (by omega) (by omega) (by omega)
                exact ⟨g, cap2, ts, _, rfl, bd.1, bd.2, hlen, hlc, hcm, HW.out, HB1.out.trans (gb_to_below G.out (Nat.le_refl _) HB1.out.size)⟩
              exact AllReadyH.nil
            exact AllReadyH.nil
          exact AllReadyH.nil
        exact AllReadyH.nil
      refine AllReadyH.cons (toArr_get _ 5 _ rfl) (fun K hK => ?_) ?_
      · go_simp
        generalize hWB7 : World.alloc _ _ = wB7
        have B7 := Lib.hid (Blk.new6 hWB7 R.out.lt)
        (try have B6 := Lib.hid (B6.out.grow (gb_alloc' (gb_refl _ _) hWB7)))
        (try have HW := Lib.hid (HW.out.grown (gb_alloc' (gb_refl _ _) hWB7) hgne))
        have G := Lib.hid (gb_alloc' G.out hWB7)
        have R := Lib.hid (R.out.alloc' hWB7)
        clear hWB7
        refine hK.out _ _ ?_ (fun hHeld2 => ?_)
        · (try dsimp only)
          all_goals exact True.intro
        clear hK K hHeld
        have hHeld := hHeld2
        clear hHeld2
        (try simp only [Act.put, List.setIfInBounds_toArray, List.set_cons_zero, List.set_cons_succ])
        refine wpAnyH_ready (rs := [4, 7]) (by kernel_rfl) (by simp) ?_
        refine AllReadyH.cons (toArr_get _ 4 _ rfl) (fun K hK => ?_) ?_
        · go_simp
          generalize hWB6 : World.alloc _ _ = wB6
          have B6 := Lib.hid (Blk.new3 hWB6 R.out.lt)
          (try have B7 := Lib.hid (B7.out.grow (gb_alloc' (gb_refl _ _) hWB6)))
          (try have HW := Lib.hid (HW.out.grown (gb_alloc' (gb_refl _ _) hWB6) hgne))
          have G := Lib.hid (gb_alloc' G.out hWB6)
          have R := Lib.hid (R.out.alloc' hWB6)
          clear hWB6
          refine hK.out _ _ ?_ (fun hHeld2 => ?_)
          · (try dsimp only)
            all_goals exact True.intro
          clear hK K hHeld
          have hHeld := hHeld2
          clear hHeld2
          (try simp only [Act.put, List.setIfInBounds_toArray, List.set_cons_zero, List.set_cons_succ])
          refine wpAnyH_ready (rs := [7]) (by kernel_rfl) (by simp) ?_
          refine AllReadyH.cons (toArr_get _ 7 _ rfl) (fun K hK => ?_) ?_
          · go_simp
            go_at_call 61
            refine (pick_any w.heap.size 201 6 _ R.out (by omega)).mono ?_
            rintro e wu ⟨u, rfl, u0, u1, _, hgu, hru⟩
            have up := u1 (by decide)
            have G := Lib.hid (gb_trans G.out hgu)
            have R := Lib.hid hru
            (try have B7 := Lib.hid (B7.out.grow hgu))
            (try have B6 := Lib.hid (B6.out.grow hgu))
            (try have HW := Lib.hid (HW.out.grown hgu hgne))
            clear hgu hru u1
            have s0 := sel6_lo u
            have s1 := sel6_hi u
            go_wp2_with fail
            refine hK.out _ _ ?_ (fun hHeld2 => ?_)
            · (try dsimp only)
              all_goals exact True.intro
            clear hK K hHeld
            have hHeld := hHeld2
            clear hHeld2
            (try simp only [Act.put, List.setIfInBounds_toArray, List.set_cons_zero, List.set_cons_succ])
            refine wpAnyH_take (i := 8) (v := ?_) (toArr_get _ 8 _ rfl) (by kernel_rfl) (by kernel_rfl) (by kernel_rfl) (fun _ _ _ h => h) (Or.inl ⟨by rfl, ?_⟩) (by assumption) ?_
            rotate_left
            · (intro w hSw; (try dsimp only at hSw); go_simp; (try with_reducible rfl))
            (try simp only [Act.put, List.setIfInBounds_toArray, List.set_cons_zero, List.set_cons_succ])
            refine wpAnyH_take (i := 12) (v := ?_) (toArr_get _ 12 _ rfl) (by kernel_rfl) (by kernel_rfl) (by kernel_rfl) (fun _ _ _ h => h) (Or.inl ⟨by rfl, ?_⟩) (by assumption) ?_
            rotate_left
            · (intro w hSw; (try dsimp only at hSw); go_simp; (try with_reducible rfl))
            (try simp only [Act.put, List.setIfInBounds_toArray, List.set_cons_zero, List.set_cons_succ])
            refine wpAnyH_ready (rs := [9]) (by kernel_rfl) (by simp) ?_
            refine AllReadyH.cons (toArr_get _ 9 _ rfl) (fun K hK => ?_) ?_
            · have l11 := B7.out.at6 u u0 up
              go_simp
              clear l11
              refine hK.out _ _ ?_ (fun hHeld2 => ?_)
              · (try dsimp only)
                all_goals exact True.intro
              clear hK K hHeld
              have hHeld := hHeld2
              clear hHeld2
              (try simp only [Act.put, List.setIfInBounds_toArray, List.set_cons_zero, List.set_cons_succ])
              refine wpAnyH_take (i := 10) (v := ?_) (toArr_get _ 10 _ rfl) (by kernel_rfl) (by kernel_rfl) (by kernel_rfl) (fun _ _ _ h => h) (Or.inl ⟨by rfl, ?_⟩) (by assumption) ?_
              rotate_left
              · (intro w hSw; (try dsimp only at hSw); go_simp; (try with_reducible rfl))
              (try simp only [Act.put, List.setIfInBounds_toArray, List.set_cons_zero, List.set_cons_succ])
              refine wpAnyH_ready (rs := [11]) (by kernel_rfl) (by simp) ?_
              refine AllReadyH.cons (toArr_get _ 11 _ rfl) (fun K hK => ?_) ?_
              · have l13 := B6.out.at3 (sel6 u) s0 s1
                go_simp
                clear l13
                refine hK.out _ _ ?_ (fun hHeld2 => ?_)
                · (try dsimp only)
                  all_goals exact True.intro
                clear hK K hHeld
                have hHeld := hHeld2
                clear hHeld2
                (try simp only [Act.put, List.setIfInBounds_toArray, List.set_cons_zero, List.set_cons_succ])
                refine wpAnyH_take (i := 13) (v := ?_) (toArr_get _ 13 _ rfl) (by kernel_rfl) (by kernel_rfl) (by kernel_rfl) (fun _ _ _ h => h) (Or.inl ⟨by rfl, ?_⟩) (by assumption) ?_
                rotate_left
                · (intro w hSw; (try dsimp only at hSw); go_simp; (try with_reducible rfl))
                (try simp only [Act.put, List.setIfInBounds_toArray, List.set_cons_zero, List.set_cons_succ])
                refine wpAnyH_done (by kernel_rfl) ?_ _
                refine NoPanic.normal ?_
                go_wp2_with fail
                go_ret2
                have bd := sel3_in (u := sel6 u) (x := x) (y := -1) (z := 121) (lo := -1) (hi := 121) (by omega) (by omega) (by omega) (by omega) (by omega) (by omega)
                exact ⟨g, cap2, ts, _, rfl, bd.1, bd.2, hlen, hlc, hcm, HW.out, HB1.out.trans (gb_to_below G.out (Nat.le_refl _) HB1.out.size)⟩
              exact AllReadyH.nil
            exact AllReadyH.nil
          exact AllReadyH.nil
        refine AllReadyH.cons (toArr_get _ 7 _ rfl) (fun K hK => ?_) ?_
        · go_simp
          go_at_call 61
          refine (pick_any w.heap.size 201 6 _ R.out (by omega)).mono ?_
          rintro e wu ⟨u, rfl, u0, u1, _, hgu, hru⟩
          have up := u1 (by decide)
          have G := Lib.hid (gb_trans G.out hgu)
          have R := Lib.hid hru
          (try have B7 := Lib.hid (B7.out.grow hgu))
          (try have B6 := Lib.hid (B6.out.grow hgu))
          (try have HW := Lib.hid (HW.out.grown hgu hgne))
          clear hgu hru u1
          have s0 := sel6_lo u
          have s1 := sel6_hi u
          go_wp2_with fail
          refine hK.out _ _ ?_ (fun hHeld2 => ?_)
          · (try dsimp only)
            all_goals exact True.intro
          clear hK K hHeld
          have hHeld := hHeld2
          clear hHeld2
          (try simp only [Act.put, List.setIfInBounds_toArray, List.set_cons_zero, List.set_cons_succ])
          refine wpAnyH_take (i := 8) (v := ?_) (toArr_get _ 8 _ rfl) (by kernel_rfl) (by kernel_rfl) (by kernel_rfl) (fun _ _ _ h => h) (Or.inl ⟨by rfl, ?_⟩) (by assumption) ?_
          rotate_left
          · (intro w hSw; (try dsimp only at hSw); go_simp; (try with_reducible rfl))
          (try simp only [Act.put, List.setIfInBounds_toArray, List.set_cons_zero, List.set_cons_succ])
          refine wpAnyH_take (i := 12) (v := ?_) (toArr_get _ 12 _ rfl) (by kernel_rfl) (by kernel_rfl) (by kernel_rfl) (fun _ _ _ h => h) (Or.inl ⟨by rfl, ?_⟩) (by assumption) ?_
          rotate_left
          · (intro w hSw; (try dsimp only at hSw); go_simp; (try with_reducible rfl))
          (try simp only [Act.put, List.setIfInBounds_toArray, List.set_cons_zero, List.set_cons_succ])
          refine wpAnyH_ready (rs := [4, 9]) (by kernel_rfl) (by simp) ?_
          refine AllReadyH.cons (toArr_get _ 4 _ rfl) (fun K hK => ?_) ?_
          · go_simp
            generalize hWB6 : World.alloc _ _ = wB6
            have B6 := Lib.hid (Blk.new3 hWB6 R.out.lt)
            (try have B7 := Lib.hid (B7.out.grow (gb_alloc' (gb_refl _ _) hWB6)))
            (try have HW := Lib.hid (HW.out.grown (gb_alloc' (gb_refl _ _) hWB6) hgne))
            have G := Lib.hid (gb_alloc' G.out hWB6)
            have R := Lib.hid (R.out.alloc' hWB6)
            clear hWB6
            refine hK.out _ _ ?_ (fun hHeld2 => ?_)
            · (try dsimp only)
              all_goals exact True.intro
            clear hK K hHeld
            have hHeld := hHeld2
            clear hHeld2
            (try simp only [Act.put, List.setIfInBounds_toArray, List.set_cons_zero, List.set_cons_succ])
            refine wpAnyH_ready (rs := [9]) (by kernel_rfl) (by simp) ?_
            refine AllReadyH.cons (toArr_get _ 9 _ rfl) (fun K hK => ?_) ?_
            · have l11 := B7.out.at6 u u0 up
              go_simp
              clear l11
              refine hK.out _ _ ?_ (fun hHeld2 => ?_)
              · (try dsimp only)
                all_goals exact True.intro
              clear hK K hHeld
              have hHeld := hHeld2
              clear hHeld2
              (try simp only [Act.put, List.setIfInBounds_toArray, List.set_cons_zero, List.set_cons_succ])
              refine wpAnyH_take (i := 10) (v := ?_) (toArr_get _ 10 _ rfl) (by kernel_rfl) (by kernel_rfl) (by kernel_rfl) (fun _ _ _ h => h) (Or.inl ⟨by rfl, ?_⟩) (by assumption) ?_
              rotate_left
              · (intro w hSw; (try dsimp only at hSw); go_simp; (try with_reducible rfl))
              (try simp only [Act.put, List.setIfInBounds_toArray, List.set_cons_zero, List.set_cons_succ])
              refine wpAnyH_ready (rs := [11]) (by kernel_rfl) (by simp) ?_
              refine AllReadyH.cons (toArr_get _ 11 _ rfl) (fun K hK => ?_) ?_
              · have l13 := B6.out.at3 (sel6 u) s0 s1
                go_simp
                clear l13
                refine hK.out _ _ ?_ (fun hHeld2 => ?_)
                · (try dsimp only)
                  all_goals exact True.intro
                clear hK K hHeld
                have hHeld := hHeld2
                clear hHeld2
                (try simp only [Act.put, List.setIfInBounds_toArray, List.set_cons_zero, List.set_cons_succ])
                refine wpAnyH_take (i := 13) (v := ?_) (toArr_get _ 13 _ rfl) (by kernel_rfl) (by kernel_rfl) (by kernel_rfl) (fun _ _ _ h => h) (Or.inl ⟨by rfl, ?_⟩) (by assumption) ?_
                rotate_left
                · (intro w hSw; (try dsimp only at hSw); go_simp; (try with_reducible rfl))
                (try simp only [Act.put, List.setIfInBounds_toArray, List.set_cons_zero, List.set_cons_succ])
                refine wpAnyH_done (by kernel_rfl) ?_ _
                refine NoPanic.normal ?_
                go_wp2_with fail
                go_ret2
                have bd := sel3_in (u := sel6 u) (x := x) (y := -1) (z := 121) (lo := -1) (hi := 121) (by omega) (by omega) (by omega) (by omega) (by omega) (by omega)
                exact ⟨g, cap2, ts, _, rfl, bd.1, bd.2, hlen, hlc, hcm, HW.out, HB1.out.trans (gb_to_below G.out (Nat.le_refl _) HB1.out.size)⟩
              exact AllReadyH.nil
            exact AllReadyH.nil
          refine AllReadyH.cons (toArr_get _ 9 _ rfl) (fun K hK => ?_) ?_
          · have l11 := B7.out.at6 u u0 up
            go_simp
            clear l11
            refine hK.out _ _ ?_ (fun hHeld2 => ?_)
            · (try dsimp only)
              all_goals exact True.intro
            clear hK K hHeld
            have hHeld := hHeld2
            clear hHeld2
            (try simp only [Act.put, List.setIfInBounds_toArray, List.set_cons_zero, List.set_cons_succ])
            refine wpAnyH_ready (rs := [4]) (by kernel_rfl) (by simp) ?_
            refine AllReadyH.cons (toArr_get _ 4 _ rfl) (fun K hK => ?_) ?_
            · go_simp
              generalize hWB6 : World.alloc _ _ = wB6
              have B6 := Lib.hid (Blk.new3 hWB6 R.out.lt)
              (try have B7 := Lib.hid (B7.out.grow (gb_alloc' (gb_refl _ _) hWB6)))
              (try have HW := Lib.hid (HW.out.grown (gb_alloc' (gb_refl _ _) hWB6) hgne))
              have G := Lib.hid (gb_alloc' G.out hWB6)
              have R := Lib.hid (R.out.alloc' hWB6)
              clear hWB6
              refine hK.out _ _ ?_ (fun hHeld2 => ?_)
              · (try dsimp only)
                all_goals exact True.intro
              clear hK K hHeld
              have hHeld := hHeld2
              clear hHeld2
              (try simp only [Act.put, List.setIfInBounds_toArray, List.set_cons_zero, List.set_cons_succ])
              refine wpAnyH_take (i := 10) (v := ?_) (toArr_get _ 10 _ rfl) (by kernel_rfl) (by kernel_rfl) (by kernel_rfl) (fun _ _ _ h => h) (Or.inl ⟨by rfl, ?_⟩) (by assumption) ?_
              rotate_left
              · (intro w hSw; (try dsimp only at hSw); go_simp; (try with_reducible rfl))
              (try simp only [Act.put, List.setIfInBounds_toArray, List.set_cons_zero, List.set_cons_succ])
              refine wpAnyH_ready (rs := [11]) (by kernel_rfl) (by simp) ?_
              refine AllReadyH.cons (toArr_get _ 11 _ rfl) (fun K hK => ?_) ?_
              · have l13 := B6.out.at3 (sel6 u) s0 s1
                go_simp
                clear l13
                refine hK.out _ _ ?_ (fun hHeld2 => ?_)
                · (try dsimp only)
                  all_goals exact True.intro
                clear hK K hHeld
                have hHeld := hHeld2
                clear hHeld2
                (try simp only [Act.put, List.setIfInBounds_toArray, List.set_cons_zero, List.set_cons_succ])
                refine wpAnyH_take (i := 13) (v := ?_) (toArr_get _ 13 _ rfl) (by kernel_rfl) (by kernel_rfl) (by kernel_rfl) (fun _ _ _ h => h) (Or.inl ⟨by rfl, ?_⟩) (by assumption) ?_
                rotate_left
                · (intro w hSw; (try dsimp only at hSw); go_simp; (try with_reducible rfl))
                (try simp only [Act.put, List.setIfInBounds_toArray, List.set_cons_zero, List.set_cons_succ])
                refine wpAnyH_done (by kernel_rfl) ?_ _
                refine NoPanic.normal ?_
                go_wp2_with fail
                go_ret2
                have bd := sel3_in (u := sel6 u) (x := x) (y := -1) (z := 121) (lo := -1) (hi := 121) (by omega) (by omega) (by omega) (by omega) (by omega) (by omega)
                exact ⟨g, cap2, ts, _, rfl, bd.1, bd.2, hlen, hlc, hcm, HW.out, HB1.out.trans (gb_to_below G.out (Nat.le_refl _) HB1.out.size)⟩
              exact AllReadyH.nil
            exact AllReadyH.nil
          exact AllReadyH.nil
        exact AllReadyH.nil
      refine AllReadyH.cons (toArr_get _ 7 _ rfl) (fun K hK => ?_) ?_
      · go_simp
        go_at_call 61
        refine (pick_any w.heap.size 201 6 _ R.out (by omega)).mono ?_
        rintro e wu ⟨u, rfl, u0, u1, _, hgu, hru⟩
        have up := u1 (by decide)
        have G := Lib.hid (gb_trans G.out hgu)
        have R := Lib.hid hru
        (try have B7 := Lib.hid (B7.out.grow hgu))
        (try have B6 := Lib.hid (B6.out.grow hgu))
        (try have HW := Lib.hid (HW.out.grown hgu hgne))
        clear hgu hru u1
        have s0 := sel6_lo u
        have s1 := sel6_hi u
        go_wp2_with fail
        refine hK.out _ _ ?_ (fun hHeld2 => ?_)
        · (try dsimp only)
          all_goals exact True.intro
        clear hK K hHeld
        have hHeld := hHeld2
        clear hHeld2
        (try simp only [Act.put, List.setIfInBounds_toArray, List.set_cons_zero, List.set_cons_succ])
        refine wpAnyH_take (i := 12) (v := ?_) (toArr_get _ 12 _ rfl) (by kernel_rfl) (by kernel_rfl) (by kernel_rfl) (fun _ _ _ h => h) (Or.inl ⟨by rfl, ?_⟩) (by assumption) ?_
        rotate_left
        · (intro w hSw; (try dsimp only at hSw); go_simp; (try with_reducible rfl))
        (try simp only [Act.put, List.setIfInBounds_toArray, List.set_cons_zero, List.set_cons_succ])
        refine wpAnyH_ready (rs := [4, 5]) (by kernel_rfl) (by simp) ?_
        refine AllReadyH.cons (toArr_get _ 4 _ rfl) (fun K hK => ?_) ?_
        · go_simp
          generalize hWB6 : World.alloc _ _ = wB6
          have B6 := Lib.hid (Blk.new3 hWB6 R.out.lt)
          (try have B7 := Lib.hid (B7.out.grow (gb_alloc' (gb_refl _ _) hWB6)))
          (try have HW := Lib.hid (HW.out.grown (gb_alloc' (gb_refl _ _) hWB6) hgne))
          have G := Lib.hid (gb_alloc' G.out hWB6)
          have R := Lib.hid (R.out.alloc' hWB6)
          clear hWB6
          refine hK.out _ _ ?_ (fun hHeld2 => ?_)
          · (try dsimp only)
            all_goals exact True.intro
          clear hK K hHeld
          have hHeld := hHeld2
          clear hHeld2
          (try simp only [Act.put, List.setIfInBounds_toArray, List.set_cons_zero, List.set_cons_succ])
          refine wpAnyH_ready (rs := [5]) (by kernel_rfl) (by simp) ?_
          refine AllReadyH.cons (toArr_get _ 5 _ rfl) (fun K hK => ?_) ?_
          · go_simp
            generalize hWB7 : World.alloc _ _ = wB7
            have B7 := Lib.hid (Blk.new6 hWB7 R.out.lt)
            (try have B6 := Lib.hid (B6.out.grow (gb_alloc' (gb_refl _ _) hWB7)))
            (try have HW := Lib.hid (HW.out.grown (gb_alloc' (gb_refl _ _) hWB7) hgne))
            have G := Lib.hid (gb_alloc' G.out hWB7)
            have R := Lib.hid (R.out.alloc' hWB7)
            clear hWB7
            refine hK.out _ _ ?_ (fun hHeld2 => ?_)
            · (try dsimp only)
              all_goals exact True.intro
            clear hK K hHeld
            have hHeld := hHeld2
            clear hHeld2
            (try simp only [Act.put, List.setIfInBounds_toArray, List.set_cons_zero, List.set_cons_succ])
            refine wpAnyH_take (i := 8) (v := ?_) (toArr_get _ 8 _ rfl) (by kernel_rfl) (by kernel_rfl) (by kernel_rfl) (fun _ _ _ h => h) (Or.inl ⟨by rfl, ?_⟩) (by assumption) ?_
            rotate_left
            · (intro w hSw; (try dsimp only at hSw); go_simp; (try with_reducible rfl))
            (try simp only [Act.put, List.setIfInBounds_toArray, List.set_cons_zero, List.set_cons_succ])
            refine wpAnyH_ready (rs := [9]) (by kernel_rfl) (by simp) ?_
            refine AllReadyH.cons (toArr_get _ 9 _ rfl) (fun K hK => ?_) ?_
            · have l11 := B7.out.at6 u u0 up
              go_simp
              clear l11
              refine hK.out _ _ ?_ (fun hHeld2 => ?_)
              · (try dsimp only)
                all_goals exact True.intro
              clear hK K hHeld
              have hHeld := hHeld2
              clear hHeld2
              (try simp only [Act.put, List.setIfInBounds_toArray, List.set_cons_zero, List.set_cons_succ])
              refine wpAnyH_take (i := 10) (v := ?_) (toArr_get _ 10 _ rfl) (by kernel_rfl) (by kernel_rfl) (by kernel_rfl) (fun _ _ _ h => h) (Or.inl ⟨by rfl, ?_⟩) (by assumption) ?_
              rotate_left
              · (intro w hSw; (try dsimp only at hSw); go_simp; (try with_reducible rfl))
              (try simp only [Act.put, List.setIfInBounds_toArray, List.set_cons_zero, List.set_cons_succ])
              refine wpAnyH_ready (rs := [11]) (by kernel_rfl) (by simp) ?_
              refine AllReadyH.cons (toArr_get _ 11 _ rfl) (fun K hK => ?_) ?_
              · have l13 := B6.out.at3 (sel6 u) s0 s1
                go_simp
                clear l13
                refine hK.out _ _ ?_ (fun hHeld2 => ?_)
                · (try dsimp only)
                  all_goals exact True.intro
                clear hK K hHeld
                have hHeld := hHeld2
                clear hHeld2
                (try simp only [Act.put, List.setIfInBounds_toArray, List.set_cons_zero, List.set_cons_succ])
                refine wpAnyH_take (i := 13) (v := ?_) (toArr_get _ 13 _ rfl) (by kernel_rfl) (by kernel_rfl) (by kernel_rfl) (fun _ _ _ h => h) (Or.inl ⟨by rfl, ?_⟩) (by assumption) ?_
                rotate_left
                · (intro w hSw; (try dsimp only at hSw); go_simp; (try with_reducible rfl))
                (try simp only [Act.put, List.setIfInBounds_toArray, List.set_cons_zero, List.set_cons_succ])
                refine wpAnyH_done (by kernel_rfl) ?_ _
                refine NoPanic.normal ?_
                go_wp2_with fail
                go_ret2
                have bd := sel3_in (u := sel6 u) (x := x) (y := -1) (z := 121) (lo := -1) (hi := 121) (by omega) (by omega) (by omega) (by omega) (by omega) (by omega)
                exact ⟨g, cap2, ts, _, rfl, bd.1, bd.2, hlen, hlc, hcm, HW.out, HB1.out.trans (gb_to_below G.out (Nat.le_refl _) HB1.out.size)⟩
              exact AllReadyH.nil
            exact AllReadyH.nil
          exact AllReadyH.nil
        refine AllReadyH.cons (toArr_get _ 5 _ rfl) (fun K hK => ?_) ?_
        · go_simp
          generalize hWB7 : World.alloc _ _ = wB7
          have B7 := Lib.hid (Blk.new6 hWB7 R.out.lt)
          (try have B6 := Lib.hid (B6.out.grow (gb_alloc' (gb_refl _ _) hWB7)))
          (try have HW := Lib.hid (HW.out.grown (gb_alloc' (gb_refl _ _) hWB7) hgne))
          have G := Lib.hid (gb_alloc' G.out hWB7)
          have R := Lib.hid (R.out.alloc' hWB7)
          clear hWB7
          refine hK.out _ _ ?_ (fun hHeld2 => ?_)
          · (try dsimp only)
            all_goals exact True.intro
          clear hK K hHeld
          have hHeld := hHeld2
          clear hHeld2
          (try simp only [Act.put, List.setIfInBounds_toArray, List.set_cons_zero, List.set_cons_succ])
          refine wpAnyH_take (i := 8) (v := ?_) (toArr_get _ 8 _ rfl) (by kernel_rfl) (by kernel_rfl) (by kernel_rfl) (fun _ _ _ h => h) (Or.inl ⟨by rfl, ?_⟩) (by assumption) ?_
          rotate_left
          · (intro w hSw; (try dsimp only at hSw); go_simp; (try with_reducible rfl))
          (try simp only [Act.put, List.setIfInBounds_toArray, List.set_cons_zero, List.set_cons_succ])
          refine wpAnyH_ready (rs := [4, 9]) (by kernel_rfl) (by simp) ?_
          refine AllReadyH.cons (toArr_get _ 4 _ rfl) (fun K hK => ?_) ?_
          · go_simp
            generalize hWB6 : World.alloc _ _ = wB6
            have B6 := Lib.hid (Blk.new3 hWB6 R.out.lt)
            (try have B7 := Lib.hid (B7.out.grow (gb_alloc' (gb_refl _ _) hWB6)))
            (try have HW := Lib.hid (HW.out.grown (gb_alloc' (gb_refl _ _) hWB6) hgne))
            have G := Lib.hid (gb_alloc' G.out hWB6)
            have R := Lib.hid (R.out.alloc' hWB6)
            clear hWB6
            refine hK.out _ _ ?_ (fun hHeld2 => ?_)
            · (try dsimp only)
              all_goals exact True.intro
            clear hK K hHeld
            have hHeld := hHeld2
            clear hHeld2
            (try simp only [Act.put, List.setIfInBounds_toArray, List.set_cons_zero, List.set_cons_succ])
            refine wpAnyH_ready (rs := [9]) (by kernel_rfl) (by simp) ?_
            refine AllReadyH.cons (toArr_get _ 9 _ rfl) (fun K hK => ?_) ?_
            · have l11 := B7.out.at6 u u0 up
              go_simp
              clear l11
              refine hK.out _ _ ?_ (fun hHeld2 => ?_)
              · (try dsimp only)
                all_goals exact True.intro
              clear hK K hHeld
              have hHeld := hHeld2
              clear hHeld2
              (try simp only [Act.put, List.setIfInBounds_toArray, List.set_cons_zero, List.set_cons_succ])
              refine wpAnyH_take (i := 10) (v := ?_) (toArr_get _ 10 _ rfl) (by kernel_rfl) (by kernel_rfl) (by kernel_rfl) (fun _ _ _ h => h) (Or.inl ⟨by rfl, ?_⟩) (by assumption) ?_
              rotate_left
              · (intro w hSw; (try dsimp only at hSw); go_simp; (try with_reducible rfl))
              (try simp only [Act.put, List.setIfInBounds_toArray, List.set_cons_zero, List.set_cons_succ])
              refine wpAnyH_ready (rs := [11]) (by kernel_rfl) (by simp) ?_
              refine AllReadyH.cons (toArr_get _ 11 _ rfl) (fun K hK => ?_) ?_
              · have l13 := B6.out.at3 (sel6 u) s0 s1
                go_simp
                clear l13
                refine hK.out _ _ ?_ (fun hHeld2 => ?_)
                · (try dsimp only)
                  all_goals exact True.intro
                clear hK K hHeld
                have hHeld := hHeld2
                clear hHeld2
                (try simp only [Act.put, List.setIfInBounds_toArray, List.set_cons_zero, List.set_cons_succ])
                refine wpAnyH_take (i := 13) (v := ?_) (toArr_get _ 13 _ rfl) (by kernel_rfl) (by kernel_rfl) (by kernel_rfl) (fun _ _ _ h => h) (Or.inl ⟨by rfl, ?_⟩) (by assumption) ?_
                rotate_left
                · (intro w hSw; (try dsimp only at hSw); go_simp; (try with_reducible rfl))
                (try simp only [Act.put, List.setIfInBounds_toArray, List.set_cons_zero, List.set_cons_succ])
                refine wpAnyH_done (by kernel_rfl) ?_ _
                refine NoPanic.normal ?_
                go_wp2_with fail
                go_ret2
                have bd := sel3_in (u := sel6 u) (x := x) (y := -1) (z := 121) (lo := -1) (hi := 121) (by omega) (by omega) (by omega) (by omega) (by omega) (by omega)
                exact ⟨g, cap2, ts, _, rfl, bd.1, bd.2, hlen, hlc, hcm, HW.out, HB1.out.trans (gb_to_below G.out (Nat.le_refl _) HB1.out.size)⟩
              exact AllReadyH.nil
            exact AllReadyH.nil
          refine AllReadyH.cons (toArr_get _ 9 _ rfl) (fun K hK => ?_) ?_
          · have l11 := B7.out.at6 u u0 up
            go_simp
            clear l11
            refine hK.out _ _ ?_ (fun hHeld2 => ?_)
            · (try dsimp only)
              all_goals exact True.intro
            clear hK K hHeld
            have hHeld := hHeld2
            clear hHeld2
            (try simp only [Act.put, List.setIfInBounds_toArray, List.set_cons_zero, List.set_cons_succ])
            refine wpAnyH_ready (rs := [4]) (by kernel_rfl) (by simp) ?_
            refine AllReadyH.cons (toArr_get _ 4 _ rfl) (fun K hK => ?_) ?_
            · go_simp
              generalize hWB6 : World.alloc _ _ = wB6
              have B6 := Lib.hid (Blk.new3 hWB6 R.out.lt)
              (try have B7 := Lib.hid (B7.out.grow (gb_alloc' (gb_refl _ _) hWB6)))
              (try have HW := Lib.hid (HW.out.grown (gb_alloc' (gb_refl _ _) hWB6) hgne))
              have G := Lib.hid (gb_alloc' G.out hWB6)
              have R := Lib.hid (R.out.alloc' hWB6)
              clear hWB6
              refine hK.out _ _ ?_ (fun hHeld2 => ?_)
              · (try dsimp only)
                all_goals exact True.intro
              clear hK K hHeld
              have hHeld := hHeld2
              clear hHeld2
              (try simp only [Act.put, List.setIfInBounds_toArray, List.set_cons_zero, List.set_cons_succ])
              refine wpAnyH_take (i := 10) (v := ?_) (toArr_get _ 10 _ rfl) (by kernel_rfl) (by kernel_rfl) (by kernel_rfl) (fun _ _ _ h => h) (Or.inl ⟨by rfl, ?_⟩) (by assumption) ?_
              rotate_left
              · (intro w hSw; (try dsimp only at hSw); go_simp; (try with_reducible rfl))
              (try simp only [Act.put, List.setIfInBounds_toArray, List.set_cons_zero, List.set_cons_succ])
              refine wpAnyH_ready (rs := [11]) (by kernel_rfl) (by simp) ?_
              refine AllReadyH.cons (toArr_get _ 11 _ rfl) (fun K hK => ?_) ?_
              · have l13 := B6.out.at3 (sel6 u) s0 s1
                go_simp
                clear l13
                refine hK.out _ _ ?_ (fun hHeld2 => ?_)
                · (try dsimp only)
                  all_goals exact True.intro
                clear hK K hHeld
                have hHeld := hHeld2
                clear hHeld2
                (try simp only [Act.put, List.setIfInBounds_toArray, List.set_cons_zero, List.set_cons_succ])
                refine wpAnyH_take (i := 13) (v := ?_) (toArr_get _ 13 _ rfl) (by kernel_rfl) (by kernel_rfl) (by kernel_rfl) (fun _ _ _ h => h) (Or.inl ⟨by rfl, ?_⟩) (by assumption) ?_
                rotate_left
                · (intro w hSw; (try dsimp only at hSw); go_simp; (try with_reducible rfl))
                (try simp only [Act.put, List.setIfInBounds_toArray, List.set_cons_zero, List.set_cons_succ])
                refine wpAnyH_done (by kernel_rfl) ?_ _
                refine NoPanic.normal ?_
                go_wp2_with fail
                go_ret2
                have bd := sel3_in (u := sel6 u) (x := x) (y := -1) (z := 121) (lo := -1) (hi := 121) (by omega) (by omega) (by omega) (by omega) (by omega) (by omega)
                exact ⟨g, cap2, ts, _, rfl, bd.1, bd.2, hlen, hlc, hcm, HW.out, HB1.out.trans (gb_to_below G.out (Nat.le_refl _) HB1.out.size)⟩
              exact AllReadyH.nil
            exact AllReadyH.nil
          exact AllReadyH.nil
        exact AllReadyH.nil
      exact AllReadyH.nil
    refine AllReadyH.cons (toArr_get _ 5 _ rfl) (fun K hK => ?_) ?_
    · go_simp
      generalize hWB7 : World.alloc _ _ = wB7
      have B7 := Lib.hid (Blk.new6 hWB7 R.out.lt)
      (try have B6 := Lib.hid (B6.out.grow (gb_alloc' (gb_refl _ _) hWB7)))
      (try have HW := Lib.hid (HW.out.grown (gb_alloc' (gb_refl _ _) hWB7) hgne))
      have G := Lib.hid (gb_alloc' G.out hWB7)
      have R := Lib.hid (R.out.alloc' hWB7)
      clear hWB7
      refine hK.out _ _ ?_ (fun hHeld2 => ?_)
      · (try dsimp only)
        all_goals exact True.intro
      clear hK K hHeld
      have hHeld := hHeld2
      clear hHeld2
      (try simp only [Act.put, List.setIfInBounds_toArray, List.set_cons_zero, List.set_cons_succ])
      refine wpAnyH_ready (rs := [3]) (by kernel_rfl) (by simp) ?_
      refine AllReadyH.cons (toArr_get _ 3 _ rfl) (fun K hK => ?_) ?_
      · go_simp
        go_at_call 61
        refine (pick_any w.heap.size 200 121 _ R.out (by omega)).mono ?_
        rintro e wx ⟨x, rfl, x0, x1, _, hgx, hrx⟩
        have xp := x1 (by decide)
        have G := Lib.hid (gb_trans G.out hgx)
        have R := Lib.hid hrx
        (try have B7 := Lib.hid (B7.out.grow hgx))
        (try have B6 := Lib.hid (B6.out.grow hgx))
        (try have HW := Lib.hid (HW.out.grown hgx hgne))
        clear hgx hrx x1
        go_wp2_with fail
        refine hK.out _ _ ?_ (fun hHeld2 => ?_)
        · (try dsimp only)
          all_goals exact True.intro
        clear hK K hHeld
        have hHeld := hHeld2
        clear hHeld2
        (try simp only [Act.put, List.setIfInBounds_toArray, List.set_cons_zero, List.set_cons_succ])
        refine wpAnyH_ready (rs := [4, 7]) (by kernel_rfl) (by simp) ?_
        refine AllReadyH.cons (toArr_get _ 4 _ rfl) (fun K hK => ?_) ?_
        · go_simp
          generalize hWB6 : World.alloc _ _ = wB6
          have B6 := Lib.hid (Blk.new3 hWB6 R.out.lt)
          (try have B7 := Lib.hid (B7.out.grow (gb_alloc' (gb_refl _ _) hWB6)))
          (try have HW := Lib.hid (HW.out.grown (gb_alloc' (gb_refl _ _) hWB6) hgne))
          have G := Lib.hid (gb_alloc' G.out hWB6)
          have R := Lib.hid (R.out.alloc' hWB6)
          clear hWB6
          refine hK.out _ _ ?_ (fun hHeld2 => ?_)
          · (try dsimp only)
            all_goals exact True.intro
          clear hK K hHeld
          have hHeld := hHeld2
          clear hHeld2
          (try simp only [Act.put, List.setIfInBounds_toArray, List.set_cons_zero, List.set_cons_succ])
          refine wpAnyH_ready (rs := [7]) (by kernel_rfl) (by simp) ?_
          refine AllReadyH.cons (toArr_get _ 7 _ rfl) (fun K hK => ?_) ?_
          · go_simp
            go_at_call 61
            refine (pick_any w.heap.size 201 6 _ R.out (by omega)).mono ?_
            rintro e wu ⟨u, rfl, u0, u1, _, hgu, hru⟩
            have up := u1 (by decide)
            have G := Lib.hid (gb_trans G.out hgu)
            have R := Lib.hid hru
            (try have B7 := Lib.hid (B7.out.grow hgu))
            (try have B6 := Lib.hid (B6.out.grow hgu))
            (try have HW := Lib.hid (HW.out.grown hgu hgne))
            clear hgu hru u1
            have s0 := sel6_lo u
            have s1 := sel6_hi u
            go_wp2_with fail
            refine hK.out _ _ ?_ (fun hHeld2 => ?_)
            · (try dsimp only)
              all_goals exact True.intro
            clear hK K hHeld
            have hHeld := hHeld2
            clear hHeld2
            (try simp only [Act.put, List.setIfInBounds_toArray, List.set_cons_zero, List.set_cons_succ])
            refine wpAnyH_take (i := 8) (v := ?_) (toArr_get _ 8 _ rfl) (by kernel_rfl) (by kernel_rfl) (by kernel_rfl) (fun _ _ _ h => h) (Or.inl ⟨by rfl, ?_⟩) (by assumption) ?_
            rotate_left
            · (intro w hSw; (try dsimp only at hSw); go_simp; (try with_reducible rfl))
            (try simp only [Act.put, List.setIfInBounds_toArray, List.set_cons_zero, List.set_cons_succ])
            refine wpAnyH_take (i := 12) (v := ?_) (toArr_get _ 12 _ rfl) (by kernel_rfl) (by kernel_rfl) (by kernel_rfl) (fun _ _ _ h => h) (Or.inl ⟨by rfl, ?_⟩) (by assumption) ?_
            rotate_left
            · (intro w hSw; (try dsimp only at hSw); go_simp; (try with_reducible rfl))
            (try simp only [Act.put, List.setIfInBounds_toArray, List.set_cons_zero, List.set_cons_succ])
            refine wpAnyH_ready (rs := [9]) (by kernel_rfl) (by simp) ?_
            refine AllReadyH.cons (toArr_get _ 9 _ rfl) (fun K hK => ?_) ?_
            · have l11 := B7.out.at6 u u0 up
              go_simp
              clear l11
              refine hK.out _ _ ?_ (fun hHeld2 => ?_)
              · (try dsimp only)
                all_goals exact True.intro
              clear hK K hHeld
              have hHeld := hHeld2
              clear hHeld2
              (try simp only [Act.put, List.setIfInBounds_toArray, List.set_cons_zero, List.set_cons_succ])
              refine wpAnyH_take (i := 10) (v := ?_) (toArr_get _ 10 _ rfl) (by kernel_rfl) (by kernel_rfl) (by kernel_rfl) (fun _ _ _ h => h) (Or.inl ⟨by rfl, ?_⟩) (by assumption) ?_
              rotate_left
              · (intro w hSw; (try dsimp only at hSw); go_simp; (try with_reducible rfl))
              (try simp only [Act.put, List.setIfInBounds_toArray, List.set_cons_zero, List.set_cons_succ])
              refine wpAnyH_ready (rs := [11]) (by kernel_rfl) (by simp) ?_
              refine AllReadyH.cons (toArr_get _ 11 _ rfl) (fun K hK => ?_) ?_
              · have l13 := B6.out.at3 (sel6 u) s0 s1
                go_simp
                clear l13
                refine hK.out _ _ ?_ (fun hHeld2 => ?_)
                · (try dsimp only)
                  all_goals exact True.intro
                clear hK K hHeld
                have hHeld := hHeld2
                clear hHeld2
                (try simp only [Act.put, List.setIfInBounds_toArray, List.set_cons_zero, List.set_cons_succ])
                refine wpAnyH_take (i := 13) (v := ?_) (toArr_get _ 13 _ rfl) (by kernel_rfl) (by kernel_rfl) (by kernel_rfl) (fun _ _ _ h => h) (Or.inl ⟨by rfl, ?_⟩) (by assumption) ?_
                rotate_left
                · (intro w hSw; (try dsimp only at hSw); go_simp; (try with_reducible rfl))
                (try simp only [Act.put, List.setIfInBounds_toArray, List.set_cons_zero, List.set_cons_succ])
                refine wpAnyH_done (by kernel_rfl) ?_ _
                refine NoPanic.normal ?_
                go_wp2_with fail
                go_ret2
                have bd := sel3_in (u := sel6 u) (x := x) (y := -1) (z := 121) (lo := -1) (hi := 121) (by omega) (by omega) (by omega) (by omega) (by omega) (by omega)
                exact ⟨g, cap2, ts, _, rfl, bd.1, bd.2, hlen, hlc, hcm, HW.out, HB1.out.trans (gb_to_below G.out (Nat.le_refl _) HB1.out.size)⟩
              exact AllReadyH.nil
            exact AllReadyH.nil
          exact AllReadyH.nil
        refine AllReadyH.cons (toArr_get _ 7 _ rfl) (fun K hK => ?_) ?_
        · go_simp
          go_at_call 61
          refine (pick_any w.heap.size 201 6 _ R.out (by omega)).mono ?_
          rintro e wu ⟨u, rfl, u0, u1, _, hgu, hru⟩
          have up := u1 (by decide)
          have G := Lib.hid (gb_trans G.out hgu)
          have R := Lib.hid hru
          (try have B7 := Lib.hid (B7.out.grow hgu))
          (try have B6 := Lib.hid (B6.out.grow hgu))
          (try have HW := Lib.hid (HW.out.grown hgu hgne))
          clear hgu hru u1
          have s0 := sel6_lo u
          have s1 := sel6_hi u
          go_wp2_with fail
          refine hK.out _ _ ?_ (fun hHeld2 => ?_)
          · (try dsimp only)
            all_goals exact True.intro
          clear hK K hHeld
          have hHeld := hHeld2
          clear hHeld2
          (try simp only [Act.put, List.setIfInBounds_toArray, List.set_cons_zero, List.set_cons_succ])
          refine wpAnyH_take (i := 8) (v := ?_) (toArr_get _ 8 _ rfl) (by kernel_rfl) (by kernel_rfl) (by kernel_rfl) (fun _ _ _ h => h) (Or.inl ⟨by rfl, ?_⟩) (by assumption) ?_
          rotate_left
          · (intro w hSw; (try dsimp only at hSw); go_simp; (try with_reducible rfl))
          (try simp only [Act.put, List.setIfInBounds_toArray, List.set_cons_zero, List.set_cons_succ])
          refine wpAnyH_take (i := 12) (v := ?_) (toArr_get _ 12 _ rfl) (by kernel_rfl) (by kernel_rfl) (by kernel_rfl) (fun _ _ _ h => h) (Or.inl ⟨by rfl, ?_⟩) (by assumption) ?_
          rotate_left
          · (intro w hSw; (try dsimp only at hSw); go_simp; (try with_reducible rfl))
          (try simp only [Act.put, List.setIfInBounds_toArray, List.set_cons_zero, List.set_cons_succ])
          refine wpAnyH_ready (rs := [4, 9]) (by kernel_rfl) (by simp) ?_
          refine AllReadyH.cons (toArr_get _ 4 _ rfl) (fun K hK => ?_) ?_
          · go_simp
            generalize hWB6 : World.alloc _ _ = wB6
            have B6 := Lib.hid (Blk.new3 hWB6 R.out.lt)
            (try have B7 := Lib.hid (B7.out.grow (gb_alloc' (gb_refl _ _) hWB6)))
            (try have HW := Lib.hid (HW.out.grown (gb_alloc' (gb_refl _ _) hWB6) hgne))
            have G := Lib.hid (gb_alloc' G.out hWB6)
            have R := Lib.hid (R.out.alloc' hWB6)
            clear hWB6
            refine hK.out _ _ ?_ (fun hHeld2 => ?_)
            · (try dsimp only)
              all_goals exact True.intro
            clear hK K hHeld
            have hHeld := hHeld2
            clear hHeld2
            (try simp only [Act.put, List.setIfInBounds_toArray, List.set_cons_zero, List.set_cons_succ])
            refine wpAnyH_ready (rs := [9]) (by kernel_rfl) (by simp) ?_
            refine AllReadyH.cons (toArr_get _ 9 _ rfl) (fun K hK => ?_) ?_
            · have l11 := B7.out.at6 u u0 up
              go_simp
              clear l11
              refine hK.out _ _ ?_ (fun hHeld2 => ?_)
              · (try dsimp only)
                all_goals exact True.intro
              clear hK K hHeld
              have hHeld := hHeld2
              clear hHeld2
              (try simp only [Act.put, List.setIfInBounds_toArray, List.set_cons_zero, List.set_cons_succ])
              refine wpAnyH_take (i := 10) (v := ?_) (toArr_get _ 10 _ rfl) (by kernel_rfl) (by kernel_rfl) (by kernel_rfl) (fun _ _ _ h => h) (Or.inl ⟨by rfl, ?_⟩) (by assumption) ?_
              rotate_left
              · (intro w hSw; (try dsimp only at hSw); go_simp; (try with_reducible rfl))
              (try simp only [Act.put, List.setIfInBounds_toArray, List.set_cons_zero, List.set_cons_succ])
              refine wpAnyH_ready (rs := [11]) (by kernel_rfl) (by simp) ?_
              refine AllReadyH.cons (toArr_get _ 11 _ rfl) (fun K hK => ?_) ?_
              · have l13 := B6.out.at3 (sel6 u) s0 s1
                go_simp
                clear l13
                refine hK.out _ _ ?_ (fun hHeld2 => ?_)
                · (try dsimp only)
                  all_goals exact True.intro
                clear hK K hHeld
                have hHeld := hHeld2
                clear hHeld2
                (try simp only [Act.put, List.setIfInBounds_toArray, List.set_cons_zero, List.set_cons_succ])
                refine wpAnyH_take (i := 13) (v := ?_) (toArr_get _ 13 _ rfl) (by kernel_rfl) (by kernel_rfl) (by kernel_rfl) (fun _ _ _ h => h) (Or.inl ⟨by rfl, ?_⟩) (by assumption) ?_
                rotate_left
                · (intro w hSw; (try dsimp only at hSw); go_simp; (try with_reducible rfl))
                (try simp only [Act.put, List.setIfInBounds_toArray, List.set_cons_zero, List.set_cons_succ])
                refine wpAnyH_done (by kernel_rfl) ?_ _
                refine NoPanic.normal ?_
                go_wp2_with fail
                go_ret2
                have bd := sel3_in (u := sel6 u) (x := x) (y := -1) (z := 121) (lo := -1) (hi := 121) (by omega) (by omega) (by omega) (by omega) (by omega) (by omega)
                exact ⟨g, cap2, ts, _, rfl, bd.1, bd.2, hlen, hlc, hcm, HW.out, HB1.out.trans (gb_to_below G.out (Nat.le_refl _) HB1.out.size)⟩
              exact AllReadyH.nil
            exact AllReadyH.nil
          refine AllReadyH.cons (toArr_get _ 9 _ rfl) (fun K hK => ?_) ?_
          · have l11 := B7.out.at6 u u0 up
            go_simp
            clear l11
            refine hK.out _ _ ?_ (fun hHeld2 => ?_)
            · (try dsimp only)
              all_goals exact True.intro
            clear hK K hHeld
            have hHeld := hHeld2
            clear hHeld2
            (try simp only [Act.put, List.setIfInBounds_toArray, List.set_cons_zero, List.set_cons_succ])
            refine wpAnyH_ready (rs := [4]) (by kernel_rfl) (by simp) ?_
            refine AllReadyH.cons (toArr_get _ 4 _ rfl) (fun K hK => ?_) ?_
            · go_simp
              generalize hWB6 : World.alloc _ _ = wB6
              have B6 := Lib.hid (Blk.new3 hWB6 R.out.lt)
              (try have B7 := Lib.hid (B7.out.grow (gb_alloc' (gb_refl _ _) hWB6)))
              (try have HW := Lib.hid (HW.out.grown (gb_alloc' (gb_refl _ _) hWB6) hgne))
              have G := Lib.hid (gb_alloc' G.out hWB6)
              have R := Lib.hid (R.out.alloc' hWB6)
              clear hWB6
              refine hK.out _ _ ?_ (fun hHeld2 => ?_)
              · (try dsimp only)
                all_goals exact True.intro
              clear hK K hHeld
              have hHeld := hHeld2
              clear hHeld2
              (try simp only [Act.put, List.setIfInBounds_toArray, List.set_cons_zero, List.set_cons_succ])
              refine wpAnyH_take (i := 10) (v := ?_) (toArr_get _ 10 _ rfl) (by kernel_rfl) (by kernel_rfl) (by kernel_rfl) (fun _ _ _ h => h) (Or.inl ⟨by rfl, ?_⟩) (by assumption) ?_
              rotate_left
              · (intro w hSw; (try dsimp only at hSw); go_simp; (try with_reducible rfl))
              (try simp only [Act.put, List.setIfInBounds_toArray, List.set_cons_zero, List.set_cons_succ])
              refine wpAnyH_ready (rs := [11]) (by kernel_rfl) (by simp) ?_
              refine AllReadyH.cons (toArr_get _ 11 _ rfl) (fun K hK => ?_) ?_
              · have l13 := B6.out.at3 (sel6 u) s0 s1
                go_simp
                clear l13
                refine hK.out _ _ ?_ (fun hHeld2 => ?_)
                · (try dsimp only)
                  all_goals exact True.intro
                clear hK K hHeld
                have hHeld := hHeld2
                clear hHeld2
                (try simp only [Act.put, List.setIfInBounds_toArray, List.set_cons_zero, List.set_cons_succ])
                refine wpAnyH_take (i := 13) (v := ?_) (toArr_get _ 13 _ rfl) (by kernel_rfl) (by kernel_rfl) (by kernel_rfl) (fun _ _ _ h => h) (Or.inl ⟨by rfl, ?_⟩) (by assumption) ?_
                rotate_left
                · (intro w hSw; (try dsimp only at hSw); go_simp; (try with_reducible rfl))
                (try simp only [Act.put, List.setIfInBounds_toArray, List.set_cons_zero, List.set_cons_succ])
                refine wpAnyH_done (by kernel_rfl) ?_ _
                refine NoPanic.normal ?_
                go_wp2_with fail
                go_ret2
                have bd := sel3_in (u := sel6 u) (x := x) (y := -1) (z := 121) (lo := -1) (hi := 121) (by omega) (by omega) (by omega) (by omega) (by omega) (by omega)
                exact ⟨g, cap2, ts, _, rfl, bd.1, bd.2, hlen, hlc, hcm, HW.out, HB1.out.trans (gb_to_below G.out (Nat.le_refl _) HB1.out.size)⟩
              exact AllReadyH.nil
            exact AllReadyH.nil
          exact AllReadyH.nil
        exact AllReadyH.nil
      exact AllReadyH.nil
    exact AllReadyH.nil
  refine AllReadyH.cons (toArr_get _ 5 _ rfl) (fun K hK => ?_) ?_
  · go_simp
    generalize hWB7 : World.alloc _ _ = wB7
    have B7 := Lib.hid (Blk.new6 hWB7 R.out.lt)
    (try have B6 := Lib.hid (B6.out.grow (gb_alloc' (gb_refl _ _) hWB7)))
    (try have HW := Lib.hid (HW.out.grown (gb_alloc' (gb_refl _ _) hWB7) hgne))
    have G := Lib.hid (gb_alloc' G.out hWB7)
    have R := Lib.hid (R.out.alloc' hWB7)
    clear hWB7
    refine hK.out _ _ ?_ (fun hHeld2 => ?_)
    · (try dsimp only)
      all_goals exact True.intro
    clear hK K hHeld
    have hHeld := hHeld2
    clear hHeld2
    (try simp only [Act.put, List.setIfInBounds_toArray, List.set_cons_zero, List.set_cons_succ])
    refine wpAnyH_ready (rs := [1]) (by kernel_rfl) (by simp) ?_
    refine AllReadyH.cons (toArr_get _ 1 _ rfl) (fun K hK => ?_) ?_
    · go_simp
      go_at_call 54
      refine (l20Set_full w.heap.size 0 12 _ R.out (by omega)).mono ?_
      rintro e w2 ⟨a2, cap2, ts, rfl, hlen, hlc, hcm, hrow, hg2, hr2, ⟨g, rfl, hgg⟩, _⟩
      have hgne : g ≠ w.heap.size := by have := R.out.lt; omega
      have HW := Lib.hid hrow
      have G := Lib.hid (gb_trans G.out hg2)
      have R := Lib.hid hr2
      (try have B7 := Lib.hid (B7.out.grow hg2))
      clear hg2 hr2 hrow
      go_wp2_with fail
      refine hK.out _ _ ?_ (fun hHeld2 => ?_)
      · (try dsimp only)
        all_goals exact True.intro
      clear hK K hHeld
      have hHeld := hHeld2
      clear hHeld2
      (try simp only [Act.put, List.setIfInBounds_toArray, List.set_cons_zero, List.set_cons_succ])
      refine wpAnyH_ready (rs := [3]) (by kernel_rfl) (by simp) ?_
      refine AllReadyH.cons (toArr_get _ 3 _ rfl) (fun K hK => ?_) ?_
      · go_simp
        go_at_call 61
        refine (pick_any w.heap.size 200 121 _ R.out (by omega)).mono ?_
        rintro e wx ⟨x, rfl, x0, x1, _, hgx, hrx⟩
        have xp := x1 (by decide)
        have G := Lib.hid (gb_trans G.out hgx)
        have R := Lib.hid hrx
        (try have B7 := Lib.hid (B7.out.grow hgx))
        (try have B6 := Lib.hid (B6.out.grow hgx))
        (try have HW := Lib.hid (HW.out.grown hgx hgne))
        clear hgx hrx x1
        go_wp2_with fail
        refine hK.out _ _ ?_ (fun hHeld2 => ?_)
        · (try dsimp only)
          all_goals exact True.intro
        clear hK K hHeld
        have hHeld := hHeld2
        clear hHeld2
        (try simp only [Act.put, List.setIfInBounds_toArray, List.set_cons_zero, List.set_cons_succ])
        refine wpAnyH_ready (rs := [4, 7]) (by kernel_rfl) (by simp) ?_
        refine AllReadyH.cons (toArr_get _ 4 _ rfl) (fun K hK => ?_) ?_
        · go_simp
          generalize hWB6 : World.alloc _ _ = wB6
          have B6 := Lib.hid (Blk.new3 hWB6 R.out.lt)
          (try have B7 := Lib.hid (B7.out.grow (gb_alloc' (gb_refl _ _) hWB6)))
          (try have HW := Lib.hid (HW.out.grown (gb_alloc' (gb_refl _ _) hWB6) hgne))
          have G := Lib.hid (gb_alloc' G.out hWB6)
          have R := Lib.hid (R.out.alloc' hWB6)
          clear hWB6
          refine hK.out _ _ ?_ (fun hHeld2 => ?_)
          · (try dsimp only)
            all_goals exact True.intro
          clear hK K hHeld
          have hHeld := hHeld2
          clear hHeld2
          (try simp only [Act.put, List.setIfInBounds_toArray, List.set_cons_zero, List.set_cons_succ])
          refine wpAnyH_ready (rs := [7]) (by kernel_rfl) (by simp) ?_
          refine AllReadyH.cons (toArr_get _ 7 _ rfl) (fun K hK => ?_) ?_
          · go_simp
            go_at_call 61
            refine (pick_any w.heap.size 201 6 _ R.out (by omega)).mono ?_
            rintro e wu ⟨u, rfl, u0, u1, _, hgu, hru⟩
            have up := u1 (by decide)
            have G := Lib.hid (gb_trans G.out hgu)
            have R := Lib.hid hru
            (try have B7 := Lib.hid (B7.out.grow hgu))
            (try have B6 := Lib.hid (B6.out.grow hgu))
            (try have HW := Lib.hid (HW.out.grown hgu hgne))
            clear hgu hru u1
            have s0 := sel6_lo u
            have s1 := sel6_hi u
            go_wp2_with fail
            refine hK.out _ _ ?_ (fun hHeld2 => ?_)
            · (try dsimp only)
              all_goals exact True.intro
            clear hK K hHeld
            have hHeld := hHeld2
            clear hHeld2
            (try simp only [Act.put, List.setIfInBounds_toArray, List.set_cons_zero, List.set_cons_succ])
            refine wpAnyH_take (i := 8) (v := ?_) (toArr_get _ 8 _ rfl) (by kernel_rfl) (by kernel_rfl) (by kernel_rfl) (fun _ _ _ h => h) (Or.inl ⟨by rfl, ?_⟩) (by assumption) ?_
            rotate_left
            · (intro w hSw; (try dsimp only at hSw); go_simp; (try with_reducible rfl))
            (try simp only [Act.put, List.setIfInBounds_toArray, List.set_cons_zero, List.set_cons_succ])
            refine wpAnyH_take (i := 12) (v := ?_) (toArr_get _ 12 _ rfl) (by kernel_rfl) (by kernel_rfl) (by kernel_rfl) (fun _ _ _ h => h) (Or.inl ⟨by rfl, ?_⟩) (by assumption) ?_
            rotate_left
            · (intro w hSw; (try dsimp only at hSw); go_simp; (try with_reducible rfl))
            (try simp only [Act.put, List.setIfInBounds_toArray, List.set_cons_zero, List.set_cons_succ])
            refine wpAnyH_ready (rs := [9]) (by kernel_rfl) (by simp) ?_
            refine AllReadyH.cons (toArr_get _ 9 _ rfl) (fun K hK => ?_) ?_
            · have l11 := B7.out.at6 u u0 up
              go_simp
              clear l11
              refine hK.out _ _ ?_ (fun hHeld2 => ?_)
              · (try dsimp only)
                all_goals exact True.intro
              clear hK K hHeld
              have hHeld := hHeld2
              clear hHeld2
              (try simp only [Act.put, List.setIfInBounds_toArray, List.set_cons_zero, List.set_cons_succ])
              refine wpAnyH_take (i := 10) (v := ?_) (toArr_get _ 10 _ rfl) (by kernel_rfl) (by kernel_rfl) (by kernel_rfl) (fun _ _ _ h => h) (Or.inl ⟨by rfl, ?_⟩) (by assumption) ?_
              rotate_left
              · (intro w hSw; (try dsimp only at hSw); go_simp; (try with_reducible rfl))
              (try simp only [Act.put, List.setIfInBounds_toArray, List.set_cons_zero, List.set_cons_succ])
              refine wpAnyH_ready (rs := [11]) (by kernel_rfl) (by simp) ?_
              refine AllReadyH.cons (toArr_get _ 11 _ rfl) (fun K hK => ?_) ?_
              · have l13 := B6.out.at3 (sel6 u) s0 s1
                go_simp
                clear l13
                refine hK.out _ _ ?_ (fun hHeld2 => ?_)
                · (try dsimp only)
                  all_goals exact True.intro
                clear hK K hHeld
                have hHeld := hHeld2
                clear hHeld2
                (try simp only [Act.put, List.setIfInBounds_toArray, List.set_cons_zero, List.set_cons_succ])
                refine wpAnyH_take (i := 13) (v := ?_) (toArr_get _ 13 _ rfl) (by kernel_rfl) (by kernel_rfl) (by kernel_rfl) (fun _ _ _ h => h) (Or.inl ⟨by rfl, ?_⟩) (by assumption) ?_
                rotate_left
                · (intro w hSw; (try dsimp only at hSw); go_simp; (try with_reducible rfl))
                (try simp only [Act.put, List.setIfInBounds_toArray, List.set_cons_zero, List.set_cons_succ])
                refine wpAnyH_done (by kernel_rfl) ?_ _
                refine NoPanic.normal ?_
                go_wp2_with fail
                go_ret2
                have bd := sel3_in (u := sel6 u) (x := x) (y := -1) (z := 121) (lo := -1) (hi := 121) (by omega) (by omega) (by omega) (by omega) (by omega) (by omega)
                exact ⟨g, cap2, ts, _, rfl, bd.1, bd.2, hlen, hlc, hcm, HW.out, HB1.out.trans (gb_to_below G.out (Nat.le_refl _) HB1.out.size)⟩
              exact AllReadyH.nil
            exact AllReadyH.nil
          exact AllReadyH.nil
        refine AllReadyH.cons (toArr_get _ 7 _ rfl) (fun K hK => ?_) ?_
        · go_simp
          go_at_call 61
          refine (pick_any w.heap.size 201 6 _ R.out (by omega)).mono ?_
          rintro e wu ⟨u, rfl, u0, u1, _, hgu, hru⟩
          have up := u1 (by decide)
          have G := Lib.hid (gb_trans G.out hgu)
          have R := Lib.hid hru
          (try have B7 := Lib.hid (B7.out.grow hgu))
          (try have B6 := Lib.hid (B6.out.grow hgu))
          (try have HW := Lib.hid (HW.out.grown hgu hgne))
          clear hgu hru u1
          have s0 := sel6_lo u
          have s1 := sel6_hi u
          go_wp2_with fail
          refine hK.out _ _ ?_ (fun hHeld2 => ?_)
          · (try dsimp only)
            all_goals exact True.intro
          clear hK K hHeld
          have hHeld := hHeld2
          clear hHeld2
          (try simp only [Act.put, List.setIfInBounds_toArray, List.set_cons_zero, List.set_cons_succ])
          refine wpAnyH_take (i := 8) (v := ?_) (toArr_get _ 8 _ rfl) (by kernel_rfl) (by kernel_rfl) (by kernel_rfl) (fun _ _ _ h => h) (Or.inl ⟨by rfl, ?_⟩) (by assumption) ?_
          rotate_left
          · (intro w hSw; (try dsimp only at hSw); go_simp; (try with_reducible rfl))
          (try simp only [Act.put, List.setIfInBounds_toArray, List.set_cons_zero, List.set_cons_succ])
          refine wpAnyH_take (i := 12) (v := ?_) (toArr_get _ 12 _ rfl) (by kernel_rfl) (by kernel_rfl) (by kernel_rfl) (fun _ _ _ h => h) (Or.inl ⟨by rfl, ?_⟩) (by assumption) ?_
          rotate_left
          · (intro w hSw; (try dsimp only at hSw); go_simp; (try with_reducible rfl))
          (try simp only [Act.put, List.setIfInBounds_toArray, List.set_cons_zero, List.set_cons_succ])
          refine wpAnyH_ready (rs := [4, 9]) (by kernel_rfl) (by simp) ?_
          refine AllReadyH.cons (toArr_get _ 4 _ rfl) (fun K hK => ?_) ?_
          · go_simp
            generalize hWB6 : World.alloc _ _ = wB6
            have B6 := Lib.hid (Blk.new3 hWB6 R.out.lt)
            (try have B7 := Lib.hid (B7.out.grow (gb_alloc' (gb_refl _ _) hWB6)))
            (try have HW := Lib.hid (HW.out.grown (gb_alloc' (gb_refl _ _) hWB6) hgne))
            have G := Lib.hid (gb_alloc' G.out hWB6)
            have R := Lib.hid (R.out.alloc' hWB6)
            clear hWB6
            refine hK.out _ _ ?_ (fun hHeld2 => ?_)
            · (try dsimp only)
              all_goals exact True.intro
            clear hK K hHeld
            have hHeld := hHeld2
            clear hHeld2
            (try simp only [Act.put, List.setIfInBounds_toArray, List.set_cons_zero, List.set_cons_succ])
            refine wpAnyH_ready (rs := [9]) (by kernel_rfl) (by simp) ?_
            refine AllReadyH.cons (toArr_get _ 9 _ rfl) (fun K hK => ?_) ?_
            · have l11 := B7.out.at6 u u0 up
              go_simp
              clear l11
              refine hK.out _ _ ?_ (fun hHeld2 => ?_)
              · (try dsimp only)
                all_goals exact True.intro
              clear hK K hHeld
              have hHeld := hHeld2
              clear hHeld2
              (try simp only [Act.put, List.setIfInBounds_toArray, List.set_cons_zero, List.set_cons_succ])
              refine wpAnyH_take (i := 10) (v := ?_) (toArr_get _ 10 _ rfl) (by kernel_rfl) (by kernel_rfl) (by kernel_rfl) (fun _ _ _ h => h) (Or.inl ⟨by rfl, ?_⟩) (by assumption) ?_
              rotate_left
              · (intro w hSw; (try dsimp only at hSw); go_simp; (try with_reducible rfl))
              (try simp only [Act.put, List.setIfInBounds_toArray, List.set_cons_zero, List.set_cons_succ])
              refine wpAnyH_ready (rs := [11]) (by kernel_rfl) (by simp) ?_
              refine AllReadyH.cons (toArr_get _ 11 _ rfl) (fun K hK => ?_) ?_
              · have l13 := B6.out.at3 (sel6 u) s0 s1
                go_simp
                clear l13
                refine hK.out _ _ ?_ (fun hHeld2 => ?_)
                · (try dsimp only)
                  all_goals exact True.intro
                clear hK K hHeld
                have hHeld := hHeld2
                clear hHeld2
                (try simp only [Act.put, List.setIfInBounds_toArray, List.set_cons_zero, List.set_cons_succ])
                refine wpAnyH_take (i := 13) (v := ?_) (toArr_get _ 13 _ rfl) (by kernel_rfl) (by kernel_rfl) (by kernel_rfl) (fun _ _ _ h => h) (Or.inl ⟨by rfl, ?_⟩) (by assumption) ?_
                rotate_left
                · (intro w hSw; (try dsimp only at hSw); go_simp; (try with_reducible rfl))
                (try simp only [Act.put, List.setIfInBounds_toArray, List.set_cons_zero, List.set_cons_succ])
                refine wpAnyH_done (by kernel_rfl) ?_ _
                refine NoPanic.normal ?_
                go_wp2_with fail
                go_ret2
                have bd := sel3_in (u := sel6 u) (x := x) (y := -1) (z := 121) (lo := -1) (hi := 121) (by omega) (by omega) (by omega) (by omega) (by omega) (by omega)
                exact ⟨g, cap2, ts, _, rfl, bd.1, bd.2, hlen, hlc, hcm, HW.out, HB1.out.trans (gb_to_below G.out (Nat.le_refl _) HB1.out.size)⟩
              exact AllReadyH.nil
            exact AllReadyH.nil
          refine AllReadyH.cons (toArr_get _ 9 _ rfl) (fun K hK => ?_) ?_
          · have l11 := B7.out.at6 u u0 up
            go_simp
            clear l11
            refine hK.out _ _ ?_ (fun hHeld2 => ?_)
            · (try dsimp only)
              all_goals exact True.intro
            clear hK K hHeld
            have hHeld := hHeld2
            clear hHeld2
            (try simp only [Act.put, List.setIfInBounds_toArray, List.set_cons_zero, List.set_cons_succ])
            refine wpAnyH_ready (rs := [4]) (by kernel_rfl) (by simp) ?_
            refine AllReadyH.cons (toArr_get _ 4 _ rfl) (fun K hK => ?_) ?_
            · go_simp
              generalize hWB6 : World.alloc _ _ = wB6
              have B6 := Lib.hid (Blk.new3 hWB6 R.out.lt)
              (try have B7 := Lib.hid (B7.out.grow (gb_alloc' (gb_refl _ _) hWB6)))
              (try have HW := Lib.hid (HW.out.grown (gb_alloc' (gb_refl _ _) hWB6) hgne))
              have G := Lib.hid (gb_alloc' G.out hWB6)
              have R := Lib.hid (R.out.alloc' hWB6)
              clear hWB6
              refine hK.out _ _ ?_ (fun hHeld2 => ?_)
              · (try dsimp only)
                all_goals exact True.intro
              clear hK K hHeld
              have hHeld := hHeld2
              clear hHeld2
              (try simp only [Act.put, List.setIfInBounds_toArray, List.set_cons_zero, List.set_cons_succ])
              refine wpAnyH_take (i := 10) (v := ?_) (toArr_get _ 10 _ rfl) (by kernel_rfl) (by kernel_rfl) (by kernel_rfl) (fun _ _ _ h => h) (Or.inl ⟨by rfl, ?_⟩) (by assumption) ?_
              rotate_left
              · (intro w hSw; (try dsimp only at hSw); go_simp; (try with_reducible rfl))
              (try simp only [Act.put, List.setIfInBounds_toArray, List.set_cons_zero, List.set_cons_succ])
              refine wpAnyH_ready (rs := [11]) (by kernel_rfl) (by simp) ?_
              refine AllReadyH.cons (toArr_get _ 11 _ rfl) (fun K hK => ?_) ?_
              · have l13 := B6.out.at3 (sel6 u) s0 s1
                go_simp
                clear l13
                refine hK.out _ _ ?_ (fun hHeld2 => ?_)
                · (try dsimp only)
                  all_goals exact True.intro
                clear hK K hHeld
                have hHeld := hHeld2
                clear hHeld2
                (try simp only [Act.put, List.setIfInBounds_toArray, List.set_cons_zero, List.set_cons_succ])
                refine wpAnyH_take (i := 13) (v := ?_) (toArr_get _ 13 _ rfl) (by kernel_rfl) (by kernel_rfl) (by kernel_rfl) (fun _ _ _ h => h) (Or.inl ⟨by rfl, ?_⟩) (by assumption) ?_
                rotate_left
                · (intro w hSw; (try dsimp only at hSw); go_simp; (try with_reducible rfl))
                (try simp only [Act.put, List.setIfInBounds_toArray, List.set_cons_zero, List.set_cons_succ])
                refine wpAnyH_done (by kernel_rfl) ?_ _
                refine NoPanic.normal ?_
                go_wp2_with fail
                go_ret2
                have bd := sel3_in (u := sel6 u) (x := x) (y := -1) (z := 121) (lo := -1) (hi := 121) (by omega) (by omega) (by omega) (by omega) (by omega) (by omega)
                exact ⟨g, cap2, ts, _, rfl, bd.1, bd.2, hlen, hlc, hcm, HW.out, HB1.out.trans (gb_to_below G.out (Nat.le_refl _) HB1.out.size)⟩
              exact AllReadyH.nil
            exact AllReadyH.nil
          exact AllReadyH.nil
        exact AllReadyH.nil
      exact AllReadyH.nil
    exact AllReadyH.nil
  exact AllReadyH.nil

end Go.Proofs.Ytpnfbgbbmpacfaa
