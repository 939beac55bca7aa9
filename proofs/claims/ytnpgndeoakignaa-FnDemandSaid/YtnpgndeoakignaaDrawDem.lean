/- Contract of spec.DrawDemand: a task set and an interval length are drawn. What is drawn is not told, only its bounds. Condition: the argument is a slice of bytes. -/
import Derived.Test.YtnpgndeoakignaaDrawSet
namespace Go.Proofs.Ytnpgndeoakignaa
open Go.RowKit

/-- Block b holds these numbers, and it is not the reader. -/
def Blk (w : World) (rb b : Nat) (vs : List Int) : Prop :=
  b ≠ rb ∧ b < w.heap.size ∧ ∀ (j : Nat) (v : Int), vs[j]? = some v → w.cell? ⟨b, j, none⟩ = some (.int .i64 v)
theorem Blk.grow {w w' : World} {rb b : Nat} {vs : List Int} (h : Blk w rb b vs) (hg : w.grownBy w' (some rb)) : Blk w' rb b vs :=
  ⟨h.1, Nat.lt_of_lt_of_le h.2.1 hg.size, fun j v hj => (gb_cell hg (p := ⟨b, j, none⟩) h.2.1 h.1).trans (h.2.2 j v hj)⟩
theorem Blk.new6 {w w' : World} {rb t : Nat} {a b c d e f : Int} (h : w.alloc (.cells #[.int .i64 a, .int .i64 b, .int .i64 c, .int .i64 d, .int .i64 e, .int .i64 f] t) = w') (hr : rb < w.heap.size) : Blk w' rb w.heap.size [a, b, c, d, e, f] := by
  subst h
  refine ⟨by omega, by simp, fun j v hj => ?_⟩
  have : j < 6 := by simpa using (List.getElem?_eq_some_iff.mp hj).1
  rcases (by omega : j = 0 ∨ j = 1 ∨ j = 2 ∨ j = 3 ∨ j = 4 ∨ j = 5) with rfl | rfl | rfl | rfl | rfl | rfl <;> simp at hj <;> subst hj <;> simp [go_sem]
theorem Blk.new3 {w w' : World} {rb t : Nat} {a b c : Int} (h : w.alloc (.cells #[.int .i64 a, .int .i64 b, .int .i64 c] t) = w') (hr : rb < w.heap.size) : Blk w' rb w.heap.size [a, b, c] := by
  subst h
  refine ⟨by omega, by simp, fun j v hj => ?_⟩
  have : j < 3 := by simpa using (List.getElem?_eq_some_iff.mp hj).1
  rcases (by omega : j = 0 ∨ j = 1 ∨ j = 2) with rfl | rfl | rfl <;> simp at hj <;> subst hj <;> simp [go_sem]
theorem gb_alloc' {a w w' : World} {rb : Nat} {o : Obj} (h : a.grownBy w (some rb)) (e : w.alloc o = w') : a.grownBy w' (some rb) := e ▸ gb_alloc h o
theorem gb_drew' {w w' : World} {rb : Nat} (e : w.drew = w') : w.grownBy w' (some rb) := e ▸ gb_drew (gb_refl _ _)
theorem Rd.alloc' {w w' : World} {rb p : Nat} {o : Obj} (h : Rd w rb p) (e : w.alloc o = w') : Rd w' rb p := e ▸ h.alloc o
theorem Rd.drew' {w w' : World} {rb p : Nat} (h : Rd w rb p) (e : w.drew = w') : Rd w' rb p := e ▸ h.drew
def sel6 (u : Int) : Int := if u = 4 then 1 else if u = 5 then 2 else 0
theorem sel6_lo (u : Int) : 0 ≤ sel6 u := by unfold sel6; split; omega; split <;> omega
theorem sel6_hi (u : Int) : sel6 u < 3 := by unfold sel6; split; omega; split <;> omega
theorem Blk.at6 {w : World} {rb b : Nat} (h : Blk w rb b [0, 0, 0, 0, 1, 2]) (u : Int) (h0 : 0 ≤ u) (h1 : u < 6) : w.cell? ⟨b, u.toNat, none⟩ = some (.int .i64 (sel6 u)) := by
  refine h.2.2 _ _ ?_
  rcases (by omega : u = 0 ∨ u = 1 ∨ u = 2 ∨ u = 3 ∨ u = 4 ∨ u = 5) with rfl | rfl | rfl | rfl | rfl | rfl <;> simp [sel6]
theorem Blk.at3 {w : World} {rb b : Nat} {x y z : Int} (h : Blk w rb b [x, y, z]) (u : Int) (h0 : 0 ≤ u) (h1 : u < 3) : w.cell? ⟨b, u.toNat, none⟩ = some (.int .i64 (sel3 u x y z)) := by
  refine h.2.2 _ _ ?_
  rcases (by omega : u = 0 ∨ u = 1 ∨ u = 2) with rfl | rfl | rfl <;> simp [sel3]
theorem sel3_in {u x y z lo hi : Int} (a1 : lo ≤ x) (a2 : x ≤ hi) (b1 : lo ≤ y) (b2 : y ≤ hi) (c1 : lo ≤ z) (c2 : z ≤ hi) : lo ≤ sel3 u x y z ∧ sel3 u x y z ≤ hi := by
  unfold sel3
  split
  · exact ⟨a1, a2⟩
  · split
    · exact ⟨b1, b2⟩
    · exact ⟨c1, c2⟩
/-- The drawn row is not the reader's block, whose first cell is a slice. -/
theorem Row.gb {w w' : World} {rb p g : Nat} {ts : List (Int × Int × Int)} (h : Row w (some ⟨g, 0, none⟩) ts) (hr : Rd w rb p) (hg : w.grownBy w' (some rb)) : Row w' (some ⟨g, 0, none⟩) ts := by
  cases ts with
  | nil => intro k t hk; simp at hk
  | cons t0 tl =>
    have hne : g ≠ rb := by
      rintro rfl
      obtain ⟨b, off, hbo, _, h0, _⟩ := h 0 t0 rfl
      obtain ⟨rfl, rfl⟩ : g = b ∧ 0 = off := by simpa using hbo
      obtain ⟨a, len, cap, q, _, _, _, _, h5, _⟩ := hr
      have := h0.symm.trans h5
      simp at this
    intro k t hk
    obtain ⟨b, off, hbo, hlt, h0, h1, h2⟩ := h k t hk
    obtain ⟨rfl, rfl⟩ : g = b ∧ 0 = off := by simpa using hbo
    exact ⟨g, 0, rfl, Nat.lt_of_lt_of_le hlt hg.size, (gb_cell hg (p := ⟨g, 0 + k * 3, none⟩) hlt hne).trans h0, (gb_cell hg (p := ⟨g, 0 + k * 3 + 1, none⟩) hlt hne).trans h1, (gb_cell hg (p := ⟨g, 0 + k * 3 + 2, none⟩) hlt hne).trans h2⟩

/-- A task set was drawn, not nil, and a length. -/
def GotAt (w : World) (e : Ending) (w' : World) : Prop :=
  ∃ (g cap : Nat) (ts : List (Int × Int × Int)) (x : Int), e = .returned (.tuple #[.slice (some ⟨g, 0, none⟩) ts.length cap, .int .i64 x]) ∧ -1 ≤ x ∧ x ≤ 1785 ∧ ts.length ≤ 12 ∧ ts.length ≤ cap ∧ cap ≤ maxLen ∧ Row w' (some ⟨g, 0, none⟩) ts ∧ Below w.heap.size w w'

set_option maxHeartbeats 4000000 in
/-- spec.DrawDemand. -/
theorem drawDemand_some (a : Option Addr) (len cap : Nat) (w : World) (hb : Byts w a len cap) :
    Calls Try.prog 15 #[.slice a len cap] w (GotAt w) := by
  obtain ⟨hb, hc, hm⟩ := hb
  have HB := Lib.hid hb
  clear hb
  go_enter Try.func15, Try.ntmps15
  go_wp2_with fail
  refine (l20Open_any _ _ _ _ HB.out hc hm).mono ?_
  rintro e w1 ⟨rfl, hr, hb1, hs1⟩
  have HB1 := Lib.hid hb1
  clear hs1 hb1
  have HR := Lib.hid hr
  clear hr
  go_wp2_with fail
  refine (l20Set_any w.heap.size 0 12 _ HR.out (by omega)).mono ?_
  rintro e w2 ⟨a2, cap2, ts, rfl, hlen, hlc, hcm, hrow, hg, hr2, g, rfl⟩
  have HW := Lib.hid hrow
  have HG2 := Lib.hid hg
  have HR2 := Lib.hid hr2
  clear hrow hg hr2
  go_wp2_with fail
  --REGION A
  refine wp_region_noPanic ?_
  refine wp_region_held_drew (S := fun _ => True) (by kernel_rfl) ?_ (fun hHeld => ?_)
  · (try dsimp only)
    all_goals exact True.intro
  generalize hW0 : World.drew _ = w0
  have R := Lib.hid (HR2.out.drew' hW0)
  have G := Lib.hid (gb_drew' (rb := w.heap.size) hW0)
  clear hW0
  refine wpAnyH_take (i := 0) (v := ?_) (toArr_get _ 0 _ rfl) (by kernel_rfl) (by kernel_rfl) (by kernel_rfl) (fun _ _ _ h => h) (Or.inl ⟨by rfl, ?_⟩) (by assumption) ?_
  rotate_left
  · (intro w hSw; (try dsimp only at hSw); go_simp; (try with_reducible rfl))
  (try simp only [Act.put, List.setIfInBounds_toArray, List.set_cons_zero, List.set_cons_succ])
  refine wpAnyH_take (i := 1) (v := ?_) (toArr_get _ 1 _ rfl) (by kernel_rfl) (by kernel_rfl) (by kernel_rfl) (fun _ _ _ h => h) (Or.inl ⟨by rfl, ?_⟩) (by assumption) ?_
  rotate_left
  · (intro w hSw; (try dsimp only at hSw); go_simp; (try with_reducible rfl))
  (try simp only [Act.put, List.setIfInBounds_toArray, List.set_cons_zero, List.set_cons_succ])
  refine wpAnyH_take (i := 3) (v := ?_) (toArr_get _ 3 _ rfl) (by kernel_rfl) (by kernel_rfl) (by kernel_rfl) (fun _ _ _ h => h) (Or.inl ⟨by rfl, ?_⟩) (by assumption) ?_
  rotate_left
  · (intro w hSw; (try dsimp only at hSw); go_simp; (try with_reducible rfl))
  (try simp only [Act.put, List.setIfInBounds_toArray, List.set_cons_zero, List.set_cons_succ])
  refine wpAnyH_take (i := 8) (v := ?_) (toArr_get _ 8 _ rfl) (by kernel_rfl) (by kernel_rfl) (by kernel_rfl) (fun _ _ _ h => h) (Or.inl ⟨by rfl, ?_⟩) (by assumption) ?_
  rotate_left
  · (intro w hSw; (try dsimp only at hSw); go_simp; (try with_reducible rfl))
  (try simp only [Act.put, List.setIfInBounds_toArray, List.set_cons_zero, List.set_cons_succ])
  refine wpAnyH_ready (rs := [2, 7]) (by kernel_rfl) (by simp) ?_
  refine AllReadyH.cons (toArr_get _ 2 _ rfl) (fun K hK => ?_) ?_
  · go_simp
    go_at_call 39
    refine (pick_any w.heap.size 200 40 _ R.out (by omega)).mono ?_
    rintro e wx ⟨x, rfl, x0, x1, _, hgx, hrx⟩
    have xp := x1 (by decide)
    have G := Lib.hid (gb_trans G.out hgx)
    have R := Lib.hid hrx
    (try have B7 := Lib.hid (B7.out.grow hgx))
    (try have B6 := Lib.hid (B6.out.grow hgx))
    clear hgx hrx x1
    go_wp2_with fail
    refine hK.out _ _ ?_ (fun hHeld2 => ?_)
    · (try dsimp only)
      all_goals exact True.intro
    clear hK K hHeld
    have hHeld := hHeld2
    clear hHeld2
    (try simp only [Act.put, List.setIfInBounds_toArray, List.set_cons_zero, List.set_cons_succ])
    refine wpAnyH_ready (rs := [4, 7]) (by kernel_rfl) (by simp) ?_
    refine AllReadyH.cons (toArr_get _ 4 _ rfl) (fun K hK => ?_) ?_
    · go_simp
      go_at_call 39
      refine (pick_any w.heap.size 201 256 _ R.out (by omega)).mono ?_
      rintro e wy ⟨y, rfl, y0, y1, _, hgy, hry⟩
      have yp := y1 (by decide)
      have G := Lib.hid (gb_trans G.out hgy)
      have R := Lib.hid hry
      (try have B7 := Lib.hid (B7.out.grow hgy))
      (try have B6 := Lib.hid (B6.out.grow hgy))
      clear hgy hry y1
      have hy : IntKind.i64.wrap (y * 7) = y * 7 := IntWalk.i64_in _ (by omega)
      go_wp2_with fail
      refine hK.out _ _ ?_ (fun hHeld2 => ?_)
      · (try dsimp only)
        all_goals exact True.intro
      clear hK K hHeld
      have hHeld := hHeld2
      clear hHeld2
      (try simp only [Act.put, List.setIfInBounds_toArray, List.set_cons_zero, List.set_cons_succ])
      refine wpAnyH_take (i := 5) (v := ?_) (toArr_get _ 5 _ rfl) (by kernel_rfl) (by kernel_rfl) (by kernel_rfl) (fun _ _ _ h => h) (Or.inl ⟨by rfl, ?_⟩) (by assumption) ?_
      rotate_left
      · (intro w hSw; (try dsimp only at hSw); go_simp; (try with_reducible rfl))
      (try simp only [Act.put, List.setIfInBounds_toArray, List.set_cons_zero, List.set_cons_succ])
      refine wpAnyH_ready (rs := [6, 7, 9]) (by kernel_rfl) (by simp) ?_
      refine AllReadyH.cons (toArr_get _ 6 _ rfl) (fun K hK => ?_) ?_
      · go_simp
        generalize hWB6 : World.alloc _ _ = wB6
        have B6 := Lib.hid (Blk.new3 hWB6 R.out.lt)
        (try have B7 := Lib.hid (B7.out.grow (gb_alloc' (gb_refl _ _) hWB6)))
        have G := Lib.hid (gb_alloc' G.out hWB6)
        have R := Lib.hid (R.out.alloc' hWB6)
        clear hWB6
        refine hK.out _ _ ?_ (fun hHeld2 => ?_)
        · (try dsimp only)
          all_goals exact True.intro
        clear hK K hHeld
        have hHeld := hHeld2
        clear hHeld2
        (try simp only [Act.put, List.setIfInBounds_toArray, List.set_cons_zero, List.set_cons_succ])
        refine wpAnyH_ready (rs := [7, 9]) (by kernel_rfl) (by simp) ?_
        refine AllReadyH.cons (toArr_get _ 7 _ rfl) (fun K hK => ?_) ?_
        · go_simp
          generalize hWB7 : World.alloc _ _ = wB7
          have B7 := Lib.hid (Blk.new6 hWB7 R.out.lt)
          (try have B6 := Lib.hid (B6.out.grow (gb_alloc' (gb_refl _ _) hWB7)))
          have G := Lib.hid (gb_alloc' G.out hWB7)
          have R := Lib.hid (R.out.alloc' hWB7)
          clear hWB7
          refine hK.out _ _ ?_ (fun hHeld2 => ?_)
          · (try dsimp only)
            all_goals exact True.intro
          clear hK K hHeld
          have hHeld := hHeld2
          clear hHeld2
          (try simp only [Act.put, List.setIfInBounds_toArray, List.set_cons_zero, List.set_cons_succ])
          refine wpAnyH_ready (rs := [9]) (by kernel_rfl) (by simp) ?_
          refine AllReadyH.cons (toArr_get _ 9 _ rfl) (fun K hK => ?_) ?_
          · go_simp
            go_at_call 39
            refine (pick_any w.heap.size 202 6 _ R.out (by omega)).mono ?_
            rintro e wu ⟨u, rfl, u0, u1, _, hgu, hru⟩
            have up := u1 (by decide)
            have G := Lib.hid (gb_trans G.out hgu)
            have R := Lib.hid hru
            (try have B7 := Lib.hid (B7.out.grow hgu))
            (try have B6 := Lib.hid (B6.out.grow hgu))
            clear hgu hru u1
            have s0 := sel6_lo u
            have s1 := sel6_hi u
            go_wp2_with fail
            refine hK.out _ _ ?_ (fun hHeld2 => ?_)
            · (try dsimp only)
              all_goals exact True.intro
            clear hK K hHeld
            have hHeld := hHeld2
            clear hHeld2
            (try simp only [Act.put, List.setIfInBounds_toArray, List.set_cons_zero, List.set_cons_succ])
            refine wpAnyH_take (i := 10) (v := ?_) (toArr_get _ 10 _ rfl) (by kernel_rfl) (by kernel_rfl) (by kernel_rfl) (fun _ _ _ h => h) (Or.inl ⟨by rfl, ?_⟩) (by assumption) ?_
            rotate_left
            · (intro w hSw; (try dsimp only at hSw); go_simp; (try with_reducible rfl))
            (try simp only [Act.put, List.setIfInBounds_toArray, List.set_cons_zero, List.set_cons_succ])
            refine wpAnyH_take (i := 14) (v := ?_) (toArr_get _ 14 _ rfl) (by kernel_rfl) (by kernel_rfl) (by kernel_rfl) (fun _ _ _ h => h) (Or.inl ⟨by rfl, ?_⟩) (by assumption) ?_
            rotate_left
            · (intro w hSw; (try dsimp only at hSw); go_simp; (try with_reducible rfl))
            (try simp only [Act.put, List.setIfInBounds_toArray, List.set_cons_zero, List.set_cons_succ])
            refine wpAnyH_ready (rs := [11]) (by kernel_rfl) (by simp) ?_
            refine AllReadyH.cons (toArr_get _ 11 _ rfl) (fun K hK => ?_) ?_
            · have l11 := B7.out.at6 u u0 up
              go_simp
              clear l11
              refine hK.out _ _ ?_ (fun hHeld2 => ?_)
              · (try dsimp only)
                all_goals exact True.intro
              clear hK K hHeld
              have hHeld := hHeld2
              clear hHeld2
              (try simp only [Act.put, List.setIfInBounds_toArray, List.set_cons_zero, List.set_cons_succ])
              refine wpAnyH_take (i := 12) (v := ?_) (toArr_get _ 12 _ rfl) (by kernel_rfl) (by kernel_rfl) (by kernel_rfl) (fun _ _ _ h => h) (Or.inl ⟨by rfl, ?_⟩) (by assumption) ?_
              rotate_left
              · (intro w hSw; (try dsimp only at hSw); go_simp; (try with_reducible rfl))
              (try simp only [Act.put, List.setIfInBounds_toArray, List.set_cons_zero, List.set_cons_succ])
              refine wpAnyH_ready (rs := [13]) (by kernel_rfl) (by simp) ?_
              refine AllReadyH.cons (toArr_get _ 13 _ rfl) (fun K hK => ?_) ?_
              · have l13 := B6.out.at3 (sel6 u) s0 s1
                go_simp
                clear l13
                refine hK.out _ _ ?_ (fun hHeld2 => ?_)
                · (try dsimp only)
                  all_goals exact True.intro
                clear hK K hHeld
                have hHeld := hHeld2
                clear hHeld2
                (try simp only [Act.put, List.setIfInBounds_toArray, List.set_cons_zero, List.set_cons_succ])
                refine wpAnyH_take (i := 15) (v := ?_) (toArr_get _ 15 _ rfl) (by kernel_rfl) (by kernel_rfl) (by kernel_rfl) (fun _ _ _ h => h) (Or.inl ⟨by rfl, ?_⟩) (by assumption) ?_
                rotate_left
                · (intro w hSw; (try dsimp only at hSw); go_simp; (try with_reducible rfl))
                (try simp only [Act.put, List.setIfInBounds_toArray, List.set_cons_zero, List.set_cons_succ])
                refine wpAnyH_done (by kernel_rfl) ?_ _
                refine NoPanic.normal ?_
                go_wp2_with fail
                go_ret2
                have bd := sel3_in (u := sel6 u) (x := x) (y := y * 7) (z := -1) (lo := -1) (hi := 1785) (by omega) (by omega) (by omega) (by omega) (by omega) (by omega)
                exact ⟨g, cap2, ts, _, rfl, bd.1, bd.2, hlen, hlc, hcm, HW.out.gb HR2.out G.out, HB1.out.trans (gb_to_below (gb_trans HG2.out G.out) (Nat.le_refl _) HB1.out.size)⟩
              exact AllReadyH.nil
            exact AllReadyH.nil
          exact AllReadyH.nil
        refine AllReadyH.cons (toArr_get _ 9 _ rfl) (fun K hK => ?_) ?_
        · go_simp
          go_at_call 39
          refine (pick_any w.heap.size 202 6 _ R.out (by omega)).mono ?_
          rintro e wu ⟨u, rfl, u0, u1, _, hgu, hru⟩
          have up := u1 (by decide)
          have G := Lib.hid (gb_trans G.out hgu)
          have R := Lib.hid hru
          (try have B7 := Lib.hid (B7.out.grow hgu))
          (try have B6 := Lib.hid (B6.out.grow hgu))
          clear hgu hru u1
          have s0 := sel6_lo u
          have s1 := sel6_hi u
          go_wp2_with fail
          refine hK.out _ _ ?_ (fun hHeld2 => ?_)
          · (try dsimp only)
            all_goals exact True.intro
          clear hK K hHeld
          have hHeld := hHeld2
          clear hHeld2
          (try simp only [Act.put, List.setIfInBounds_toArray, List.set_cons_zero, List.set_cons_succ])
          refine wpAnyH_take (i := 14) (v := ?_) (toArr_get _ 14 _ rfl) (by kernel_rfl) (by kernel_rfl) (by kernel_rfl) (fun _ _ _ h => h) (Or.inl ⟨by rfl, ?_⟩) (by assumption) ?_
          rotate_left
          · (intro w hSw; (try dsimp only at hSw); go_simp; (try with_reducible rfl))
          (try simp only [Act.put, List.setIfInBounds_toArray, List.set_cons_zero, List.set_cons_succ])
          refine wpAnyH_ready (rs := [7]) (by kernel_rfl) (by simp) ?_
          refine AllReadyH.cons (toArr_get _ 7 _ rfl) (fun K hK => ?_) ?_
          · go_simp
            generalize hWB7 : World.alloc _ _ = wB7
            have B7 := Lib.hid (Blk.new6 hWB7 R.out.lt)
            (try have B6 := Lib.hid (B6.out.grow (gb_alloc' (gb_refl _ _) hWB7)))
            have G := Lib.hid (gb_alloc' G.out hWB7)
            have R := Lib.hid (R.out.alloc' hWB7)
            clear hWB7
            refine hK.out _ _ ?_ (fun hHeld2 => ?_)
            · (try dsimp only)
              all_goals exact True.intro
            clear hK K hHeld
            have hHeld := hHeld2
            clear hHeld2
            (try simp only [Act.put, List.setIfInBounds_toArray, List.set_cons_zero, List.set_cons_succ])
            refine wpAnyH_take (i := 10) (v := ?_) (toArr_get _ 10 _ rfl) (by kernel_rfl) (by kernel_rfl) (by kernel_rfl) (fun _ _ _ h => h) (Or.inl ⟨by rfl, ?_⟩) (by assumption) ?_
            rotate_left
            · (intro w hSw; (try dsimp only at hSw); go_simp; (try with_reducible rfl))
            (try simp only [Act.put, List.setIfInBounds_toArray, List.set_cons_zero, List.set_cons_succ])
            refine wpAnyH_ready (rs := [11]) (by kernel_rfl) (by simp) ?_
            refine AllReadyH.cons (toArr_get _ 11 _ rfl) (fun K hK => ?_) ?_
            · have l11 := B7.out.at6 u u0 up
              go_simp
              clear l11
              refine hK.out _ _ ?_ (fun hHeld2 => ?_)
              · (try dsimp only)
                all_goals exact True.intro
              clear hK K hHeld
              have hHeld := hHeld2
              clear hHeld2
              (try simp only [Act.put, List.setIfInBounds_toArray, List.set_cons_zero, List.set_cons_succ])
              refine wpAnyH_take (i := 12) (v := ?_) (toArr_get _ 12 _ rfl) (by kernel_rfl) (by kernel_rfl) (by kernel_rfl) (fun _ _ _ h => h) (Or.inl ⟨by rfl, ?_⟩) (by assumption) ?_
              rotate_left
              · (intro w hSw; (try dsimp only at hSw); go_simp; (try with_reducible rfl))
              (try simp only [Act.put, List.setIfInBounds_toArray, List.set_cons_zero, List.set_cons_succ])
              refine wpAnyH_ready (rs := [13]) (by kernel_rfl) (by simp) ?_
              refine AllReadyH.cons (toArr_get _ 13 _ rfl) (fun K hK => ?_) ?_
              · have l13 := B6.out.at3 (sel6 u) s0 s1
                go_simp
                clear l13
                refine hK.out _ _ ?_ (fun hHeld2 => ?_)
                · (try dsimp only)
                  all_goals exact True.intro
                clear hK K hHeld
                have hHeld := hHeld2
                clear hHeld2
                (try simp only [Act.put, List.setIfInBounds_toArray, List.set_cons_zero, List.set_cons_succ])
                refine wpAnyH_take (i := 15) (v := ?_) (toArr_get _ 15 _ rfl) (by kernel_rfl) (by kernel_rfl) (by kernel_rfl) (fun _ _ _ h => h) (Or.inl ⟨by rfl, ?_⟩) (by assumption) ?_
                rotate_left
                · (intro w hSw; (try dsimp only at hSw); go_simp; (try with_reducible rfl))
                (try simp only [Act.put, List.setIfInBounds_toArray, List.set_cons_zero, List.set_cons_succ])
                refine wpAnyH_done (by kernel_rfl) ?_ _
                refine NoPanic.normal ?_
                go_wp2_with fail
                go_ret2
                have bd := sel3_in (u := sel6 u) (x := x) (y := y * 7) (z := -1) (lo := -1) (hi := 1785) (by omega) (by omega) (by omega) (by omega) (by omega) (by omega)
                exact ⟨g, cap2, ts, _, rfl, bd.1, bd.2, hlen, hlc, hcm, HW.out.gb HR2.out G.out, HB1.out.trans (gb_to_below (gb_trans HG2.out G.out) (Nat.le_refl _) HB1.out.size)⟩
              exact AllReadyH.nil
            exact AllReadyH.nil
          exact AllReadyH.nil
        exact AllReadyH.nil
      refine AllReadyH.cons (toArr_get _ 7 _ rfl) (fun K hK => ?_) ?_
      · go_simp
        generalize hWB7 : World.alloc _ _ = wB7
        have B7 := Lib.hid (Blk.new6 hWB7 R.out.lt)
        (try have B6 := Lib.hid (B6.out.grow (gb_alloc' (gb_refl _ _) hWB7)))
        have G := Lib.hid (gb_alloc' G.out hWB7)
        have R := Lib.hid (R.out.alloc' hWB7)
        clear hWB7
        refine hK.out _ _ ?_ (fun hHeld2 => ?_)
        · (try dsimp only)
          all_goals exact True.intro
        clear hK K hHeld
        have hHeld := hHeld2
        clear hHeld2
        (try simp only [Act.put, List.setIfInBounds_toArray, List.set_cons_zero, List.set_cons_succ])
        refine wpAnyH_ready (rs := [6, 9]) (by kernel_rfl) (by simp) ?_
        refine AllReadyH.cons (toArr_get _ 6 _ rfl) (fun K hK => ?_) ?_
        · go_simp
          generalize hWB6 : World.alloc _ _ = wB6
          have B6 := Lib.hid (Blk.new3 hWB6 R.out.lt)
          (try have B7 := Lib.hid (B7.out.grow (gb_alloc' (gb_refl _ _) hWB6)))
          have G := Lib.hid (gb_alloc' G.out hWB6)
          have R := Lib.hid (R.out.alloc' hWB6)
          clear hWB6
          refine hK.out _ _ ?_ (fun hHeld2 => ?_)
          · (try dsimp only)
            all_goals exact True.intro
          clear hK K hHeld
          have hHeld := hHeld2
          clear hHeld2
          (try simp only [Act.put, List.setIfInBounds_toArray, List.set_cons_zero, List.set_cons_succ])
          refine wpAnyH_ready (rs := [9]) (by kernel_rfl) (by simp) ?_
          refine AllReadyH.cons (toArr_get _ 9 _ rfl) (fun K hK => ?_) ?_
          · go_simp
            go_at_call 39
            refine (pick_any w.heap.size 202 6 _ R.out (by omega)).mono ?_
            rintro e wu ⟨u, rfl, u0, u1, _, hgu, hru⟩
            have up := u1 (by decide)
            have G := Lib.hid (gb_trans G.out hgu)
            have R := Lib.hid hru
            (try have B7 := Lib.hid (B7.out.grow hgu))
            (try have B6 := Lib.hid (B6.out.grow hgu))
            clear hgu hru u1
            have s0 := sel6_lo u
            have s1 := sel6_hi u
            go_wp2_with fail
            refine hK.out _ _ ?_ (fun hHeld2 => ?_)
            · (try dsimp only)
              all_goals exact True.intro
            clear hK K hHeld
            have hHeld := hHeld2
            clear hHeld2
            (try simp only [Act.put, List.setIfInBounds_toArray, List.set_cons_zero, List.set_cons_succ])
            refine wpAnyH_take (i := 10) (v := ?_) (toArr_get _ 10 _ rfl) (by kernel_rfl) (by kernel_rfl) (by kernel_rfl) (fun _ _ _ h => h) (Or.inl ⟨by rfl, ?_⟩) (by assumption) ?_
            rotate_left
            · (intro w hSw; (try dsimp only at hSw); go_simp; (try with_reducible rfl))
            (try simp only [Act.put, List.setIfInBounds_toArray, List.set_cons_zero, List.set_cons_succ])
            refine wpAnyH_take (i := 14) (v := ?_) (toArr_get _ 14 _ rfl) (by kernel_rfl) (by kernel_rfl) (by kernel_rfl) (fun _ _ _ h => h) (Or.inl ⟨by rfl, ?_⟩) (by assumption) ?_
            rotate_left
            · (intro w hSw; (try dsimp only at hSw); go_simp; (try with_reducible rfl))
            (try simp only [Act.put, List.setIfInBounds_toArray, List.set_cons_zero, List.set_cons_succ])
            refine wpAnyH_ready (rs := [11]) (by kernel_rfl) (by simp) ?_
            refine AllReadyH.cons (toArr_get _ 11 _ rfl) (fun K hK => ?_) ?_
            · have l11 := B7.out.at6 u u0 up
              go_simp
              clear l11
              refine hK.out _ _ ?_ (fun hHeld2 => ?_)
              · (try dsimp only)
                all_goals exact True.intro
              clear hK K hHeld
              have hHeld := hHeld2
              clear hHeld2
              (try simp only [Act.put, List.setIfInBounds_toArray, List.set_cons_zero, List.set_cons_succ])
              refine wpAnyH_take (i := 12) (v := ?_) (toArr_get _ 12 _ rfl) (by kernel_rfl) (by kernel_rfl) (by kernel_rfl) (fun _ _ _ h => h) (Or.inl ⟨by rfl, ?_⟩) (by assumption) ?_
              rotate_left
              · (intro w hSw; (try dsimp only at hSw); go_simp; (try with_reducible rfl))
              (try simp only [Act.put, List.setIfInBounds_toArray, List.set_cons_zero, List.set_cons_succ])
              refine wpAnyH_ready (rs := [13]) (by kernel_rfl) (by simp) ?_
              refine AllReadyH.cons (toArr_get _ 13 _ rfl) (fun K hK => ?_) ?_
              · have l13 := B6.out.at3 (sel6 u) s0 s1
                go_simp
                clear l13
                refine hK.out _ _ ?_ (fun hHeld2 => ?_)
                · (try dsimp only)
                  all_goals exact True.intro
                clear hK K hHeld
                have hHeld := hHeld2
                clear hHeld2
                (try simp only [Act.put, List.setIfInBounds_toArray, List.set_cons_zero, List.set_cons_succ])
                refine wpAnyH_take (i := 15) (v := ?_) (toArr_get _ 15 _ rfl) (by kernel_rfl) (by kernel_rfl) (by kernel_rfl) (fun _ _ _ h => h) (Or.inl ⟨by rfl, ?_⟩) (by assumption) ?_
                rotate_left
                · (intro w hSw; (try dsimp only at hSw); go_simp; (try with_reducible rfl))
                (try simp only [Act.put, List.setIfInBounds_toArray, List.set_cons_zero, List.set_cons_succ])
                refine wpAnyH_done (by kernel_rfl) ?_ _
                refine NoPanic.normal ?_
                go_wp2_with fail
                go_ret2
                have bd := sel3_in (u := sel6 u) (x := x) (y := y * 7) (z := -1) (lo := -1) (hi := 1785) (by omega) (by omega) (by omega) (by omega) (by omega) (by omega)
                exact ⟨g, cap2, ts, _, rfl, bd.1, bd.2, hlen, hlc, hcm, HW.out.gb HR2.out G.out, HB1.out.trans (gb_to_below (gb_trans HG2.out G.out) (Nat.le_refl _) HB1.out.size)⟩
              exact AllReadyH.nil
            exact AllReadyH.nil
          exact AllReadyH.nil
        refine AllReadyH.cons (toArr_get _ 9 _ rfl) (fun K hK => ?_) ?_
        · go_simp
          go_at_call 39
          refine (pick_any w.heap.size 202 6 _ R.out (by omega)).mono ?_
          rintro e wu ⟨u, rfl, u0, u1, _, hgu, hru⟩
          have up := u1 (by decide)
          have G := Lib.hid (gb_trans G.out hgu)
          have R := Lib.hid hru
          (try have B7 := Lib.hid (B7.out.grow hgu))
          (try have B6 := Lib.hid (B6.out.grow hgu))
          clear hgu hru u1
          have s0 := sel6_lo u
          have s1 := sel6_hi u
          go_wp2_with fail
          refine hK.out _ _ ?_ (fun hHeld2 => ?_)
          · (try dsimp only)
            all_goals exact True.intro
          clear hK K hHeld
          have hHeld := hHeld2
          clear hHeld2
          (try simp only [Act.put, List.setIfInBounds_toArray, List.set_cons_zero, List.set_cons_succ])
          refine wpAnyH_take (i := 10) (v := ?_) (toArr_get _ 10 _ rfl) (by kernel_rfl) (by kernel_rfl) (by kernel_rfl) (fun _ _ _ h => h) (Or.inl ⟨by rfl, ?_⟩) (by assumption) ?_
          rotate_left
          · (intro w hSw; (try dsimp only at hSw); go_simp; (try with_reducible rfl))
          (try simp only [Act.put, List.setIfInBounds_toArray, List.set_cons_zero, List.set_cons_succ])
          refine wpAnyH_take (i := 14) (v := ?_) (toArr_get _ 14 _ rfl) (by kernel_rfl) (by kernel_rfl) (by kernel_rfl) (fun _ _ _ h => h) (Or.inl ⟨by rfl, ?_⟩) (by assumption) ?_
          rotate_left
          · (intro w hSw; (try dsimp only at hSw); go_simp; (try with_reducible rfl))
          (try simp only [Act.put, List.setIfInBounds_toArray, List.set_cons_zero, List.set_cons_succ])
          refine wpAnyH_ready (rs := [6, 11]) (by kernel_rfl) (by simp) ?_
          refine AllReadyH.cons (toArr_get _ 6 _ rfl) (fun K hK => ?_) ?_
          · go_simp
            generalize hWB6 : World.alloc _ _ = wB6
            have B6 := Lib.hid (Blk.new3 hWB6 R.out.lt)
            (try have B7 := Lib.hid (B7.out.grow (gb_alloc' (gb_refl _ _) hWB6)))
            have G := Lib.hid (gb_alloc' G.out hWB6)
            have R := Lib.hid (R.out.alloc' hWB6)
            clear hWB6
            refine hK.out _ _ ?_ (fun hHeld2 => ?_)
            · (try dsimp only)
              all_goals exact True.intro
            clear hK K hHeld
            have hHeld := hHeld2
            clear hHeld2
            (try simp only [Act.put, List.setIfInBounds_toArray, List.set_cons_zero, List.set_cons_succ])
            refine wpAnyH_ready (rs := [11]) (by kernel_rfl) (by simp) ?_
            refine AllReadyH.cons (toArr_get _ 11 _ rfl) (fun K hK => ?_) ?_
            · have l11 := B7.out.at6 u u0 up
              go_simp
              clear l11
              refine hK.out _ _ ?_ (fun hHeld2 => ?_)
              · (try dsimp only)
                all_goals exact True.intro
              clear hK K hHeld
              have hHeld := hHeld2
              clear hHeld2
              (try simp only [Act.put, List.setIfInBounds_toArray, List.set_cons_zero, List.set_cons_succ])
              refine wpAnyH_take (i := 12) (v := ?_) (toArr_get _ 12 _ rfl) (by kernel_rfl) (by kernel_rfl) (by kernel_rfl) (fun _ _ _ h => h) (Or.inl ⟨by rfl, ?_⟩) (by assumption) ?_
              rotate_left
              · (intro w hSw; (try dsimp only at hSw); go_simp; (try with_reducible rfl))
              (try simp only [Act.put, List.setIfInBounds_toArray, List.set_cons_zero, List.set_cons_succ])
              refine wpAnyH_ready (rs := [13]) (by kernel_rfl) (by simp) ?_
              refine AllReadyH.cons (toArr_get _ 13 _ rfl) (fun K hK => ?_) ?_
              · have l13 := B6.out.at3 (sel6 u) s0 s1
                go_simp
                clear l13
                refine hK.out _ _ ?_ (fun hHeld2 => ?_)
                · (try dsimp only)
                  all_goals exact True.intro
                clear hK K hHeld
                have hHeld := hHeld2
                clear hHeld2
                (try simp only [Act.put, List.setIfInBounds_toArray, List.set_cons_zero, List.set_cons_succ])
                refine wpAnyH_take (i := 15) (v := ?_) (toArr_get _ 15 _ rfl) (by kernel_rfl) (by kernel_rfl) (by kernel_rfl) (fun _ _ _ h => h) (Or.inl ⟨by rfl, ?_⟩) (by assumption) ?_
                rotate_left
                · (intro w hSw; (try dsimp only at hSw); go_simp; (try with_reducible rfl))
                (try simp only [Act.put, List.setIfInBounds_toArray, List.set_cons_zero, List.set_cons_succ])
                refine wpAnyH_done (by kernel_rfl) ?_ _
                refine NoPanic.normal ?_
                go_wp2_with fail
                go_ret2
                have bd := sel3_in (u := sel6 u) (x := x) (y := y * 7) (z := -1) (lo := -1) (hi := 1785) (by omega) (by omega) (by omega) (by omega) (by omega) (by omega)
                exact ⟨g, cap2, ts, _, rfl, bd.1, bd.2, hlen, hlc, hcm, HW.out.gb HR2.out G.out, HB1.out.trans (gb_to_below (gb_trans HG2.out G.out) (Nat.le_refl _) HB1.out.size)⟩
              exact AllReadyH.nil
            exact AllReadyH.nil
          refine AllReadyH.cons (toArr_get _ 11 _ rfl) (fun K hK => ?_) ?_
          · have l11 := B7.out.at6 u u0 up
            go_simp
            clear l11
            refine hK.out _ _ ?_ (fun hHeld2 => ?_)
            · (try dsimp only)
              all_goals exact True.intro
            clear hK K hHeld
            have hHeld := hHeld2
            clear hHeld2
            (try simp only [Act.put, List.setIfInBounds_toArray, List.set_cons_zero, List.set_cons_succ])
            refine wpAnyH_ready (rs := [6]) (by kernel_rfl) (by simp) ?_
            refine AllReadyH.cons (toArr_get _ 6 _ rfl) (fun K hK => ?_) ?_
            · go_simp
              generalize hWB6 : World.alloc _ _ = wB6
              have B6 := Lib.hid (Blk.new3 hWB6 R.out.lt)
              (try have B7 := Lib.hid (B7.out.grow (gb_alloc' (gb_refl _ _) hWB6)))
              have G := Lib.hid (gb_alloc' G.out hWB6)
              have R := Lib.hid (R.out.alloc' hWB6)
              clear hWB6
              refine hK.out _ _ ?_ (fun hHeld2 => ?_)
              · (try dsimp only)
                all_goals exact True.intro
              clear hK K hHeld
              have hHeld := hHeld2
              clear hHeld2
              (try simp only [Act.put, List.setIfInBounds_toArray, List.set_cons_zero, List.set_cons_succ])
              refine wpAnyH_take (i := 12) (v := ?_) (toArr_get _ 12 _ rfl) (by kernel_rfl) (by kernel_rfl) (by kernel_rfl) (fun _ _ _ h => h) (Or.inl ⟨by rfl, ?_⟩) (by assumption) ?_
              rotate_left
              · (intro w hSw; (try dsimp only at hSw); go_simp; (try with_reducible rfl))
              (try simp only [Act.put, List.setIfInBounds_toArray, List.set_cons_zero, List.set_cons_succ])
              refine wpAnyH_ready (rs := [13]) (by kernel_rfl) (by simp) ?_
              refine AllReadyH.cons (toArr_get _ 13 _ rfl) (fun K hK => ?_) ?_
              · have l13 := B6.out.at3 (sel6 u) s0 s1
                go_simp
                clear l13
                refine hK.out _ _ ?_ (fun hHeld2 => ?_)
                · (try dsimp only)
                  all_goals exact True.intro
                clear hK K hHeld
                have hHeld := hHeld2
                clear hHeld2
                (try simp only [Act.put, List.setIfInBounds_toArray, List.set_cons_zero, List.set_cons_succ])
                refine wpAnyH_take (i := 15) (v := ?_) (toArr_get _ 15 _ rfl) (by kernel_rfl) (by kernel_rfl) (by kernel_rfl) (fun _ _ _ h => h) (Or.inl ⟨by rfl, ?_⟩) (by assumption) ?_
                rotate_left
                · (intro w hSw; (try dsimp only at hSw); go_simp; (try with_reducible rfl))
                (try simp only [Act.put, List.setIfInBounds_toArray, List.set_cons_zero, List.set_cons_succ])
                refine wpAnyH_done (by kernel_rfl) ?_ _
                refine NoPanic.normal ?_
                go_wp2_with fail
                go_ret2
                have bd := sel3_in (u := sel6 u) (x := x) (y := y * 7) (z := -1) (lo := -1) (hi := 1785) (by omega) (by omega) (by omega) (by omega) (by omega) (by omega)
                exact ⟨g, cap2, ts, _, rfl, bd.1, bd.2, hlen, hlc, hcm, HW.out.gb HR2.out G.out, HB1.out.trans (gb_to_below (gb_trans HG2.out G.out) (Nat.le_refl _) HB1.out.size)⟩
              exact AllReadyH.nil
            exact AllReadyH.nil
          exact AllReadyH.nil
        exact AllReadyH.nil
      refine AllReadyH.cons (toArr_get _ 9 _ rfl) (fun K hK => ?_) ?_
      · go_simp
        go_at_call 39
        refine (pick_any w.heap.size 202 6 _ R.out (by omega)).mono ?_
        rintro e wu ⟨u, rfl, u0, u1, _, hgu, hru⟩
        have up := u1 (by decide)
        have G := Lib.hid (gb_trans G.out hgu)
        have R := Lib.hid hru
        (try have B7 := Lib.hid (B7.out.grow hgu))
        (try have B6 := Lib.hid (B6.out.grow hgu))
        clear hgu hru u1
        have s0 := sel6_lo u
        have s1 := sel6_hi u
        go_wp2_with fail
        refine hK.out _ _ ?_ (fun hHeld2 => ?_)
        · (try dsimp only)
          all_goals exact True.intro
        clear hK K hHeld
        have hHeld := hHeld2
        clear hHeld2
        (try simp only [Act.put, List.setIfInBounds_toArray, List.set_cons_zero, List.set_cons_succ])
        refine wpAnyH_take (i := 14) (v := ?_) (toArr_get _ 14 _ rfl) (by kernel_rfl) (by kernel_rfl) (by kernel_rfl) (fun _ _ _ h => h) (Or.inl ⟨by rfl, ?_⟩) (by assumption) ?_
        rotate_left
        · (intro w hSw; (try dsimp only at hSw); go_simp; (try with_reducible rfl))
        (try simp only [Act.put, List.setIfInBounds_toArray, List.set_cons_zero, List.set_cons_succ])
        refine wpAnyH_ready (rs := [6, 7]) (by kernel_rfl) (by simp) ?_
        refine AllReadyH.cons (toArr_get _ 6 _ rfl) (fun K hK => ?_) ?_
        · go_simp
          generalize hWB6 : World.alloc _ _ = wB6
          have B6 := Lib.hid (Blk.new3 hWB6 R.out.lt)
          (try have B7 := Lib.hid (B7.out.grow (gb_alloc' (gb_refl _ _) hWB6)))
          have G := Lib.hid (gb_alloc' G.out hWB6)
          have R := Lib.hid (R.out.alloc' hWB6)
          clear hWB6
          refine hK.out _ _ ?_ (fun hHeld2 => ?_)
          · (try dsimp only)
            all_goals exact True.intro
          clear hK K hHeld
          have hHeld := hHeld2
          clear hHeld2
          (try simp only [Act.put, List.setIfInBounds_toArray, List.set_cons_zero, List.set_cons_succ])
          refine wpAnyH_ready (rs := [7]) (by kernel_rfl) (by simp) ?_
          refine AllReadyH.cons (toArr_get _ 7 _ rfl) (fun K hK => ?_) ?_
          · go_simp
            generalize hWB7 : World.alloc _ _ = wB7
            have B7 := Lib.hid (Blk.new6 hWB7 R.out.lt)
            (try have B6 := Lib.hid (B6.out.grow (gb_alloc' (gb_refl _ _) hWB7)))
            have G := Lib.hid (gb_alloc' G.out hWB7)
            have R := Lib.hid (R.out.alloc' hWB7)
            clear hWB7
            refine hK.out _ _ ?_ (fun hHeld2 => ?_)
            · (try dsimp only)
              all_goals exact True.intro
            clear hK K hHeld
            have hHeld := hHeld2
            clear hHeld2
            (try simp only [Act.put, List.setIfInBounds_toArray, List.set_cons_zero, List.set_cons_succ])
            refine wpAnyH_take (i := 10) (v := ?_) (toArr_get _ 10 _ rfl) (by kernel_rfl) (by kernel_rfl) (by kernel_rfl) (fun _ _ _ h => h) (Or.inl ⟨by rfl, ?_⟩) (by assumption) ?_
            rotate_left
            · (intro w hSw; (try dsimp only at hSw); go_simp; (try with_reducible rfl))
            (try simp only [Act.put, List.setIfInBounds_toArray, List.set_cons_zero, List.set_cons_succ])
            refine wpAnyH_ready (rs := [11]) (by kernel_rfl) (by simp) ?_
            refine AllReadyH.cons (toArr_get _ 11 _ rfl) (fun K hK => ?_) ?_
            · have l11 := B7.out.at6 u u0 up
              go_simp
              clear l11
              refine hK.out _ _ ?_ (fun hHeld2 => ?_)
              · (try dsimp only)
                all_goals exact True.intro
              clear hK K hHeld
              have hHeld := hHeld2
              clear hHeld2
              (try simp only [Act.put, List.setIfInBounds_toArray, List.set_cons_zero, List.set_cons_succ])
              refine wpAnyH_take (i := 12) (v := ?_) (toArr_get _ 12 _ rfl) (by kernel_rfl) (by kernel_rfl) (by kernel_rfl) (fun _ _ _ h => h) (Or.inl ⟨by rfl, ?_⟩) (by assumption) ?_
              rotate_left
              · (intro w hSw; (try dsimp only at hSw); go_simp; (try with_reducible rfl))
              (try simp only [Act.put, List.setIfInBounds_toArray, List.set_cons_zero, List.set_cons_succ])
              refine wpAnyH_ready (rs := [13]) (by kernel_rfl) (by simp) ?_
              refine AllReadyH.cons (toArr_get _ 13 _ rfl) (fun K hK => ?_) ?_
              · have l13 := B6.out.at3 (sel6 u) s0 s1
                go_simp
                clear l13
                refine hK.out _ _ ?_ (fun hHeld2 => ?_)
                · (try dsimp only)
                  all_goals exact True.intro
                clear hK K hHeld
                have hHeld := hHeld2
                clear hHeld2
                (try simp only [Act.put, List.setIfInBounds_toArray, List.set_cons_zero, List.set_cons_succ])
                refine wpAnyH_take (i := 15) (v := ?_) (toArr_get _ 15 _ rfl) (by kernel_rfl) (by kernel_rfl) (by kernel_rfl) (fun _ _ _ h => h) (Or.inl ⟨by rfl, ?_⟩) (by assumption) ?_
                rotate_left
                · (intro w hSw; (try dsimp only at hSw); go_simp; (try with_reducible rfl))
                (try simp only [Act.put, List.setIfInBounds_toArray, List.set_cons_zero, List.set_cons_succ])
                refine wpAnyH_done (by kernel_rfl) ?_ _
                refine NoPanic.normal ?_
                go_wp2_with fail
                go_ret2
                have bd := sel3_in (u := sel6 u) (x := x) (y := y * 7) (z := -1) (lo := -1) (hi := 1785) (by omega) (by omega) (by omega) (by omega) (by omega) (by omega)
                exact ⟨g, cap2, ts, _, rfl, bd.1, bd.2, hlen, hlc, hcm, HW.out.gb HR2.out G.out, HB1.out.trans (gb_to_below (gb_trans HG2.out G.out) (Nat.le_refl _) HB1.out.size)⟩
              exact AllReadyH.nil
            exact AllReadyH.nil
          exact AllReadyH.nil
        refine AllReadyH.cons (toArr_get _ 7 _ rfl) (fun K hK => ?_) ?_
        · go_simp
          generalize hWB7 : World.alloc _ _ = wB7
          have B7 := Lib.hid (Blk.new6 hWB7 R.out.lt)
          (try have B6 := Lib.hid (B6.out.grow (gb_alloc' (gb_refl _ _) hWB7)))
          have G := Lib.hid (gb_alloc' G.out hWB7)
          have R := Lib.hid (R.out.alloc' hWB7)
          clear hWB7
          refine hK.out _ _ ?_ (fun hHeld2 => ?_)
          · (try dsimp only)
            all_goals exact True.intro
          clear hK K hHeld
          have hHeld := hHeld2
          clear hHeld2
          (try simp only [Act.put, List.setIfInBounds_toArray, List.set_cons_zero, List.set_cons_succ])
          refine wpAnyH_take (i := 10) (v := ?_) (toArr_get _ 10 _ rfl) (by kernel_rfl) (by kernel_rfl) (by kernel_rfl) (fun _ _ _ h => h) (Or.inl ⟨by rfl, ?_⟩) (by assumption) ?_
          rotate_left
          · (intro w hSw; (try dsimp only at hSw); go_simp; (try with_reducible rfl))
          (try simp only [Act.put, List.setIfInBounds_toArray, List.set_cons_zero, List.set_cons_succ])
          refine wpAnyH_ready (rs := [6, 11]) (by kernel_rfl) (by simp) ?_
          refine AllReadyH.cons (toArr_get _ 6 _ rfl) (fun K hK => ?_) ?_
          · go_simp
            generalize hWB6 : World.alloc _ _ = wB6
            have B6 := Lib.hid (Blk.new3 hWB6 R.out.lt)
            (try have B7 := Lib.hid (B7.out.grow (gb_alloc' (gb_refl _ _) hWB6)))
            have G := Lib.hid (gb_alloc' G.out hWB6)
            have R := Lib.hid (R.out.alloc' hWB6)
            clear hWB6
            refine hK.out _ _ ?_ (fun hHeld2 => ?_)
            · (try dsimp only)
              all_goals exact True.intro
            clear hK K hHeld
            have hHeld := hHeld2
            clear hHeld2
            (try simp only [Act.put, List.setIfInBounds_toArray, List.set_cons_zero, List.set_cons_succ])
            refine wpAnyH_ready (rs := [11]) (by kernel_rfl) (by simp) ?_
            refine AllReadyH.cons (toArr_get _ 11 _ rfl) (fun K hK => ?_) ?_
            · have l11 := B7.out.at6 u u0 up
              go_simp
              clear l11
              refine hK.out _ _ ?_ (fun hHeld2 => ?_)
              · (try dsimp only)
                all_goals exact True.intro
              clear hK K hHeld
              have hHeld := hHeld2
              clear hHeld2
              (try simp only [Act.put, List.setIfInBounds_toArray, List.set_cons_zero, List.set_cons_succ])
              refine wpAnyH_take (i := 12) (v := ?_) (toArr_get _ 12 _ rfl) (by kernel_rfl) (by kernel_rfl) (by kernel_rfl) (fun _ _ _ h => h) (Or.inl ⟨by rfl, ?_⟩) (by assumption) ?_
              rotate_left
              · (intro w hSw; (try dsimp only at hSw); go_simp; (try with_reducible rfl))
              (try simp only [Act.put, List.setIfInBounds_toArray, List.set_cons_zero, List.set_cons_succ])
              refine wpAnyH_ready (rs := [13]) (by kernel_rfl) (by simp) ?_
              refine AllReadyH.cons (toArr_get _ 13 _ rfl) (fun K hK => ?_) ?_
              · have l13 := B6.out.at3 (sel6 u) s0 s1
                go_simp
                clear l13
                refine hK.out _ _ ?_ (fun hHeld2 => ?_)
                · (try dsimp only)
                  all_goals exact True.intro
                clear hK K hHeld
                have hHeld := hHeld2
                clear hHeld2
                (try simp only [Act.put, List.setIfInBounds_toArray, List.set_cons_zero, List.set_cons_succ])
                refine wpAnyH_take (i := 15) (v := ?_) (toArr_get _ 15 _ rfl) (by kernel_rfl) (by kernel_rfl) (by kernel_rfl) (fun _ _ _ h => h) (Or.inl ⟨by rfl, ?_⟩) (by assumption) ?_
                rotate_left
                · (intro w hSw; (try dsimp only at hSw); go_simp; (try with_reducible rfl))
                (try simp only [Act.put, List.setIfInBounds_toArray, List.set_cons_zero, List.set_cons_succ])
                refine wpAnyH_done (by kernel_rfl) ?_ _
                refine NoPanic.normal ?_
                go_wp2_with fail
                go_ret2
                have bd := sel3_in (u := sel6 u) (x := x) (y := y * 7) (z := -1) (lo := -1) (hi := 1785) (by omega) (by omega) (by omega) (by omega) (by omega) (by omega)
                exact ⟨g, cap2, ts, _, rfl, bd.1, bd.2, hlen, hlc, hcm, HW.out.gb HR2.out G.out, HB1.out.trans (gb_to_below (gb_trans HG2.out G.out) (Nat.le_refl _) HB1.out.size)⟩
              exact AllReadyH.nil
            exact AllReadyH.nil
          refine AllReadyH.cons (toArr_get _ 11 _ rfl) (fun K hK => ?_) ?_
          · have l11 := B7.out.at6 u u0 up
            go_simp
            clear l11
            refine hK.out _ _ ?_ (fun hHeld2 => ?_)
            · (try dsimp only)
              all_goals exact True.intro
            clear hK K hHeld
            have hHeld := hHeld2
            clear hHeld2
            (try simp only [Act.put, List.setIfInBounds_toArray, List.set_cons_zero, List.set_cons_succ])
            refine wpAnyH_ready (rs := [6]) (by kernel_rfl) (by simp) ?_
            refine AllReadyH.cons (toArr_get _ 6 _ rfl) (fun K hK => ?_) ?_
            · go_simp
              generalize hWB6 : World.alloc _ _ = wB6
              have B6 := Lib.hid (Blk.new3 hWB6 R.out.lt)
              (try have B7 := Lib.hid (B7.out.grow (gb_alloc' (gb_refl _ _) hWB6)))
              have G := Lib.hid (gb_alloc' G.out hWB6)
              have R := Lib.hid (R.out.alloc' hWB6)
              clear hWB6
              refine hK.out _ _ ?_ (fun hHeld2 => ?_)
              · (try dsimp only)
                all_goals exact True.intro
              clear hK K hHeld
              have hHeld := hHeld2
              clear hHeld2
              (try simp only [Act.put, List.setIfInBounds_toArray, List.set_cons_zero, List.set_cons_succ])
              refine wpAnyH_take (i := 12) (v := ?_) (toArr_get _ 12 _ rfl) (by kernel_rfl) (by kernel_rfl) (by kernel_rfl) (fun _ _ _ h => h) (Or.inl ⟨by rfl, ?_⟩) (by assumption) ?_
              rotate_left
              · (intro w hSw; (try dsimp only at hSw); go_simp; (try with_reducible rfl))
              (try simp only [Act.put, List.setIfInBounds_toArray, List.set_cons_zero, List.set_cons_succ])
              refine wpAnyH_ready (rs := [13]) (by kernel_rfl) (by simp) ?_
              refine AllReadyH.cons (toArr_get _ 13 _ rfl) (fun K hK => ?_) ?_
              · have l13 := B6.out.at3 (sel6 u) s0 s1
                go_simp
                clear l13
                refine hK.out _ _ ?_ (fun hHeld2 => ?_)
                · (try dsimp only)
                  all_goals exact True.intro
                clear hK K hHeld
                have hHeld := hHeld2
                clear hHeld2
                (try simp only [Act.put, List.setIfInBounds_toArray, List.set_cons_zero, List.set_cons_succ])
                refine wpAnyH_take (i := 15) (v := ?_) (toArr_get _ 15 _ rfl) (by kernel_rfl) (by kernel_rfl) (by kernel_rfl) (fun _ _ _ h => h) (Or.inl ⟨by rfl, ?_⟩) (by assumption) ?_
                rotate_left
                · (intro w hSw; (try dsimp only at hSw); go_simp; (try with_reducible rfl))
                (try simp only [Act.put, List.setIfInBounds_toArray, List.set_cons_zero, List.set_cons_succ])
                refine wpAnyH_done (by kernel_rfl) ?_ _
                refine NoPanic.normal ?_
                go_wp2_with fail
                go_ret2
                have bd := sel3_in (u := sel6 u) (x := x) (y := y * 7) (z := -1) (lo := -1) (hi := 1785) (by omega) (by omega) (by omega) (by omega) (by omega) (by omega)
                exact ⟨g, cap2, ts, _, rfl, bd.1, bd.2, hlen, hlc, hcm, HW.out.gb HR2.out G.out, HB1.out.trans (gb_to_below (gb_trans HG2.out G.out) (Nat.le_refl _) HB1.out.size)⟩
              exact AllReadyH.nil
            exact AllReadyH.nil
          exact AllReadyH.nil
        exact AllReadyH.nil
      exact AllReadyH.nil
    refine AllReadyH.cons (toArr_get _ 7 _ rfl) (fun K hK => ?_) ?_
    · go_simp
      generalize hWB7 : World.alloc _ _ = wB7
      have B7 := Lib.hid (Blk.new6 hWB7 R.out.lt)
      (try have B6 := Lib.hid (B6.out.grow (gb_alloc' (gb_refl _ _) hWB7)))
      have G := Lib.hid (gb_alloc' G.out hWB7)
      have R := Lib.hid (R.out.alloc' hWB7)
      clear hWB7
      refine hK.out _ _ ?_ (fun hHeld2 => ?_)
      · (try dsimp only)
        all_goals exact True.intro
      clear hK K hHeld
      have hHeld := hHeld2
      clear hHeld2
      (try simp only [Act.put, List.setIfInBounds_toArray, List.set_cons_zero, List.set_cons_succ])
      refine wpAnyH_ready (rs := [4]) (by kernel_rfl) (by simp) ?_
      refine AllReadyH.cons (toArr_get _ 4 _ rfl) (fun K hK => ?_) ?_
      · go_simp
        go_at_call 39
        refine (pick_any w.heap.size 201 256 _ R.out (by omega)).mono ?_
        rintro e wy ⟨y, rfl, y0, y1, _, hgy, hry⟩
        have yp := y1 (by decide)
        have G := Lib.hid (gb_trans G.out hgy)
        have R := Lib.hid hry
        (try have B7 := Lib.hid (B7.out.grow hgy))
        (try have B6 := Lib.hid (B6.out.grow hgy))
        clear hgy hry y1
        have hy : IntKind.i64.wrap (y * 7) = y * 7 := IntWalk.i64_in _ (by omega)
        go_wp2_with fail
        refine hK.out _ _ ?_ (fun hHeld2 => ?_)
        · (try dsimp only)
          all_goals exact True.intro
        clear hK K hHeld
        have hHeld := hHeld2
        clear hHeld2
        (try simp only [Act.put, List.setIfInBounds_toArray, List.set_cons_zero, List.set_cons_succ])
        refine wpAnyH_take (i := 5) (v := ?_) (toArr_get _ 5 _ rfl) (by kernel_rfl) (by kernel_rfl) (by kernel_rfl) (fun _ _ _ h => h) (Or.inl ⟨by rfl, ?_⟩) (by assumption) ?_
        rotate_left
        · (intro w hSw; (try dsimp only at hSw); go_simp; (try with_reducible rfl))
        (try simp only [Act.put, List.setIfInBounds_toArray, List.set_cons_zero, List.set_cons_succ])
        refine wpAnyH_ready (rs := [6, 9]) (by kernel_rfl) (by simp) ?_
        refine AllReadyH.cons (toArr_get _ 6 _ rfl) (fun K hK => ?_) ?_
        · go_simp
          generalize hWB6 : World.alloc _ _ = wB6
          have B6 := Lib.hid (Blk.new3 hWB6 R.out.lt)
          (try have B7 := Lib.hid (B7.out.grow (gb_alloc' (gb_refl _ _) hWB6)))
          have G := Lib.hid (gb_alloc' G.out hWB6)
          have R := Lib.hid (R.out.alloc' hWB6)
          clear hWB6
          refine hK.out _ _ ?_ (fun hHeld2 => ?_)
          · (try dsimp only)
            all_goals exact True.intro
          clear hK K hHeld
          have hHeld := hHeld2
          clear hHeld2
          (try simp only [Act.put, List.setIfInBounds_toArray, List.set_cons_zero, List.set_cons_succ])
          refine wpAnyH_ready (rs := [9]) (by kernel_rfl) (by simp) ?_
          refine AllReadyH.cons (toArr_get _ 9 _ rfl) (fun K hK => ?_) ?_
          · go_simp
            go_at_call 39
            refine (pick_any w.heap.size 202 6 _ R.out (by omega)).mono ?_
            rintro e wu ⟨u, rfl, u0, u1, _, hgu, hru⟩
            have up := u1 (by decide)
            have G := Lib.hid (gb_trans G.out hgu)
            have R := Lib.hid hru
            (try have B7 := Lib.hid (B7.out.grow hgu))
            (try have B6 := Lib.hid (B6.out.grow hgu))
            clear hgu hru u1
            have s0 := sel6_lo u
            have s1 := sel6_hi u
            go_wp2_with fail
            refine hK.out _ _ ?_ (fun hHeld2 => ?_)
            · (try dsimp only)
              all_goals exact True.intro
            clear hK K hHeld
            have hHeld := hHeld2
            clear hHeld2
            (try simp only [Act.put, List.setIfInBounds_toArray, List.set_cons_zero, List.set_cons_succ])
            refine wpAnyH_take (i := 10) (v := ?_) (toArr_get _ 10 _ rfl) (by kernel_rfl) (by kernel_rfl) (by kernel_rfl) (fun _ _ _ h => h) (Or.inl ⟨by rfl, ?_⟩) (by assumption) ?_
            rotate_left
            · (intro w hSw; (try dsimp only at hSw); go_simp; (try with_reducible rfl))
            (try simp only [Act.put, List.setIfInBounds_toArray, List.set_cons_zero, List.set_cons_succ])
            refine wpAnyH_take (i := 14) (v := ?_) (toArr_get _ 14 _ rfl) (by kernel_rfl) (by kernel_rfl) (by kernel_rfl) (fun _ _ _ h => h) (Or.inl ⟨by rfl, ?_⟩) (by assumption) ?_
            rotate_left
            · (intro w hSw; (try dsimp only at hSw); go_simp; (try with_reducible rfl))
            (try simp only [Act.put, List.setIfInBounds_toArray, List.set_cons_zero, List.set_cons_succ])
            refine wpAnyH_ready (rs := [11]) (by kernel_rfl) (by simp) ?_
            refine AllReadyH.cons (toArr_get _ 11 _ rfl) (fun K hK => ?_) ?_
            · have l11 := B7.out.at6 u u0 up
              go_simp
              clear l11
              refine hK.out _ _ ?_ (fun hHeld2 => ?_)
              · (try dsimp only)
                all_goals exact True.intro
              clear hK K hHeld
              have hHeld := hHeld2
              clear hHeld2
              (try simp only [Act.put, List.setIfInBounds_toArray, List.set_cons_zero, List.set_cons_succ])
              refine wpAnyH_take (i := 12) (v := ?_) (toArr_get _ 12 _ rfl) (by kernel_rfl) (by kernel_rfl) (by kernel_rfl) (fun _ _ _ h => h) (Or.inl ⟨by rfl, ?_⟩) (by assumption) ?_
              rotate_left
              · (intro w hSw; (try dsimp only at hSw); go_simp; (try with_reducible rfl))
              (try simp only [Act.put, List.setIfInBounds_toArray, List.set_cons_zero, List.set_cons_succ])
              refine wpAnyH_ready (rs := [13]) (by kernel_rfl) (by simp) ?_
              refine AllReadyH.cons (toArr_get _ 13 _ rfl) (fun K hK => ?_) ?_
              · have l13 := B6.out.at3 (sel6 u) s0 s1
                go_simp
                clear l13
                refine hK.out _ _ ?_ (fun hHeld2 => ?_)
                · (try dsimp only)
                  all_goals exact True.intro
                clear hK K hHeld
                have hHeld := hHeld2
                clear hHeld2
                (try simp only [Act.put, List.setIfInBounds_toArray, List.set_cons_zero, List.set_cons_succ])
                refine wpAnyH_take (i := 15) (v := ?_) (toArr_get _ 15 _ rfl) (by kernel_rfl) (by kernel_rfl) (by kernel_rfl) (fun _ _ _ h => h) (Or.inl ⟨by rfl, ?_⟩) (by assumption) ?_
                rotate_left
                · (intro w hSw; (try dsimp only at hSw); go_simp; (try with_reducible rfl))
                (try simp only [Act.put, List.setIfInBounds_toArray, List.set_cons_zero, List.set_cons_succ])
                refine wpAnyH_done (by kernel_rfl) ?_ _
                refine NoPanic.normal ?_
                go_wp2_with fail
                go_ret2
                have bd := sel3_in (u := sel6 u) (x := x) (y := y * 7) (z := -1) (lo := -1) (hi := 1785) (by omega) (by omega) (by omega) (by omega) (by omega) (by omega)
                exact ⟨g, cap2, ts, _, rfl, bd.1, bd.2, hlen, hlc, hcm, HW.out.gb HR2.out G.out, HB1.out.trans (gb_to_below (gb_trans HG2.out G.out) (Nat.le_refl _) HB1.out.size)⟩
              exact AllReadyH.nil
            exact AllReadyH.nil
          exact AllReadyH.nil
        refine AllReadyH.cons (toArr_get _ 9 _ rfl) (fun K hK => ?_) ?_
        · go_simp
          go_at_call 39
          refine (pick_any w.heap.size 202 6 _ R.out (by omega)).mono ?_
          rintro e wu ⟨u, rfl, u0, u1, _, hgu, hru⟩
          have up := u1 (by decide)
          have G := Lib.hid (gb_trans G.out hgu)
          have R := Lib.hid hru
          (try have B7 := Lib.hid (B7.out.grow hgu))
          (try have B6 := Lib.hid (B6.out.grow hgu))
          clear hgu hru u1
          have s0 := sel6_lo u
          have s1 := sel6_hi u
          go_wp2_with fail
          refine hK.out _ _ ?_ (fun hHeld2 => ?_)
          · (try dsimp only)
            all_goals exact True.intro
          clear hK K hHeld
          have hHeld := hHeld2
          clear hHeld2
          (try simp only [Act.put, List.setIfInBounds_toArray, List.set_cons_zero, List.set_cons_succ])
          refine wpAnyH_take (i := 10) (v := ?_) (toArr_get _ 10 _ rfl) (by kernel_rfl) (by kernel_rfl) (by kernel_rfl) (fun _ _ _ h => h) (Or.inl ⟨by rfl, ?_⟩) (by assumption) ?_
          rotate_left
          · (intro w hSw; (try dsimp only at hSw); go_simp; (try with_reducible rfl))
          (try simp only [Act.put, List.setIfInBounds_toArray, List.set_cons_zero, List.set_cons_succ])
          refine wpAnyH_take (i := 14) (v := ?_) (toArr_get _ 14 _ rfl) (by kernel_rfl) (by kernel_rfl) (by kernel_rfl) (fun _ _ _ h => h) (Or.inl ⟨by rfl, ?_⟩) (by assumption) ?_
          rotate_left
          · (intro w hSw; (try dsimp only at hSw); go_simp; (try with_reducible rfl))
          (try simp only [Act.put, List.setIfInBounds_toArray, List.set_cons_zero, List.set_cons_succ])
          refine wpAnyH_ready (rs := [6, 11]) (by kernel_rfl) (by simp) ?_
          refine AllReadyH.cons (toArr_get _ 6 _ rfl) (fun K hK => ?_) ?_
          · go_simp
            generalize hWB6 : World.alloc _ _ = wB6
            have B6 := Lib.hid (Blk.new3 hWB6 R.out.lt)
            (try have B7 := Lib.hid (B7.out.grow (gb_alloc' (gb_refl _ _) hWB6)))
            have G := Lib.hid (gb_alloc' G.out hWB6)
            have R := Lib.hid (R.out.alloc' hWB6)
            clear hWB6
            refine hK.out _ _ ?_ (fun hHeld2 => ?_)
            · (try dsimp only)
              all_goals exact True.intro
            clear hK K hHeld
            have hHeld := hHeld2
            clear hHeld2
            (try simp only [Act.put, List.setIfInBounds_toArray, List.set_cons_zero, List.set_cons_succ])
            refine wpAnyH_ready (rs := [11]) (by kernel_rfl) (by simp) ?_
            refine AllReadyH.cons (toArr_get _ 11 _ rfl) (fun K hK => ?_) ?_
            · have l11 := B7.out.at6 u u0 up
              go_simp
              clear l11
              refine hK.out _ _ ?_ (fun hHeld2 => ?_)
              · (try dsimp only)
                all_goals exact True.intro
              clear hK K hHeld
              have hHeld := hHeld2
              clear hHeld2
              (try simp only [Act.put, List.setIfInBounds_toArray, List.set_cons_zero, List.set_cons_succ])
              refine wpAnyH_take (i := 12) (v := ?_) (toArr_get _ 12 _ rfl) (by kernel_rfl) (by kernel_rfl) (by kernel_rfl) (fun _ _ _ h => h) (Or.inl ⟨by rfl, ?_⟩) (by assumption) ?_
              rotate_left
              · (intro w hSw; (try dsimp only at hSw); go_simp; (try with_reducible rfl))
              (try simp only [Act.put, List.setIfInBounds_toArray, List.set_cons_zero, List.set_cons_succ])
              refine wpAnyH_ready (rs := [13]) (by kernel_rfl) (by simp) ?_
              refine AllReadyH.cons (toArr_get _ 13 _ rfl) (fun K hK => ?_) ?_
              · have l13 := B6.out.at3 (sel6 u) s0 s1
                go_simp
                clear l13
                refine hK.out _ _ ?_ (fun hHeld2 => ?_)
                · (try dsimp only)
                  all_goals exact True.intro
                clear hK K hHeld
                have hHeld := hHeld2
                clear hHeld2
                (try simp only [Act.put, List.setIfInBounds_toArray, List.set_cons_zero, List.set_cons_succ])
                refine wpAnyH_take (i := 15) (v := ?_) (toArr_get _ 15 _ rfl) (by kernel_rfl) (by kernel_rfl) (by kernel_rfl) (fun _ _ _ h => h) (Or.inl ⟨by rfl, ?_⟩) (by assumption) ?_
                rotate_left
                · (intro w hSw; (try dsimp only at hSw); go_simp; (try with_reducible rfl))
                (try simp only [Act.put, List.setIfInBounds_toArray, List.set_cons_zero, List.set_cons_succ])
                refine wpAnyH_done (by kernel_rfl) ?_ _
                refine NoPanic.normal ?_
                go_wp2_with fail
                go_ret2
                have bd := sel3_in (u := sel6 u) (x := x) (y := y * 7) (z := -1) (lo := -1) (hi := 1785) (by omega) (by omega) (by omega) (by omega) (by omega) (by omega)
                exact ⟨g, cap2, ts, _, rfl, bd.1, bd.2, hlen, hlc, hcm, HW.out.gb HR2.out G.out, HB1.out.trans (gb_to_below (gb_trans HG2.out G.out) (Nat.le_refl _) HB1.out.size)⟩
              exact AllReadyH.nil
            exact AllReadyH.nil
          refine AllReadyH.cons (toArr_get _ 11 _ rfl) (fun K hK => ?_) ?_
          · have l11 := B7.out.at6 u u0 up
            go_simp
            clear l11
            refine hK.out _ _ ?_ (fun hHeld2 => ?_)
            · (try dsimp only)
              all_goals exact True.intro
            clear hK K hHeld
            have hHeld := hHeld2
            clear hHeld2
            (try simp only [Act.put, List.setIfInBounds_toArray, List.set_cons_zero, List.set_cons_succ])
            refine wpAnyH_ready (rs := [6]) (by kernel_rfl) (by simp) ?_
            refine AllReadyH.cons (toArr_get _ 6 _ rfl) (fun K hK => ?_) ?_
            · go_simp
              generalize hWB6 : World.alloc _ _ = wB6
              have B6 := Lib.hid (Blk.new3 hWB6 R.out.lt)
              (try have B7 := Lib.hid (B7.out.grow (gb_alloc' (gb_refl _ _) hWB6)))
              have G := Lib.hid (gb_alloc' G.out hWB6)
              have R := Lib.hid (R.out.alloc' hWB6)
              clear hWB6
              refine hK.out _ _ ?_ (fun hHeld2 => ?_)
              · (try dsimp only)
                all_goals exact True.intro
              clear hK K hHeld
              have hHeld := hHeld2
              clear hHeld2
              (try simp only [Act.put, List.setIfInBounds_toArray, List.set_cons_zero, List.set_cons_succ])
              refine wpAnyH_take (i := 12) (v := ?_) (toArr_get _ 12 _ rfl) (by kernel_rfl) (by kernel_rfl) (by kernel_rfl) (fun _ _ _ h => h) (Or.inl ⟨by rfl, ?_⟩) (by assumption) ?_
              rotate_left
              · (intro w hSw; (try dsimp only at hSw); go_simp; (try with_reducible rfl))
              (try simp only [Act.put, List.setIfInBounds_toArray, List.set_cons_zero, List.set_cons_succ])
              refine wpAnyH_ready (rs := [13]) (by kernel_rfl) (by simp) ?_
              refine AllReadyH.cons (toArr_get _ 13 _ rfl) (fun K hK => ?_) ?_
              · have l13 := B6.out.at3 (sel6 u) s0 s1
                go_simp
                clear l13
                refine hK.out _ _ ?_ (fun hHeld2 => ?_)
                · (try dsimp only)
                  all_goals exact True.intro
                clear hK K hHeld
                have hHeld := hHeld2
                clear hHeld2
                (try simp only [Act.put, List.setIfInBounds_toArray, List.set_cons_zero, List.set_cons_succ])
                refine wpAnyH_take (i := 15) (v := ?_) (toArr_get _ 15 _ rfl) (by kernel_rfl) (by kernel_rfl) (by kernel_rfl) (fun _ _ _ h => h) (Or.inl ⟨by rfl, ?_⟩) (by assumption) ?_
                rotate_left
                · (intro w hSw; (try dsimp only at hSw); go_simp; (try with_reducible rfl))
                (try simp only [Act.put, List.setIfInBounds_toArray, List.set_cons_zero, List.set_cons_succ])
                refine wpAnyH_done (by kernel_rfl) ?_ _
                refine NoPanic.normal ?_
                go_wp2_with fail
                go_ret2
                have bd := sel3_in (u := sel6 u) (x := x) (y := y * 7) (z := -1) (lo := -1) (hi := 1785) (by omega) (by omega) (by omega) (by omega) (by omega) (by omega)
                exact ⟨g, cap2, ts, _, rfl, bd.1, bd.2, hlen, hlc, hcm, HW.out.gb HR2.out G.out, HB1.out.trans (gb_to_below (gb_trans HG2.out G.out) (Nat.le_refl _) HB1.out.size)⟩
              exact AllReadyH.nil
            exact AllReadyH.nil
          exact AllReadyH.nil
        exact AllReadyH.nil
      exact AllReadyH.nil
    exact AllReadyH.nil
  refine AllReadyH.cons (toArr_get _ 7 _ rfl) (fun K hK => ?_) ?_
  · go_simp
    generalize hWB7 : World.alloc _ _ = wB7
    have B7 := Lib.hid (Blk.new6 hWB7 R.out.lt)
    (try have B6 := Lib.hid (B6.out.grow (gb_alloc' (gb_refl _ _) hWB7)))
    have G := Lib.hid (gb_alloc' G.out hWB7)
    have R := Lib.hid (R.out.alloc' hWB7)
    clear hWB7
    refine hK.out _ _ ?_ (fun hHeld2 => ?_)
    · (try dsimp only)
      all_goals exact True.intro
    clear hK K hHeld
    have hHeld := hHeld2
    clear hHeld2
    (try simp only [Act.put, List.setIfInBounds_toArray, List.set_cons_zero, List.set_cons_succ])
    refine wpAnyH_ready (rs := [2]) (by kernel_rfl) (by simp) ?_
    refine AllReadyH.cons (toArr_get _ 2 _ rfl) (fun K hK => ?_) ?_
    · go_simp
      go_at_call 39
      refine (pick_any w.heap.size 200 40 _ R.out (by omega)).mono ?_
      rintro e wx ⟨x, rfl, x0, x1, _, hgx, hrx⟩
      have xp := x1 (by decide)
      have G := Lib.hid (gb_trans G.out hgx)
      have R := Lib.hid hrx
      (try have B7 := Lib.hid (B7.out.grow hgx))
      (try have B6 := Lib.hid (B6.out.grow hgx))
      clear hgx hrx x1
      go_wp2_with fail
      refine hK.out _ _ ?_ (fun hHeld2 => ?_)
      · (try dsimp only)
        all_goals exact True.intro
      clear hK K hHeld
      have hHeld := hHeld2
      clear hHeld2
      (try simp only [Act.put, List.setIfInBounds_toArray, List.set_cons_zero, List.set_cons_succ])
      refine wpAnyH_ready (rs := [4]) (by kernel_rfl) (by simp) ?_
      refine AllReadyH.cons (toArr_get _ 4 _ rfl) (fun K hK => ?_) ?_
      · go_simp
        go_at_call 39
        refine (pick_any w.heap.size 201 256 _ R.out (by omega)).mono ?_
        rintro e wy ⟨y, rfl, y0, y1, _, hgy, hry⟩
        have yp := y1 (by decide)
        have G := Lib.hid (gb_trans G.out hgy)
        have R := Lib.hid hry
        (try have B7 := Lib.hid (B7.out.grow hgy))
        (try have B6 := Lib.hid (B6.out.grow hgy))
        clear hgy hry y1
        have hy : IntKind.i64.wrap (y * 7) = y * 7 := IntWalk.i64_in _ (by omega)
        go_wp2_with fail
        refine hK.out _ _ ?_ (fun hHeld2 => ?_)
        · (try dsimp only)
          all_goals exact True.intro
        clear hK K hHeld
        have hHeld := hHeld2
        clear hHeld2
        (try simp only [Act.put, List.setIfInBounds_toArray, List.set_cons_zero, List.set_cons_succ])
        refine wpAnyH_take (i := 5) (v := ?_) (toArr_get _ 5 _ rfl) (by kernel_rfl) (by kernel_rfl) (by kernel_rfl) (fun _ _ _ h => h) (Or.inl ⟨by rfl, ?_⟩) (by assumption) ?_
        rotate_left
        · (intro w hSw; (try dsimp only at hSw); go_simp; (try with_reducible rfl))
        (try simp only [Act.put, List.setIfInBounds_toArray, List.set_cons_zero, List.set_cons_succ])
        refine wpAnyH_ready (rs := [6, 9]) (by kernel_rfl) (by simp) ?_
        refine AllReadyH.cons (toArr_get _ 6 _ rfl) (fun K hK => ?_) ?_
        · go_simp
          generalize hWB6 : World.alloc _ _ = wB6
          have B6 := Lib.hid (Blk.new3 hWB6 R.out.lt)
          (try have B7 := Lib.hid (B7.out.grow (gb_alloc' (gb_refl _ _) hWB6)))
          have G := Lib.hid (gb_alloc' G.out hWB6)
          have R := Lib.hid (R.out.alloc' hWB6)
          clear hWB6
          refine hK.out _ _ ?_ (fun hHeld2 => ?_)
          · (try dsimp only)
            all_goals exact True.intro
          clear hK K hHeld
          have hHeld := hHeld2
          clear hHeld2
          (try simp only [Act.put, List.setIfInBounds_toArray, List.set_cons_zero, List.set_cons_succ])
          refine wpAnyH_ready (rs := [9]) (by kernel_rfl) (by simp) ?_
          refine AllReadyH.cons (toArr_get _ 9 _ rfl) (fun K hK => ?_) ?_
          · go_simp
            go_at_call 39
            refine (pick_any w.heap.size 202 6 _ R.out (by omega)).mono ?_
            rintro e wu ⟨u, rfl, u0, u1, _, hgu, hru⟩
            have up := u1 (by decide)
            have G := Lib.hid (gb_trans G.out hgu)
            have R := Lib.hid hru
            (try have B7 := Lib.hid (B7.out.grow hgu))
            (try have B6 := Lib.hid (B6.out.grow hgu))
            clear hgu hru u1
            have s0 := sel6_lo u
            have s1 := sel6_hi u
            go_wp2_with fail
            refine hK.out _ _ ?_ (fun hHeld2 => ?_)
            · (try dsimp only)
              all_goals exact True.intro
            clear hK K hHeld
            have hHeld := hHeld2
            clear hHeld2
            (try simp only [Act.put, List.setIfInBounds_toArray, List.set_cons_zero, List.set_cons_succ])
            refine wpAnyH_take (i := 10) (v := ?_) (toArr_get _ 10 _ rfl) (by kernel_rfl) (by kernel_rfl) (by kernel_rfl) (fun _ _ _ h => h) (Or.inl ⟨by rfl, ?_⟩) (by assumption) ?_
            rotate_left
            · (intro w hSw; (try dsimp only at hSw); go_simp; (try with_reducible rfl))
            (try simp only [Act.put, List.setIfInBounds_toArray, List.set_cons_zero, List.set_cons_succ])
            refine wpAnyH_take (i := 14) (v := ?_) (toArr_get _ 14 _ rfl) (by kernel_rfl) (by kernel_rfl) (by kernel_rfl) (fun _ _ _ h => h) (Or.inl ⟨by rfl, ?_⟩) (by assumption) ?_
            rotate_left
            · (intro w hSw; (try dsimp only at hSw); go_simp; (try with_reducible rfl))
            (try simp only [Act.put, List.setIfInBounds_toArray, List.set_cons_zero, List.set_cons_succ])
            refine wpAnyH_ready (rs := [11]) (by kernel_rfl) (by simp) ?_
            refine AllReadyH.cons (toArr_get _ 11 _ rfl) (fun K hK => ?_) ?_
            · have l11 := B7.out.at6 u u0 up
              go_simp
              clear l11
              refine hK.out _ _ ?_ (fun hHeld2 => ?_)
              · (try dsimp only)
                all_goals exact True.intro
              clear hK K hHeld
              have hHeld := hHeld2
              clear hHeld2
              (try simp only [Act.put, List.setIfInBounds_toArray, List.set_cons_zero, List.set_cons_succ])
              refine wpAnyH_take (i := 12) (v := ?_) (toArr_get _ 12 _ rfl) (by kernel_rfl) (by kernel_rfl) (by kernel_rfl) (fun _ _ _ h => h) (Or.inl ⟨by rfl, ?_⟩) (by assumption) ?_
              rotate_left
              · (intro w hSw; (try dsimp only at hSw); go_simp; (try with_reducible rfl))
              (try simp only [Act.put, List.setIfInBounds_toArray, List.set_cons_zero, List.set_cons_succ])
              refine wpAnyH_ready (rs := [13]) (by kernel_rfl) (by simp) ?_
              refine AllReadyH.cons (toArr_get _ 13 _ rfl) (fun K hK => ?_) ?_
              · have l13 := B6.out.at3 (sel6 u) s0 s1
                go_simp
                clear l13
                refine hK.out _ _ ?_ (fun hHeld2 => ?_)
                · (try dsimp only)
                  all_goals exact True.intro
                clear hK K hHeld
                have hHeld := hHeld2
                clear hHeld2
                (try simp only [Act.put, List.setIfInBounds_toArray, List.set_cons_zero, List.set_cons_succ])
                refine wpAnyH_take (i := 15) (v := ?_) (toArr_get _ 15 _ rfl) (by kernel_rfl) (by kernel_rfl) (by kernel_rfl) (fun _ _ _ h => h) (Or.inl ⟨by rfl, ?_⟩) (by assumption) ?_
                rotate_left
                · (intro w hSw; (try dsimp only at hSw); go_simp; (try with_reducible rfl))
                (try simp only [Act.put, List.setIfInBounds_toArray, List.set_cons_zero, List.set_cons_succ])
                refine wpAnyH_done (by kernel_rfl) ?_ _
                refine NoPanic.normal ?_
                go_wp2_with fail
                go_ret2
                have bd := sel3_in (u := sel6 u) (x := x) (y := y * 7) (z := -1) (lo := -1) (hi := 1785) (by omega) (by omega) (by omega) (by omega) (by omega) (by omega)
                exact ⟨g, cap2, ts, _, rfl, bd.1, bd.2, hlen, hlc, hcm, HW.out.gb HR2.out G.out, HB1.out.trans (gb_to_below (gb_trans HG2.out G.out) (Nat.le_refl _) HB1.out.size)⟩
              exact AllReadyH.nil
            exact AllReadyH.nil
          exact AllReadyH.nil
        refine AllReadyH.cons (toArr_get _ 9 _ rfl) (fun K hK => ?_) ?_
        · go_simp
          go_at_call 39
          refine (pick_any w.heap.size 202 6 _ R.out (by omega)).mono ?_
          rintro e wu ⟨u, rfl, u0, u1, _, hgu, hru⟩
          have up := u1 (by decide)
          have G := Lib.hid (gb_trans G.out hgu)
          have R := Lib.hid hru
          (try have B7 := Lib.hid (B7.out.grow hgu))
          (try have B6 := Lib.hid (B6.out.grow hgu))
          clear hgu hru u1
          have s0 := sel6_lo u
          have s1 := sel6_hi u
          go_wp2_with fail
          refine hK.out _ _ ?_ (fun hHeld2 => ?_)
          · (try dsimp only)
            all_goals exact True.intro
          clear hK K hHeld
          have hHeld := hHeld2
          clear hHeld2
          (try simp only [Act.put, List.setIfInBounds_toArray, List.set_cons_zero, List.set_cons_succ])
          refine wpAnyH_take (i := 10) (v := ?_) (toArr_get _ 10 _ rfl) (by kernel_rfl) (by kernel_rfl) (by kernel_rfl) (fun _ _ _ h => h) (Or.inl ⟨by rfl, ?_⟩) (by assumption) ?_
          rotate_left
          · (intro w hSw; (try dsimp only at hSw); go_simp; (try with_reducible rfl))
          (try simp only [Act.put, List.setIfInBounds_toArray, List.set_cons_zero, List.set_cons_succ])
          refine wpAnyH_take (i := 14) (v := ?_) (toArr_get _ 14 _ rfl) (by kernel_rfl) (by kernel_rfl) (by kernel_rfl) (fun _ _ _ h => h) (Or.inl ⟨by rfl, ?_⟩) (by assumption) ?_
          rotate_left
          · (intro w hSw; (try dsimp only at hSw); go_simp; (try with_reducible rfl))
          (try simp only [Act.put, List.setIfInBounds_toArray, List.set_cons_zero, List.set_cons_succ])
          refine wpAnyH_ready (rs := [6, 11]) (by kernel_rfl) (by simp) ?_
          refine AllReadyH.cons (toArr_get _ 6 _ rfl) (fun K hK => ?_) ?_
          · go_simp
            generalize hWB6 : World.alloc _ _ = wB6
            have B6 := Lib.hid (Blk.new3 hWB6 R.out.lt)
            (try have B7 := Lib.hid (B7.out.grow (gb_alloc' (gb_refl _ _) hWB6)))
            have G := Lib.hid (gb_alloc' G.out hWB6)
            have R := Lib.hid (R.out.alloc' hWB6)
            clear hWB6
            refine hK.out _ _ ?_ (fun hHeld2 => ?_)
            · (try dsimp only)
              all_goals exact True.intro
            clear hK K hHeld
            have hHeld := hHeld2
            clear hHeld2
            (try simp only [Act.put, List.setIfInBounds_toArray, List.set_cons_zero, List.set_cons_succ])
            refine wpAnyH_ready (rs := [11]) (by kernel_rfl) (by simp) ?_
            refine AllReadyH.cons (toArr_get _ 11 _ rfl) (fun K hK => ?_) ?_
            · have l11 := B7.out.at6 u u0 up
              go_simp
              clear l11
              refine hK.out _ _ ?_ (fun hHeld2 => ?_)
              · (try dsimp only)
                all_goals exact True.intro
              clear hK K hHeld
              have hHeld := hHeld2
              clear hHeld2
              (try simp only [Act.put, List.setIfInBounds_toArray, List.set_cons_zero, List.set_cons_succ])
              refine wpAnyH_take (i := 12) (v := ?_) (toArr_get _ 12 _ rfl) (by kernel_rfl) (by kernel_rfl) (by kernel_rfl) (fun _ _ _ h => h) (Or.inl ⟨by rfl, ?_⟩) (by assumption) ?_
              rotate_left
              · (intro w hSw; (try dsimp only at hSw); go_simp; (try with_reducible rfl))
              (try simp only [Act.put, List.setIfInBounds_toArray, List.set_cons_zero, List.set_cons_succ])
              refine wpAnyH_ready (rs := [13]) (by kernel_rfl) (by simp) ?_
              refine AllReadyH.cons (toArr_get _ 13 _ rfl) (fun K hK => ?_) ?_
              · have l13 := B6.out.at3 (sel6 u) s0 s1
                go_simp
                clear l13
                refine hK.out _ _ ?_ (fun hHeld2 => ?_)
                · (try dsimp only)
                  all_goals exact True.intro
                clear hK K hHeld
                have hHeld := hHeld2
                clear hHeld2
                (try simp only [Act.put, List.setIfInBounds_toArray, List.set_cons_zero, List.set_cons_succ])
                refine wpAnyH_take (i := 15) (v := ?_) (toArr_get _ 15 _ rfl) (by kernel_rfl) (by kernel_rfl) (by kernel_rfl) (fun _ _ _ h => h) (Or.inl ⟨by rfl, ?_⟩) (by assumption) ?_
                rotate_left
                · (intro w hSw; (try dsimp only at hSw); go_simp; (try with_reducible rfl))
                (try simp only [Act.put, List.setIfInBounds_toArray, List.set_cons_zero, List.set_cons_succ])
                refine wpAnyH_done (by kernel_rfl) ?_ _
                refine NoPanic.normal ?_
                go_wp2_with fail
                go_ret2
                have bd := sel3_in (u := sel6 u) (x := x) (y := y * 7) (z := -1) (lo := -1) (hi := 1785) (by omega) (by omega) (by omega) (by omega) (by omega) (by omega)
                exact ⟨g, cap2, ts, _, rfl, bd.1, bd.2, hlen, hlc, hcm, HW.out.gb HR2.out G.out, HB1.out.trans (gb_to_below (gb_trans HG2.out G.out) (Nat.le_refl _) HB1.out.size)⟩
              exact AllReadyH.nil
            exact AllReadyH.nil
          refine AllReadyH.cons (toArr_get _ 11 _ rfl) (fun K hK => ?_) ?_
          · have l11 := B7.out.at6 u u0 up
            go_simp
            clear l11
            refine hK.out _ _ ?_ (fun hHeld2 => ?_)
            · (try dsimp only)
              all_goals exact True.intro
            clear hK K hHeld
            have hHeld := hHeld2
            clear hHeld2
            (try simp only [Act.put, List.setIfInBounds_toArray, List.set_cons_zero, List.set_cons_succ])
            refine wpAnyH_ready (rs := [6]) (by kernel_rfl) (by simp) ?_
            refine AllReadyH.cons (toArr_get _ 6 _ rfl) (fun K hK => ?_) ?_
            · go_simp
              generalize hWB6 : World.alloc _ _ = wB6
              have B6 := Lib.hid (Blk.new3 hWB6 R.out.lt)
              (try have B7 := Lib.hid (B7.out.grow (gb_alloc' (gb_refl _ _) hWB6)))
              have G := Lib.hid (gb_alloc' G.out hWB6)
              have R := Lib.hid (R.out.alloc' hWB6)
              clear hWB6
              refine hK.out _ _ ?_ (fun hHeld2 => ?_)
              · (try dsimp only)
                all_goals exact True.intro
              clear hK K hHeld
              have hHeld := hHeld2
              clear hHeld2
              (try simp only [Act.put, List.setIfInBounds_toArray, List.set_cons_zero, List.set_cons_succ])
              refine wpAnyH_take (i := 12) (v := ?_) (toArr_get _ 12 _ rfl) (by kernel_rfl) (by kernel_rfl) (by kernel_rfl) (fun _ _ _ h => h) (Or.inl ⟨by rfl, ?_⟩) (by assumption) ?_
              rotate_left
              · (intro w hSw; (try dsimp only at hSw); go_simp; (try with_reducible rfl))
              (try simp only [Act.put, List.setIfInBounds_toArray, List.set_cons_zero, List.set_cons_succ])
              refine wpAnyH_ready (rs := [13]) (by kernel_rfl) (by simp) ?_
              refine AllReadyH.cons (toArr_get _ 13 _ rfl) (fun K hK => ?_) ?_
              · have l13 := B6.out.at3 (sel6 u) s0 s1
                go_simp
                clear l13
                refine hK.out _ _ ?_ (fun hHeld2 => ?_)
                · (try dsimp only)
                  all_goals exact True.intro
                clear hK K hHeld
                have hHeld := hHeld2
                clear hHeld2
                (try simp only [Act.put, List.setIfInBounds_toArray, List.set_cons_zero, List.set_cons_succ])
                refine wpAnyH_take (i := 15) (v := ?_) (toArr_get _ 15 _ rfl) (by kernel_rfl) (by kernel_rfl) (by kernel_rfl) (fun _ _ _ h => h) (Or.inl ⟨by rfl, ?_⟩) (by assumption) ?_
                rotate_left
                · (intro w hSw; (try dsimp only at hSw); go_simp; (try with_reducible rfl))
                (try simp only [Act.put, List.setIfInBounds_toArray, List.set_cons_zero, List.set_cons_succ])
                refine wpAnyH_done (by kernel_rfl) ?_ _
                refine NoPanic.normal ?_
                go_wp2_with fail
                go_ret2
                have bd := sel3_in (u := sel6 u) (x := x) (y := y * 7) (z := -1) (lo := -1) (hi := 1785) (by omega) (by omega) (by omega) (by omega) (by omega) (by omega)
                exact ⟨g, cap2, ts, _, rfl, bd.1, bd.2, hlen, hlc, hcm, HW.out.gb HR2.out G.out, HB1.out.trans (gb_to_below (gb_trans HG2.out G.out) (Nat.le_refl _) HB1.out.size)⟩
              exact AllReadyH.nil
            exact AllReadyH.nil
          exact AllReadyH.nil
        exact AllReadyH.nil
      exact AllReadyH.nil
    exact AllReadyH.nil
  exact AllReadyH.nil
  --END A

end Go.Proofs.Ytnpgndeoakignaa
