/- Contracts of math/bits.Len of a small number, of the comparison that impl.DeadlineMonotonic hands on, of slices.insertionSortCmpFunc, pdqsortCmpFunc and SortFunc over it (at most five elements), and of impl.DeadlineMonotonic. Conditions: the slices hold what is said. -/
import Derived.Test.YtdgihkmiolnglaaGreatDoorPermImpl
import Derived.Test.YtdgihkmiolnglaaGreatDoorCmpBase
import Derived.Test.YtdgihkmiolnglaaGreatDoorDmSpec
import Derived.BigRegion
namespace Go.Proofs.YtdgihkmiolnglaaGreatDoor
open Go.RowKit Go.Deep

theorem cmp_dm {ts : List T3} {x y : Nat} : orI (cmpI (dln (tk ts x) : Nat) (dln (tk ts y) : Nat)) (cmpI (x : Int) y) < 0 ↔ dmB ts x y = true := by
  rw [orI_lt]
  simp only [dmB, decide_eq_true_eq]
  omega

set_option maxRecDepth 100000 in
/-- The comparison of impl.DeadlineMonotonic. -/
theorem dmCmp_any (cb : Nat) (ta : Option Addr) (tcap : Nat) (ts : List T3) (x y : Nat) (w : World) (hc : w.cell? ⟨cb, 0, none⟩ = some (.slice ta ts.length tcap)) (hr : Row w ta ts) (hv : ts.all tv = true) (hx : x < ts.length) (hy : y < ts.length) :
    Calls Tryz.prog 88 #[.int .i64 (x : Int), .int .i64 (y : Int), .pointer (some ⟨cb, 0, none⟩)] w fun e w' =>
      e = .returned (.int .i64 (orI (cmpI (dln (tk ts x) : Nat) (dln (tk ts y) : Nat)) (cmpI (x : Int) y))) ∧ Below w.heap.size w w' := by
  obtain ⟨bt, ot, rfl, hbt, _, x1, _⟩ := hr.at hx
  obtain ⟨bt', ot', e, _, _, y1, _⟩ := hr.at hy
  simp only [Option.some.injEq, Addr.mk.injEq, and_true] at e
  obtain ⟨rfl, rfl⟩ := e
  rw [← (tv_bd (tk_tv hv hx)).2.2.2.2.2.2.1] at x1
  rw [← (tv_bd (tk_tv hv hy)).2.2.2.2.2.2.1] at y1
  clear hr hv
  have hx0 : (0 : Int) ≤ x := by omega
  have hx1 : (x : Int) < ts.length := by omega
  have hy0 : (0 : Int) ≤ y := by omega
  have hy1 : (y : Int) < ts.length := by omega
  obtain ⟨c1, hc1⟩ : ∃ c, c = cmpI (dln (tk ts x) : Nat) (dln (tk ts y) : Nat) := ⟨_, rfl⟩
  obtain ⟨c2, hc2⟩ : ∃ c, c = cmpI (x : Int) y := ⟨_, rfl⟩
  have C1 := fun W => compare_any ((dln (tk ts x) : Nat) : Int) ((dln (tk ts y) : Nat) : Int) W
  have C2 := fun W => compare_any (x : Int) (y : Int) W
  rw [← hc1] at C1
  rw [← hc2] at C2
  rw [← hc1, ← hc2]
  clear hc1 hc2
  go_enter Tryz.func88, Tryz.ntmps88
  go_wp2
  refine wp_region_still_tail 14 (by kernel_rfl) (by kernel_rfl) ?_
  simp only [List.take_succ_cons, List.take_zero, List.drop_succ_cons, List.drop_zero]
  change wpStill _ _ w.drew (fun a' => wpList _ _ _ _ a' w.drew) _ _
  iterate 10 still_step
  still_call (C1 _)
  iterate 2 still_step
  still_call (C2 _)
  refine wpStill_nil ?_
  generalize hW : w.drew = W
  have HW := Lib.hid hW
  clear hW C1 C2
  go_wp2_with fail
  refine (or_new _ _ _).mono ?_
  rintro e w' ⟨rfl, rfl⟩
  go_wp2
  go_ret
  refine ⟨rfl, ?_⟩
  rw [← HW.out]
  exact (Below.refl _ _).drew.alloc (Nat.le_refl _) _

/-- What the sort keeps: from wS on only new memory turned; the slice in block g holds f. -/
structure DS (wS w : World) (g n cap : Nat) (f : Nat → Nat) : Prop where
  bl : Below wS.heap.size wS w
  ow : OwnI w wS.heap.size (.slice (some ⟨g, 0, none⟩) n cap) n (fun k => ((f k : Nat) : Int))
theorem DS.below {wS w w' : World} {g n cap : Nat} {f : Nat → Nat} (h : DS wS w g n cap f) (hb : Below w.heap.size w w') : DS wS w' g n cap f := ⟨h.bl.trans (hb.mono h.bl.size), h.ow.below hb⟩
theorem DS.swap {wS w : World} {g n cap i j : Nat} {f : Nat → Nat} (h : DS wS w g n cap f) (hi : i < n) (hj : j < n) :
    DS wS ((w.setCell ⟨g, i, none⟩ (.int .i64 (f j : Int))).setCell ⟨g, j, none⟩ (.int .i64 (f i : Int))) g n cap (swp f i j) := by
  have hg := (h.ow.lt g rfl).1
  refine ⟨(h.bl.setCell hg _).setCell hg _, ((h.ow.set hi (f j : Int)).set hj (f i : Int)).congr fun k _ => ?_⟩
  unfold swp
  by_cases h1 : k = j
  · rw [if_pos h1, if_pos h1]
  · by_cases h2 : k = i
    · rw [if_neg h1, if_neg h1, if_pos h2, if_pos h2]
    · rw [if_neg h1, if_neg h1, if_neg h2, if_neg h2]

set_option maxRecDepth 100000 in
set_option maxHeartbeats 4000000 in
/-- slices.insertionSortCmpFunc, from 0 on. -/
theorem insertion_any (cb g cap tcap : Nat) (ta : Option Addr) (ts : List T3) (wS w : World) (f : Nat → Nat) (hc : wS.cell? ⟨cb, 0, none⟩ = some (.slice ta ts.length tcap)) (hr : Row wS ta ts) (hv : svB ts = true) (h : DS wS w g ts.length cap f) (hp : PermF f ts.length) :
    Calls Tryz.prog 132 #[.slice (some ⟨g, 0, none⟩) ts.length cap, .int .i64 0, .int .i64 (ts.length : Int), .func (.func 88) #[] #[.pointer (some ⟨cb, 0, none⟩)]] w fun e w' =>
      e = .returned (.tuple #[]) ∧ ∃ f', DS wS w' g ts.length cap f' ∧ PermF f' ts.length ∧ SrtF ts f' ts.length := by
  have HD := Lib.hid h
  have HP := Lib.hid hp
  have hn5 := (sv_all hv).2
  have CC := Lib.hid (fun x y W (B : Below wS.heap.size wS W) (hx : x < ts.length) (hy : y < ts.length) => dmCmp_any cb ta tcap ts x y W ((B.cell (p := ⟨cb, 0, none⟩) (World.block_lt_of_cell? wS ⟨cb, 0, none⟩ hc)).trans hc) (hr.below B) (sv_all hv).1 hx hy)
  clear hc hr hv h hp
  go_enter Tryz.func132, Tryz.ntmps132
  go_wp2
  go_loopg [8] ts.length (fun m z wr => ∃ (i : Nat) (f : Nat → Nat), m + i = ts.length + 1 ∧ 1 ≤ i ∧ z = .int .i64 (i : Int) ∧ DS wS wr g ts.length cap f ∧ PermF f ts.length ∧ (i ≤ ts.length → SrtF ts f i) ∧ (ts.length < i → ts.length = 0))
  case atStart => exact ⟨1, f, by omega, by omega, by go_num, HD.out, HP.out, fun _ a b h1 h2 => by omega, fun _ => by omega⟩
  case round =>
    clear HD HP
    obtain ⟨i, f, hm, hi1, rfl, hd, hp, hs, hz⟩ := hrel
    obtain ⟨G, hG⟩ : ∃ G, G = gk := ⟨_, rfl⟩
    have HG := Lib.hid hG
    have HM := Lib.hid hm
    have HD := Lib.hid hd
    have HP := Lib.hid hp
    have HS := Lib.hid hs
    have HZ := Lib.hid hz
    have hib : i ≤ 6 := by omega
    clear hm hd hp hs hz hG
    by_cases hlt : i < ts.length
    · have hlt' : (i : Int) < ts.length := by omega
      go_wp2
      go_loopg [9] i (fun m z w2 => ∃ (j : Nat) (f : Nat → Nat), m = j ∧ j ≤ i ∧ z = .int .i64 (j : Int) ∧ DS wS w2 g ts.length cap f ∧ PermF f ts.length ∧ InsF ts f i j)
      case atStart => exact ⟨i, f, rfl, Nat.le_refl _, rfl, HD.out, HP.out, InsF.start (HS.out (by omega))⟩
      case round =>
        clear HD HP HS
        obtain ⟨j, f, hm, hji, rfl, hd, hp, hins⟩ := hrel
        have HJ := Lib.hid hm
        have HD := Lib.hid hd
        have HP := Lib.hid hp
        have HI := Lib.hid hins
        clear hm hd hp hins
        cases j with
        | zero =>
          have h0 : decide ((0 : Int) < ((0 : Nat) : Int)) = false := by decide
          go_wp2
          go_quiet (fail)
          go_wp2
          go_roundg (G - 1)
          case measure => have := HG.out; have := HM.out; omega
          case rel => exact ⟨i + 1, f, by have := HG.out; have := HM.out; omega, by omega, by go_num, HD.out.below (below_drewN _ _), HP.out, fun _ => HI.out.done HP.out hlt (Nat.zero_le _) (.inl rfl), fun h => by omega⟩
        | succ j =>
          have h0 : (0 : Int) < ((j + 1 : Nat) : Int) := by omega
          have hw1 : IntKind.i64.wrap ((j : Int) + 1 - 1) = (j : Int) := by rw [IntWalk.i64_in _ (by omega)]; omega
          have hw2 : IntKind.i64.wrap (j : Int) = (j : Int) := IntWalk.i64_in _ (by omega)
          have hj0 : (0 : Int) ≤ (j : Int) := by omega
          have hj1 : (j : Int) < ts.length := by omega
          have hj2 : (0 : Int) ≤ (j : Int) + 1 := by omega
          have hj3 : (j : Int) + 1 < ts.length := by omega
          have xa := (HD.out.ow.cellAt (k := j + 1) (by omega)).1
          have xb := (HD.out.ow.cellAt (k := j) (by omega)).1
          have za := (HD.out.ow.cellAt (k := j + 1) (by omega)).2.1
          have zb := (HD.out.ow.cellAt (k := j) (by omega)).2.1
          have CX := CC.out (f (j + 1)) (f j) wr.drew HD.out.bl.drew (HP.out.lt _ (by omega)) (HP.out.lt _ (by omega))
          have hcm := cmp_dm (ts := ts) (x := f (j + 1)) (y := f j)
          obtain ⟨c, hc⟩ : ∃ c, c = orI (cmpI (dln (tk ts (f (j + 1))) : Nat) (dln (tk ts (f j)) : Nat)) (cmpI (f (j + 1) : Int) (f j)) := ⟨_, rfl⟩
          rw [← hc] at CX hcm
          have CX := Lib.hid CX
          have HCM := Lib.hid hcm
          clear hc hcm
          by_cases hless : c < 0
          · go_wp2
            refine wp_region_still_tail 14 (by kernel_rfl) (by kernel_rfl) ?_
            simp only [List.take_succ_cons, List.take_zero, List.drop_succ_cons, List.drop_zero]
            change wpStill _ _ wr.drew (fun a' => wpList _ _ _ _ a' wr.drew) _ _
            iterate 14 still_step
            refine wpStill_nil ?_
            go_wp2_with fail
            refine CX.out.mono ?_
            rintro e w3 ⟨rfl, b3⟩
            have B3 : Below wr.heap.size wr w3 := (Below.refl _ _).drew.trans b3
            have D3 := Lib.hid (HD.out.below B3)
            clear b3 B3
            have ya := (D3.out.ow.cellAt (k := j + 1) (by omega)).1
            have yb := (D3.out.ow.cellAt (k := j) (by omega)).1
            have va := (D3.out.ow.cellAt (k := j + 1) (by omega)).2.1
            have vb := (D3.out.ow.cellAt (k := j) (by omega)).2.1
            have xs : (w3.setCell ⟨g, j + 1, none⟩ (.int .i64 (f j : Int))).cell? ⟨g, j, none⟩ = some (.int .i64 (f j : Int)) := by
              have h2 := (D3.out.ow.set (show j + 1 < ts.length by omega) (f j : Int)).cellAt (k := j) (by omega)
              rw [h2.1, if_neg (by omega)]
            clear xa xb za zb
            go_wp2
            go_region
            go_wp2
            go_roundg (gk - 1)
            case measure => have := HJ.out; omega
            case rel => exact ⟨j, swp f (j + 1) j, by have := HJ.out; omega, by omega, by go_num, (D3.out.swap (i := j + 1) (j := j) (by omega) (by omega)).below (Below.refl _ _).drew, HP.out.swap (by omega) (by omega), HI.out.step (by omega) (HCM.out.1 hless)⟩
          · go_wp2
            refine wp_region_still_tail 14 (by kernel_rfl) (by kernel_rfl) ?_
            simp only [List.take_succ_cons, List.take_zero, List.drop_succ_cons, List.drop_zero]
            change wpStill _ _ wr.drew (fun a' => wpList _ _ _ _ a' wr.drew) _ _
            iterate 14 still_step
            refine wpStill_nil ?_
            go_wp2_with fail
            refine CX.out.mono ?_
            rintro e w3 ⟨rfl, b3⟩
            have B3 : Below wr.heap.size wr w3 := (Below.refl _ _).drew.trans b3
            have D3 := Lib.hid (HD.out.below B3)
            clear b3 B3
            clear xa xb za zb
            go_wp2
            go_roundg (G - 1)
            case measure => have := HG.out; have := HM.out; omega
            case rel => exact ⟨i + 1, f, by have := HG.out; have := HM.out; omega, by omega, by go_num, D3.out, HP.out, fun _ => HI.out.done HP.out hlt hji (.inr (fun h => by have := HCM.out.2 h; omega)), fun h => by omega⟩
    · go_wp2
      go_end0
      refine ⟨rfl, f, HD.out, HP.out, ?_⟩
      by_cases e : i = ts.length
      · rw [← e]; exact HS.out (by omega)
      · have := HZ.out (by omega)
        intro a b h1 h2
        omega

set_option maxRecDepth 100000 in
/-- slices.pdqsortCmpFunc of at most twelve elements. -/
theorem pdq_any (cb g cap tcap : Nat) (lim : Int) (ta : Option Addr) (ts : List T3) (wS w : World) (f : Nat → Nat) (hc : wS.cell? ⟨cb, 0, none⟩ = some (.slice ta ts.length tcap)) (hr : Row wS ta ts) (hv : svB ts = true) (h : DS wS w g ts.length cap f) (hp : PermF f ts.length) :
    Calls Tryz.prog 113 #[.slice (some ⟨g, 0, none⟩) ts.length cap, .int .i64 0, .int .i64 (ts.length : Int), .int .i64 lim, .func (.func 88) #[] #[.pointer (some ⟨cb, 0, none⟩)]] w fun e w' =>
      e = .returned (.tuple #[]) ∧ ∃ f', DS wS w' g ts.length cap f' ∧ PermF f' ts.length ∧ SrtF ts f' ts.length := by
  have CI := Lib.hid (insertion_any cb g cap tcap ta ts wS w f hc hr hv h hp)
  have hn5 := (sv_all hv).2
  have hn12 : (ts.length : Int) ≤ 12 := by omega
  clear hc hr hv h hp
  go_enter Tryz.func113, Tryz.ntmps113
  go_wp2
  refine wp_loop_rounds 1 ?_
  rw [rounds_succ]
  go_wp2_with (go_at_call 132; refine CI.out.mono ?_; rintro e w' ⟨rfl, hh⟩)
  (try simp only [Exit.inBlock, Exit.then])
  refine bodyPost_ret (results_none rfl _ _ _) rfl ?_
  exact ⟨rfl, hh⟩

set_option maxRecDepth 100000 in
/-- math/bits.Len of a number up to five. -/
theorem bitsLen_any (n : Nat) (w : World) (hn : n ≤ 5) : Calls Tryz.prog 114 #[.int .u64 (n : Int)] w fun e w' => (∃ l : Int, e = .returned (.int .i64 l)) ∧ w = w' := by
  have h : n = 0 ∨ n = 1 ∨ n = 2 ∨ n = 3 ∨ n = 4 ∨ n = 5 := by omega
  rcases h with rfl | rfl | rfl | rfl | rfl | rfl
  all_goals
    go_enter Tryz.func114, Tryz.ntmps114
    go_wp2
    go_ret
    exact ⟨⟨_, rfl⟩, rfl⟩

set_option maxRecDepth 100000 in
/-- slices.SortFunc of a permutation of at most five entries. -/
theorem sortFunc_any (cb g cap tcap : Nat) (ta : Option Addr) (ts : List T3) (wS w : World) (f : Nat → Nat) (hc : wS.cell? ⟨cb, 0, none⟩ = some (.slice ta ts.length tcap)) (hr : Row wS ta ts) (hv : svB ts = true) (h : DS wS w g ts.length cap f) (hp : PermF f ts.length) :
    Calls Tryz.prog 87 #[.slice (some ⟨g, 0, none⟩) ts.length cap, .func (.func 88) #[] #[.pointer (some ⟨cb, 0, none⟩)]] w fun e w' =>
      e = .returned (.tuple #[]) ∧ ∃ f', DS wS w' g ts.length cap f' ∧ PermF f' ts.length ∧ SrtF ts f' ts.length := by
  have CI := Lib.hid (fun lim => pdq_any cb g cap tcap lim ta ts wS w f hc hr hv h hp)
  have hn5 := (sv_all hv).2
  have hw : IntKind.u64.wrap (ts.length : Int) = (ts.length : Int) := IntWalk.u64_in _ (by omega)
  clear hc hr hv h hp
  go_enter Tryz.func87, Tryz.ntmps87
  go_wp2_with fail
  refine (bitsLen_any ts.length w hn5).mono ?_
  rintro e w1 ⟨⟨l, rfl⟩, rfl⟩
  go_wp2_with fail
  refine (CI.out l).mono ?_
  rintro e w2 ⟨rfl, hh⟩
  go_wp2
  go_end0
  exact ⟨rfl, hh⟩

set_option maxRecDepth 100000 in
/-- impl.DeadlineMonotonic. -/
theorem deadlineMonotonic_any (ta : Option Addr) (tcap : Nat) (ts : List T3) (w : World) (hr : Row w ta ts) (hn : ts.length ≤ 1099511627776) :
    Calls Tryz.prog 54 #[.slice ta ts.length tcap] w fun e w' =>
      GotInts w.heap.size (dmB' ts) e w' ∧ Below w.heap.size w w' := by
  obtain ⟨wS, hW⟩ : ∃ W, W = w.alloc (.cells #[.slice ta ts.length tcap] 27) := ⟨_, rfl⟩
  have BW : Below w.heap.size w wS := by rw [hW]; exact below_box _ _
  have q0 : wS.cell? ⟨w.heap.size, 0, none⟩ = some (.slice ta ts.length tcap) := by rw [hW]; simp [go_sem]
  have HR := Lib.hid (hr.below BW)
  have HW := Lib.hid hW
  clear hr hW
  cases hs : svB ts with
  | false =>
    have HA := Lib.hid (show dmB' ts = [] by rw [dmB', hs]; rfl)
    go_enter Tryz.func54, Tryz.ntmps54
    go_wp2_with fail
    rw [← HW.out]
    refine (setValid_any _ _ ts _ HR.out hn).mono ?_
    rintro e w1 ⟨rfl, b1⟩
    rw [hs]
    go_wp2
    go_ret
    exact ⟨⟨_, rfl, by rw [HA.out]; exact OwnI.nil _ _ _⟩, BW.trans (b1.mono BW.size)⟩
  | true =>
    have HS := Lib.hid hs
    have HA := Lib.hid (show dmB' ts = dmO ts by rw [dmB', hs]; rfl)
    have hn5 := (sv_all hs).2
    go_enter Tryz.func54, Tryz.ntmps54
    go_wp2_with fail
    rw [← HW.out]
    refine (setValid_any _ _ ts _ HR.out hn).mono ?_
    rintro e w1 ⟨rfl, b1⟩
    rw [HS.out]
    clear hs
    have hlt := World.block_lt_of_cell? wS ⟨w.heap.size, 0, none⟩ q0
    have q1 := (b1.cell (p := ⟨w.heap.size, 0, none⟩) hlt).trans q0
    go_wp2_with fail
    refine (identity_any ts.length w1 (by omega)).mono ?_
    rintro e w2 ⟨⟨v, rfl, hov, hnn⟩, b2⟩
    obtain ⟨g, cap, rfl⟩ : ∃ g cap, v = .slice (some ⟨g, 0, none⟩) ts.length cap := by
      obtain ⟨_, ⟨rfl, _⟩ | ⟨g, cap, cur, rfl, _⟩⟩ := hov
      · exact absurd rfl hnn
      · exact ⟨g, cap, rfl⟩
    have D2 := Lib.hid (show DS wS w2 g ts.length cap (fun k => k) from ⟨b1.trans (b2.mono b1.size), hov.mono b1.size⟩)
    clear hov hnn q1
    go_wp2_with fail
    refine (sortFunc_any w.heap.size g cap tcap ta ts wS w2 (fun k => k) q0 HR.out HS.out D2.out (PermF.start _)).mono ?_
    rintro e w3 ⟨rfl, f', hd, hp, hsr⟩
    have HE := Lib.hid (srt_dm HS.out hp hsr)
    have D3 := Lib.hid hd
    clear hd hp hsr
    go_wp2
    go_ret
    refine ⟨⟨_, rfl, ?_⟩, BW.trans (D3.out.bl.mono BW.size)⟩
    rw [HA.out]
    have hl := (ordB_iff.1 (dm_ord HS.out)).2.1
    rw [hl]
    refine (D3.out.ow.congr fun k hk => ?_).mono BW.size
    rw [← HE.out, List.getD_eq_getElem?_getD, List.getElem?_map, List.getElem?_range hk]
    rfl

end Go.Proofs.YtdgihkmiolnglaaGreatDoor
