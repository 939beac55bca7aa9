/- Contracts of spec.ResponseTimes and of the program's ResponseTimes and FixedFeasible. Conditions: the slices hold what is said, at most 2^20 entries. -/
import Derived.Test.YtdgihkmiolnglaaGreatDoorRespImpl
namespace Go.Proofs.YtdgihkmiolnglaaGreatDoor
open Go.RowKit Go.Deep

/-- The response time of task i, or -1. -/
def rtF (ts : List T3) (os : List Int) (i : Nat) : Int := optI (rspO ts os (rk os i))
/-- .. of the tasks of the first k places; d for the others. -/
def rtK (d : Int) (ts : List T3) (os : List Int) (k i : Nat) : Int := if rk os i < k then rtF ts os i else d
def rtN (ts : List T3) (os : List Int) : Nat := if ordB ts os = true then ts.length else 0
theorem rk_place {ts : List T3} {os : List Int} (h : ordB ts os = true) {k y : Nat} (hk : k < os.length) (hy : os.getD k 0 = (y : Int)) : rk os y = k := by
  have e : os[k]? = some (y : Int) := by
    rw [← hy, List.getD_eq_getElem?_getD, List.getElem?_eq_getElem hk]
    rfl
  have hm : (y : Int) ∈ os := List.mem_of_getElem? e
  exact (List.getElem?_inj (rk_lt hm) (ordB_iff.1 h).2.2.2).1 ((rk_at hm).trans e.symm)
theorem rtK_step {ts : List T3} {os : List Int} (h : ordB ts os = true) {k y : Nat} (d : Int) (hk : k < os.length) (hy : os.getD k 0 = (y : Int)) (i : Nat) (hi : i < ts.length) :
    (if i = y then optI (rspO ts os k) else rtK d ts os k i) = rtK d ts os (k + 1) i := by
  have hp := rk_place h hk hy
  unfold rtK
  by_cases e : i = y
  · subst e
    rw [if_pos rfl, if_pos (by omega), rtF, hp]
  · rw [if_neg e]
    have hyl : y < ts.length := by have := ord_at h hk; omega
    have hne : rk os i ≠ k := fun e2 => e (rk_inj h i y hi hyl (e2.trans hp.symm))
    by_cases hl : rk os i < k
    · rw [if_pos hl, if_pos (by omega)]
    · rw [if_neg hl, if_neg (by omega)]
theorem rtK_zero (d : Int) (ts : List T3) (os : List Int) (i : Nat) : d = rtK d ts os 0 i := by simp [rtK]
theorem rtK_all {ts : List T3} {os : List Int} (h : ordB ts os = true) (d : Int) (i : Nat) (hi : i < ts.length) : rtK d ts os os.length i = rtF ts os i := by
  unfold rtK
  rw [if_pos (rk_lt (ord_all h hi))]
theorem rtN_yes {ts : List T3} {os : List Int} (h : ordB ts os = true) : rtN ts os = ts.length := if_pos h
theorem rtN_no {ts : List T3} {os : List Int} (h : ordB ts os = false) : rtN ts os = 0 := if_neg (by rw [h]; simp)

/-- Response times were returned, in memory of its own. -/
def GotRt (base : Nat) (ts : List T3) (os : List Int) (e : Ending) (w' : World) : Prop := ∃ v, e = .returned v ∧ OwnI w' base v (rtN ts os) (rtF ts os)

set_option maxRecDepth 100000 in
set_option maxHeartbeats 2000000 in
/-- spec.ResponseTimes. -/
theorem specResponseTimes_any (ta oa : Option Addr) (tcap ocap : Nat) (ts : List T3) (os : List Int) (w : World) (hr : Row w ta ts) (ho : IntF w oa os.length fun k => os.getD k 0) (hn : ts.length ≤ 1048576) (hc : os.length ≤ ocap) :
    Calls Tryz.prog 34 #[.slice ta ts.length tcap, .slice oa os.length ocap] w fun e w' =>
      GotRt w.heap.size ts os e w' ∧ Below w.heap.size w w' := by
  have HR := Lib.hid hr
  have HO := Lib.hid ho
  clear hr ho
  cases hv : ordB ts os with
  | false =>
    have HN := Lib.hid (rtN_no hv)
    go_enter Tryz.func34, Tryz.ntmps34
    go_wp2_with fail
    refine (specOrderValid_any _ _ _ _ _ _ _ HR.out HO.out hn hc).mono ?_
    rintro e w1 ⟨rfl, b1⟩
    rw [hv]
    go_wp2
    go_ret
    exact ⟨⟨_, rfl, by rw [HN.out]; exact (OwnI.empty w1 _).mono b1.size⟩, b1.alloc b1.size _⟩
  | true =>
    have HV := Lib.hid hv
    have hn5 : os.length ≤ 5 := by have h1 := ordB_iff.1 hv; have := (sv_all h1.1).2; omega
    have hmk := run_make_ints ts.length (by omega)
    go_enter Tryz.func34, Tryz.ntmps34
    go_wp2_with fail
    refine (specOrderValid_any _ _ _ _ _ _ _ HR.out HO.out hn hc).mono ?_
    rintro e w1 ⟨rfl, b1⟩
    rw [HV.out]
    clear hv
    have hs1 := b1.size
    go_wp2
    clear hmk
    go_loopg [6] os.length (fun m i wr => ∃ k : Nat, m + k = os.length ∧ i = .int .i64 k ∧ OwnI wr w1.heap.size (.slice (some ⟨w1.heap.size, 0, none⟩) ts.length ts.length) ts.length (rtK 0 ts os k) ∧ Below w.heap.size w wr)
    case atStart => exact ⟨0, rfl, rfl, (rowIs_ownI (World.rowIs_made w1 (.int .i64 0) ts.length 3) (Nat.le_refl _) (by unfold maxLen; omega)).congr (fun j _ => rtK_zero _ _ _ _), b1.alloc b1.size _⟩
    case round =>
      obtain ⟨k, hk, rfl, hown, hb⟩ := hrel
      have HK := Lib.hid hk
      have HW := Lib.hid hown
      have hk' : k ≤ os.length := by omega
      clear hk hown
      by_cases hlt : k < os.length
      · have RF := Lib.hid (HO.out.below hb)
        obtain ⟨b, off, rfl, hbw, _⟩ := HO.out k hlt
        obtain ⟨b', off', e, hbs, c0⟩ := RF.out k hlt
        simp only [Option.some.injEq, Addr.mk.injEq, and_true] at e
        obtain ⟨rfl, rfl⟩ := e
        have hb1 : w1.heap.size ≠ b := by omega
        have hyb := ord_at HV.out hlt
        have HL := Lib.hid (rsp_list HV.out k)
        obtain ⟨y, hy⟩ : ∃ y, y = (os.getD k 0).toNat := ⟨_, rfl⟩
        rw [← hy] at HL
        have hy' : os.getD k 0 = (y : Int) := by omega
        have HY := Lib.hid hy'
        simp only [hy'] at c0
        have hyl : y < ts.length := by omega
        have hy0 : (0 : Int) ≤ y := by omega
        have hy1 : (y : Int) < ts.length := by omega
        have hk0 : (0 : Int) ≤ k := by omega
        have hk1 : (k : Int) < os.length := by omega
        have hk2 : (k : Int) ≤ ocap := by omega
        have CX := Lib.hid (fun W (B : Below wr.heap.size wr W) => l4Response_any ta (some ⟨b, off, none⟩) tcap ocap ts (abv os k) y W ((HR.out.below hb).below B)
          ((RF.out.below B).abv HV.out hk') (sv_all (ordB_iff.1 HV.out).1).1 (abv_getD HV.out) (by rw [abv_len hk']; omega) hyl)
        rw [abv_len hk'] at CX
        simp only [HL.out] at CX
        clear hy hyb hy' HL
        go_wp2
        refine wp_region_held_drew (S := fun w' => w'.cell? ⟨b, off + k, none⟩ = some (.int .i64 (y : Int))) (by kernel_rfl) ?_ (fun hHeld => ?_)
        · (try dsimp only)
          exact c0
        refine wpAnyH_take (i := 0) (v := ?_) (toArr_get _ 0 _ rfl) (by kernel_rfl) (by kernel_rfl) (by kernel_rfl) (fun _ _ _ h => h) (Or.inl ⟨by rfl, ?_⟩) (by assumption) ?_
        rotate_left
        · (intro w hSw; (try dsimp only at hSw); go_simp; (try with_reducible rfl))
        (try simp only [Act.put, List.setIfInBounds_toArray, List.set_cons_zero, List.set_cons_succ])
        refine wpAnyH_take (i := 1) (v := ?_) (toArr_get _ 1 _ rfl) (by kernel_rfl) (by kernel_rfl) (by kernel_rfl) (fun _ _ _ h => h) (Or.inl ⟨by rfl, ?_⟩) (by assumption) ?_
        rotate_left
        · (intro w hSw; (try dsimp only at hSw); go_simp; (try with_reducible rfl))
        (try simp only [Act.put, List.setIfInBounds_toArray, List.set_cons_zero, List.set_cons_succ])
        refine wpAnyH_take (i := 2) (v := ?_) (toArr_get _ 2 _ rfl) (by kernel_rfl) (by kernel_rfl) (by kernel_rfl) (fun _ _ _ h => h) (Or.inl ⟨by rfl, ?_⟩) (by assumption) ?_
        rotate_left
        · (intro w hSw; (try dsimp only at hSw); go_simp; (try with_reducible rfl))
        (try simp only [Act.put, List.setIfInBounds_toArray, List.set_cons_zero, List.set_cons_succ])
        refine wpAnyH_take (i := 3) (v := ?_) (toArr_get _ 3 _ rfl) (by kernel_rfl) (by kernel_rfl) (by kernel_rfl) (fun _ _ _ h => h) (Or.inl ⟨by rfl, ?_⟩) (by assumption) ?_
        rotate_left
        · (intro w hSw; (try dsimp only at hSw); go_simp; (try with_reducible rfl))
        (try simp only [Act.put, List.setIfInBounds_toArray, List.set_cons_zero, List.set_cons_succ])
        refine wpAnyH_take (i := 4) (v := ?_) (toArr_get _ 4 _ rfl) (by kernel_rfl) (by kernel_rfl) (by kernel_rfl) (fun _ _ _ h => h) (Or.inl ⟨by rfl, ?_⟩) (by assumption) ?_
        rotate_left
        · (intro w hSw; (try dsimp only at hSw); go_simp; (try with_reducible rfl))
        (try simp only [Act.put, List.setIfInBounds_toArray, List.set_cons_zero, List.set_cons_succ])
        refine wpAnyH_take (i := 5) (v := ?_) (toArr_get _ 5 _ rfl) (by kernel_rfl) (by kernel_rfl) (by kernel_rfl) (fun _ _ _ h => h) (Or.inl ⟨by rfl, ?_⟩) (by assumption) ?_
        rotate_left
        · (intro w hSw; (try dsimp only at hSw); go_simp; (try with_reducible rfl))
        (try simp only [Act.put, List.setIfInBounds_toArray, List.set_cons_zero, List.set_cons_succ])
        refine wpAnyH_take (i := 6) (v := ?_) (toArr_get _ 6 _ rfl) (by kernel_rfl) (by kernel_rfl) (by kernel_rfl) (fun _ _ _ h => h) (Or.inl ⟨by rfl, ?_⟩) (by assumption) ?_
        rotate_left
        · (intro w hSw; (try dsimp only at hSw); go_simp; (try with_reducible rfl))
        (try simp only [Act.put, List.setIfInBounds_toArray, List.set_cons_zero, List.set_cons_succ])
        refine wpAnyH_take (i := 7) (v := ?_) (toArr_get _ 7 _ rfl) (by kernel_rfl) (by kernel_rfl) (by kernel_rfl) (fun _ _ _ h => h) (Or.inl ⟨by rfl, ?_⟩) (by assumption) ?_
        rotate_left
        · (intro w hSw; (try dsimp only at hSw); go_simp; (try with_reducible rfl))
        (try simp only [Act.put, List.setIfInBounds_toArray, List.set_cons_zero, List.set_cons_succ])
        refine wpAnyH_take (i := 8) (v := ?_) (toArr_get _ 8 _ rfl) (by kernel_rfl) (by kernel_rfl) (by kernel_rfl) (fun _ _ _ h => h) (Or.inl ⟨by rfl, ?_⟩) (by assumption) ?_
        rotate_left
        · (intro w hSw; (try dsimp only at hSw); go_simp; (try with_reducible rfl))
        (try simp only [Act.put, List.setIfInBounds_toArray, List.set_cons_zero, List.set_cons_succ])
        refine wpAnyH_take (i := 9) (v := ?_) (toArr_get _ 9 _ rfl) (by kernel_rfl) (by kernel_rfl) (by kernel_rfl) (fun _ _ _ h => h) (Or.inl ⟨by rfl, ?_⟩) (by assumption) ?_
        rotate_left
        · (intro w hSw; (try dsimp only at hSw); go_simp; (try with_reducible rfl))
        (try simp only [Act.put, List.setIfInBounds_toArray, List.set_cons_zero, List.set_cons_succ])
        refine wpAnyH_take (i := 10) (v := ?_) (toArr_get _ 10 _ rfl) (by kernel_rfl) (by kernel_rfl) (by kernel_rfl) (fun _ _ _ h => h) (Or.inl ⟨by rfl, ?_⟩) (by assumption) ?_
        rotate_left
        · (intro w hSw; (try dsimp only at hSw); go_simp; (try with_reducible rfl))
        (try simp only [Act.put, List.setIfInBounds_toArray, List.set_cons_zero, List.set_cons_succ])
        refine wpAnyH_take (i := 11) (v := ?_) (toArr_get _ 11 _ rfl) (by kernel_rfl) (by kernel_rfl) (by kernel_rfl) (fun _ _ _ h => h) (Or.inl ⟨by rfl, ?_⟩) (by assumption) ?_
        rotate_left
        · (intro w hSw; (try dsimp only at hSw); go_simp; (try with_reducible rfl))
        (try simp only [Act.put, List.setIfInBounds_toArray, List.set_cons_zero, List.set_cons_succ])
        refine wpAnyH_take (i := 12) (v := ?_) (toArr_get _ 12 _ rfl) (by kernel_rfl) (by kernel_rfl) (by kernel_rfl) (fun _ _ _ h => h) (Or.inl ⟨by rfl, ?_⟩) (by assumption) ?_
        rotate_left
        · (intro w hSw; (try dsimp only at hSw); go_simp; (try with_reducible rfl))
        (try simp only [Act.put, List.setIfInBounds_toArray, List.set_cons_zero, List.set_cons_succ])
        refine wpAnyH_ready (rs := [13]) (by kernel_rfl) (by simp) ?_
        refine AllReadyH.cons (toArr_get _ 13 _ rfl) (fun K hK => ?_) ?_
        · go_simp
          refine (CX.out _ (Below.refl _ _).drew).mono ?_
          rintro e w2 ⟨rfl, b2⟩
          have B2 : Below wr.heap.size wr w2 := (Below.refl _ _).drew.trans b2
          have OW := Lib.hid (HW.out.below B2)
          have hcell := OW.out.cellAt hyl
          have z0 := hcell.1
          have z1 := hcell.2.1
          have hb2 := hb.trans (B2.mono hb.size)
          clear hcell B2
          go_wp2_with fail
          refine hK.out _ _ ?_ (fun hHeld2 => ?_)
          · (try dsimp only)
            exact (b2.cell (p := ⟨b, off + k, none⟩) hbs).trans hHeld
          clear hK K hHeld
          have hHeld := hHeld2
          clear hHeld2
          (try simp only [Act.put, List.setIfInBounds_toArray, List.set_cons_zero, List.set_cons_succ])
          refine wpAnyH_take (i := 14) (v := ?_) (toArr_get _ 14 _ rfl) (by kernel_rfl) (by kernel_rfl) (by kernel_rfl) (fun _ _ _ h => h) (Or.inl ⟨by rfl, ?_⟩) (by assumption) ?_
          rotate_left
          · (intro w hSw; (try dsimp only at hSw); go_simp; (try with_reducible rfl))
          (try simp only [Act.put, List.setIfInBounds_toArray, List.set_cons_zero, List.set_cons_succ])
          refine wpAnyH_ready (rs := [15]) (by kernel_rfl) (by simp) ?_
          refine AllReadyH.cons (toArr_get _ 15 _ rfl) (fun K hK => ?_) ?_
          · go_simp
            refine hK.out _ _ ?_ (fun hHeld2 => ?_)
            · (try dsimp only)
              exact (World.cell?_setCell_far _ _ _ _ (show w1.heap.size ≠ b from hb1)).trans hHeld
            clear hK K hHeld
            have hHeld := hHeld2
            clear hHeld2
            (try simp only [Act.put, List.setIfInBounds_toArray, List.set_cons_zero, List.set_cons_succ])
            refine wpAnyH_done (by kernel_rfl) ?_ _
            clear hHeld
            go_wp2
            go_roundg (gk - 1)
            case measure => have := HK.out; omega
            case rel => exact ⟨k + 1, by have := HK.out; omega, by go_num, (OW.out.set hyl _).congr (fun j hj => rtK_step HV.out 0 hlt HY.out j hj), hb2.setCell b1.size _⟩
          exact AllReadyH.nil
        exact AllReadyH.nil
      · obtain rfl : k = os.length := by omega
        go_wp2
        go_ret
        exact ⟨⟨_, rfl, by rw [rtN_yes HV.out]; exact (HW.out.congr fun j hj => rtK_all HV.out 0 j hj).mono b1.size⟩, hb⟩

set_option maxHeartbeats 2000000 in
/-- impl.ResponseTimes. -/
theorem responseTimes_any (ta oa : Option Addr) (tcap ocap : Nat) (ts : List T3) (os : List Int) (w : World) (hr : Row w ta ts) (ho : IntF w oa os.length fun k => os.getD k 0) (hn : ts.length ≤ 1099511627776) (hc : os.length ≤ ocap) :
    Calls Tryz.prog 53 #[.slice ta ts.length tcap, .slice oa os.length ocap] w fun e w' =>
      GotRt w.heap.size ts os e w' ∧ Below w.heap.size w w' := by
  have HR := Lib.hid hr
  have HO := Lib.hid ho
  clear hr ho
  cases hv : ordB ts os with
  | false =>
    have HN := Lib.hid (rtN_no hv)
    go_enter Tryz.func53, Tryz.ntmps53
    go_wp2_with fail
    refine (orderValid_any _ _ _ _ _ _ _ HR.out HO.out hn).mono ?_
    rintro e w1 ⟨rfl, b1⟩
    rw [hv]
    go_wp2
    go_ret
    exact ⟨⟨_, rfl, by rw [HN.out]; exact OwnI.nil _ _ _⟩, b1⟩
  | true =>
    have HV := Lib.hid hv
    have hn5 : os.length ≤ 5 := by have h1 := ordB_iff.1 hv; have := (sv_all h1.1).2; omega
    go_enter Tryz.func53, Tryz.ntmps53
    go_wp2_with fail
    refine (orderValid_any _ _ _ _ _ _ _ HR.out HO.out hn).mono ?_
    rintro e w1 ⟨rfl, b1⟩
    rw [HV.out]
    clear hv
    have hs1 := b1.size
    go_wp2_with fail
    refine (missing_any ts.length w1 (by have := (ordB_iff.1 HV.out).2.1; omega)).mono ?_
    rintro e w2 ⟨v, rfl, hov, b2⟩
    obtain ⟨va, vc, rfl⟩ := own_shape hov
    have OV := Lib.hid hov
    have B2 := b1.trans (b2.mono hs1)
    clear hov
    go_wp2
    go_loopg [19] os.length (fun m i wr => ∃ k : Nat, m + k = os.length ∧ i = .int .i64 k ∧ OwnI wr w1.heap.size (.slice va ts.length vc) ts.length (rtK (-1) ts os k) ∧ Below w.heap.size w wr)
    case atStart => exact ⟨0, rfl, rfl, OV.out.congr (fun j _ => rtK_zero _ _ _ _), B2⟩
    case round =>
      obtain ⟨k, hk, rfl, hown, hb⟩ := hrel
      have HK := Lib.hid hk
      have HW := Lib.hid hown
      have hk' : k ≤ os.length := by omega
      clear hk hown
      by_cases hlt : k < os.length
      · have RF := Lib.hid (HO.out.below hb)
        obtain ⟨b, off, rfl, hbs, c0⟩ := RF.out k hlt
        have hyb := ord_at HV.out hlt
        obtain ⟨y, hy⟩ : ∃ y, y = (os.getD k 0).toNat := ⟨_, rfl⟩
        have hy' : os.getD k 0 = (y : Int) := by omega
        have HY := Lib.hid hy'
        simp only [hy'] at c0
        have hyl : y < ts.length := by omega
        have hy0 : (0 : Int) ≤ y := by omega
        have hy1 : (y : Int) < ts.length := by omega
        have hk0 : (0 : Int) ≤ k := by omega
        have hk1 : (k : Int) < os.length := by omega
        have CX := Lib.hid (response_any ta (some ⟨b, off, none⟩) tcap ocap ts os k wr (HR.out.below hb) RF.out hc HV.out hlt)
        have STEP := Lib.hid (rtK_step HV.out (-1) hlt HY.out)
        clear hy hyb hy'
        cases hz : rspO ts os k with
        | none =>
          simp only [hz] at CX STEP
          unfold lfpV at CX
          go_wp2_with (go_at_call 85; refine CX.out.mono ?_; rintro e w3 ⟨rfl, b3⟩)
          go_roundg (gk - 1)
          case measure => have := HK.out; omega
          case rel => exact ⟨k + 1, by have := HK.out; omega, by go_num, (HW.out.below b3).congr (fun j hj => by
            have h := STEP.out j hj
            by_cases e : j = y
            · subst e
              rw [← h, if_pos rfl, rtK, if_neg (by rw [rk_place HV.out hlt HY.out]; omega)]
              rfl
            · rw [← h, if_neg e]), hb.trans (b3.mono hb.size)⟩
        | some z =>
          simp only [hz] at CX STEP
          unfold lfpV at CX
          go_wp2_with fail
          refine CX.out.mono ?_
          rintro e w3 ⟨rfl, b3⟩
          have OW := Lib.hid (HW.out.below b3)
          obtain ⟨g, cap', eg, hg1, _, _, _, _⟩ := OW.out.at (by omega)
          simp only [Value.slice.injEq, true_and] at eg
          obtain ⟨rfl, rfl⟩ := eg
          have hcell := OW.out.cellAt hyl
          have z0 := hcell.1
          have z1 := hcell.2.1
          have hb3 := hb.trans (b3.mono hb.size)
          clear hcell b3
          go_wp2
          go_roundg (gk - 1)
          case measure => have := HK.out; omega
          case rel => exact ⟨k + 1, by have := HK.out; omega, by go_num, (OW.out.set hyl _).congr (fun j hj => STEP.out j hj), hb3.setCell (Nat.le_trans hs1 hg1) _⟩
      · obtain rfl : k = os.length := by omega
        go_wp2
        go_ret
        exact ⟨⟨_, rfl, by rw [rtN_yes HV.out]; exact (HW.out.congr fun j hj => rtK_all HV.out (-1) j hj).mono hs1⟩, hb⟩

end Go.Proofs.YtdgihkmiolnglaaGreatDoor
