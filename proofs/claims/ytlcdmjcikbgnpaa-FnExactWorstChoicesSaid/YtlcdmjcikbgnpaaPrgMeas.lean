/- Contract of the program's measured. Conditions: the slice holds what is said; at most 2^40 nodes. -/
import Derived.Test.YtlcdmjcikbgnpaaPrgSp8
import Derived.Test.YtlcdmjcikbgnpaaPrgSpan
import Derived.Test.YtlcdmjcikbgnpaaPrgSpanB
import Derived.Test.YtlcdmjcikbgnpaaPrgSpanL
import Derived.Test.YtlcdmjcikbgnpaaPrgVal
import Derived.StillTailTactics
import Derived.Laws.AppendOwn
import Derived.BigQuiet
namespace Go.Proofs.Ytlcdmjcikbgnpaa
open Go.RowKit Go.Deep

/-- Whether the program is valid, and its spans if it is. -/
def Meas (ps : List N5) (w : World) (e : Ending) (w' : World) : Prop :=
  ∃ v, e = .returned (.tuple #[v, .bool (pvB ps)]) ∧ (pvB ps = true → OwnP w' w.heap.size v (sps8 ps ps.length)) ∧ (pvB ps = false → v = .slice none 0 0) ∧ Below w.heap.size w w'
theorem meas_no {ps : List N5} {w w' : World} (h : pvB ps = false) (hb : Below w.heap.size w w') : Meas ps w (.returned (.tuple #[.slice none 0 0, .bool false])) w' :=
  ⟨.slice none 0 0, by rw [h], fun h' => by rw [h] at h'; simp at h', fun _ => rfl, hb⟩
theorem meas_yes {ps : List N5} {w w' : World} {v : Value} (h : pvB ps = true) (ho : OwnP w' w.heap.size v (sps8 ps ps.length)) (hb : Below w.heap.size w w') : Meas ps w (.returned (.tuple #[v, .bool true])) w' :=
  ⟨v, by rw [h], fun _ => ho, fun h' => by rw [h] at h'; simp at h', hb⟩
/-- The table of functions lies in block g. -/
def KindsAt (w : World) (g : Nat) : Prop := ∀ j u, kindsC[j]? = some u → w.cell? ⟨g, j, none⟩ = some u
theorem kinds_new (w : World) : KindsAt (w.alloc (.cells kindsC 76)) w.heap.size := by
  intro j u hj
  have := blk_alloc_new w (.cells kindsC 76)
  unfold World.cell?
  rw [this]
  exact hj
theorem KindsAt.below {w w' : World} {g b : Nat} (h : KindsAt w g) (hb : Below b w w') (hg : g < b) : KindsAt w' g := fun j u hj => (hb.cell (p := ⟨g, j, none⟩) hg).trans (h j u hj)
theorem news3p (w : World) (x y z : Int) (t : TypeId) : ∀ (j : Nat) (u : Value), [Value.int .i64 x, .int .i64 y, .int .i64 z][j]? = some u → (w.alloc (.cells #[.int .i64 x, .int .i64 y, .int .i64 z] t)).cell? ((⟨w.heap.size, 0, none⟩ : Addr).add j) = some u := by
  intro j u hj
  match j, hj with
  | 0, hj => simp at hj; subst hj; simp [Addr.add, go_sem]
  | 1, hj => simp at hj; subst hj; simp [Addr.add, go_sem]
  | 2, hj => simp at hj; subst hj; simp [Addr.add, go_sem]
  | j + 3, hj => simp at hj
theorem one3p (x y z : Int) : ∀ u ∈ [Value.int .i64 x, .int .i64 y, .int .i64 z], u.oneCell' = true := by
  intro u hu
  simp at hu
  rcases hu with rfl | rfl | rfl <;> rfl

set_option maxRecDepth 100000 in
set_option maxHeartbeats 8000000 in
/-- impl.measured. -/
theorem measured_any (a : Option Addr) (cap : Nat) (ps : List N5) (w : World) (hr : RowN w a ps) (hn : ps.length ≤ 1099511627776) :
    Calls Try.prog 39 #[.slice a ps.length cap] w (Meas ps w) := by
  have HR := Lib.hid hr
  clear hr
  by_cases hl : 1 ≤ ps.length ∧ ps.length ≤ 12
  · have HL := Lib.hid hl
    obtain ⟨hl1, hl2⟩ := hl
    have hz0 : ps.length ≠ 0 := Nat.ne_of_gt hl1
    have hz2 : ¬ (12 : Int) < ps.length := by omega
    obtain ⟨i0, xi, xz, xsz, xby⟩ := info_parts spanInfo
    have HI := Lib.hid (And.intro xi (And.intro xz (And.intro xsz xby)))
    clear xi xz xsz xby
    go_enter Try.func39, Try.ntmps39
    go_wp2_with fail
    refine (nodeKinds_any _).mono ?_
    rintro e w1 ⟨rfl, b1⟩
    have B1 := Lib.hid b1
    clear b1
    unfold kindsV kindsC
    go_wp2
    obtain ⟨W2, hW2⟩ : ∃ W2, W2 = w1.alloc (.cells kindsC 76) := ⟨_, rfl⟩
    have KD := Lib.hid (show KindsAt W2 w1.heap.size by rw [hW2]; exact kinds_new w1)
    have B2 := Lib.hid (show Below w.heap.size w W2 by rw [hW2]; exact B1.out.trans ((below_box _ _).mono B1.out.size))
    have Z2 := Lib.hid (show w1.heap.size < W2.heap.size by rw [hW2]; simp)
    unfold kindsC at hW2
    rw [← hW2]
    clear hW2 hl1 hl2
    go_loopg [5, 19] ps.length (fun q s z wr => ∃ k : Nat, q + k = ps.length ∧ z = .int .i64 k ∧ (∀ j, j < k → nvB (nd8 ps j) j = true) ∧ OwnP wr W2.heap.size s (sps8 ps k) ∧ Below W2.heap.size W2 wr)
    case atStart => exact ⟨0, rfl, rfl, fun j hj => absurd hj (Nat.not_lt_zero _), OwnP.nil _ _, Below.refl _ _⟩
    case round =>
      obtain ⟨k, hq, rfl, hall, ho, hb⟩ := hrel
      have HQ := Lib.hid hq
      have HA := Lib.hid hall
      have HO := Lib.hid ho
      have HB := Lib.hid hb
      have hkk : k ≤ ps.length := by omega
      have BB := Lib.hid (B2.out.trans (hb.mono B2.out.size))
      obtain ⟨sa, scap, e⟩ := ho.shape
      rw [sps8_len] at e
      subst e
      have KD3 := KD.out.below hb Z2.out
      have hg1 : w1.heap.size < wr.heap.size := Nat.lt_of_lt_of_le Z2.out hb.size
      clear hq hall ho hb
      by_cases hlt : k < ps.length
      · have hk0 : (0 : Int) ≤ k := by omega
        have hk1 : (k : Int) < ps.length := by omega
        cases hv : nvB (nd8 ps k) k with
        | false =>
          have HPV := Lib.hid (pv_bad hlt hv)
          obtain ⟨⟨q, c, x, y, m⟩, hnd⟩ : ∃ n, nd8 ps k = n := ⟨_, rfl⟩
          obtain ⟨b, off, rfl, hbb, n0, n1, n2, n3, n4⟩ := rowN_at (HR.out.below BB.out) hlt hnd
          rw [hnd] at hv
          clear hnd
          by_cases h1 : q < 1
          · have d1 : decide (q < 1) = true := decide_eq_true h1
            clear hv
            go_wp2
            go_quiet (fail)
            go_wp2
            go_ret2
            exact meas_no HPV.out ((BB.out.trans ((below_box wr _).mono BB.out.size)).trans (below_drewN' (Below.refl _ _) _))
          · have d1 : decide (q < 1) = false := decide_eq_false h1
            by_cases h4 : 4 < q
            · have d4 : decide (4 < q) = true := decide_eq_true h4
              clear hv
              go_wp2
              go_quiet (fail)
              go_wp2
              go_ret2
              exact meas_no HPV.out ((BB.out.trans ((below_box wr _).mono BB.out.size)).trans (below_drewN' (Below.refl _ _) _))
            · have d4 : decide (4 < q) = false := decide_eq_false h4
              rcases (show q = 1 ∨ q = 2 ∨ q = 3 ∨ q = 4 by omega) with rfl | rfl | rfl | rfl
              · have kv : wr.cell? ⟨w1.heap.size, 3, none⟩ = some (.func (.func 58) #[] #[]) := KD3 3 _ rfl
                have km : wr.cell? ⟨w1.heap.size, 4, none⟩ = some (.func (.func 59) #[] #[]) := KD3 4 _ rfl
                clear KD3
                clear km
                go_wp2
                refine wp_region_still_tail 16 (by kernel_rfl) (by kernel_rfl) ?_
                simp only [List.take_succ_cons, List.take_zero, List.drop_succ_cons, List.drop_zero]
                change wpStill _ _ (World.drew (wr.alloc (.cells #[.int .i64 1, .int .i64 c, .int .i64 x, .int .i64 y, .int .i64 m] 28))) (fun a' => wpList _ _ _ _ a' (World.drew (wr.alloc (.cells #[.int .i64 1, .int .i64 c, .int .i64 x, .int .i64 y, .int .i64 m] 28)))) _ _
                iterate 16 still_step
                refine wpStill_nil ?_
                go_wp2_with (go_at_call 58; refine (validBlock_any _ _ _ _ k _).mono ?_; rintro e w4 ⟨rfl, b4⟩; have B4 := Lib.hid b4; clear b4; rw [hv])
                go_ret2
                exact meas_no HPV.out ((BB.out.trans ((below_box wr _).drew.mono BB.out.size)).trans (B4.out.mono (Nat.le_trans BB.out.size (by simp))))
              · have kv : wr.cell? ⟨w1.heap.size, 6, none⟩ = some (.func (.func 61) #[] #[]) := KD3 6 _ rfl
                have km : wr.cell? ⟨w1.heap.size, 7, none⟩ = some (.func (.func 62) #[] #[]) := KD3 7 _ rfl
                clear KD3
                clear km
                go_wp2
                refine wp_region_still_tail 16 (by kernel_rfl) (by kernel_rfl) ?_
                simp only [List.take_succ_cons, List.take_zero, List.drop_succ_cons, List.drop_zero]
                change wpStill _ _ (World.drew (wr.alloc (.cells #[.int .i64 2, .int .i64 c, .int .i64 x, .int .i64 y, .int .i64 m] 28))) (fun a' => wpList _ _ _ _ a' (World.drew (wr.alloc (.cells #[.int .i64 2, .int .i64 c, .int .i64 x, .int .i64 y, .int .i64 m] 28)))) _ _
                iterate 16 still_step
                refine wpStill_nil ?_
                go_wp2_with (go_at_call 61; refine (validSeq_any _ _ _ _ k _).mono ?_; rintro e w4 ⟨rfl, b4⟩; have B4 := Lib.hid b4; clear b4; rw [hv])
                go_ret2
                exact meas_no HPV.out ((BB.out.trans ((below_box wr _).drew.mono BB.out.size)).trans (B4.out.mono (Nat.le_trans BB.out.size (by simp))))
              · have kv : wr.cell? ⟨w1.heap.size, 9, none⟩ = some (.func (.func 64) #[] #[]) := KD3 9 _ rfl
                have km : wr.cell? ⟨w1.heap.size, 10, none⟩ = some (.func (.func 65) #[] #[]) := KD3 10 _ rfl
                clear KD3
                clear km
                go_wp2
                refine wp_region_still_tail 16 (by kernel_rfl) (by kernel_rfl) ?_
                simp only [List.take_succ_cons, List.take_zero, List.drop_succ_cons, List.drop_zero]
                change wpStill _ _ (World.drew (wr.alloc (.cells #[.int .i64 3, .int .i64 c, .int .i64 x, .int .i64 y, .int .i64 m] 28))) (fun a' => wpList _ _ _ _ a' (World.drew (wr.alloc (.cells #[.int .i64 3, .int .i64 c, .int .i64 x, .int .i64 y, .int .i64 m] 28)))) _ _
                iterate 16 still_step
                refine wpStill_nil ?_
                go_wp2_with (go_at_call 64; refine (validBranch_any _ _ _ _ k _).mono ?_; rintro e w4 ⟨rfl, b4⟩; have B4 := Lib.hid b4; clear b4; rw [hv])
                go_ret2
                exact meas_no HPV.out ((BB.out.trans ((below_box wr _).drew.mono BB.out.size)).trans (B4.out.mono (Nat.le_trans BB.out.size (by simp))))
              · have kv : wr.cell? ⟨w1.heap.size, 12, none⟩ = some (.func (.func 67) #[] #[]) := KD3 12 _ rfl
                have km : wr.cell? ⟨w1.heap.size, 13, none⟩ = some (.func (.func 68) #[] #[]) := KD3 13 _ rfl
                clear KD3
                clear km
                go_wp2
                refine wp_region_still_tail 16 (by kernel_rfl) (by kernel_rfl) ?_
                simp only [List.take_succ_cons, List.take_zero, List.drop_succ_cons, List.drop_zero]
                change wpStill _ _ (World.drew (wr.alloc (.cells #[.int .i64 4, .int .i64 c, .int .i64 x, .int .i64 y, .int .i64 m] 28))) (fun a' => wpList _ _ _ _ a' (World.drew (wr.alloc (.cells #[.int .i64 4, .int .i64 c, .int .i64 x, .int .i64 y, .int .i64 m] 28)))) _ _
                iterate 16 still_step
                refine wpStill_nil ?_
                go_wp2_with (go_at_call 67; refine (validLoop_any _ _ _ _ k _).mono ?_; rintro e w4 ⟨rfl, b4⟩; have B4 := Lib.hid b4; clear b4; rw [hv])
                go_ret2
                exact meas_no HPV.out ((BB.out.trans ((below_box wr _).drew.mono BB.out.size)).trans (B4.out.mono (Nat.le_trans BB.out.size (by simp))))
        | true =>
          cases nv_of hv with
          | block c h h1 h9 =>
            obtain ⟨b, off, rfl, hbb, n0, n1, n2, n3, n4⟩ := rowN_at (HR.out.below BB.out) hlt h
            rw [h] at hv
            have HALL := Lib.hid (show ∀ j, j < k + 1 → nvB (nd8 ps j) j = true from fun j hj => by rcases Nat.lt_succ_iff_lt_or_eq.1 hj with hj | rfl; exact HA.out j hj; rw [h]; exact hv)
            have HSP := Lib.hid (sp8_block h)
            have HV := Lib.hid hv
            clear h hv
            have kv : wr.cell? ⟨w1.heap.size, 3, none⟩ = some (.func (.func 58) #[] #[]) := KD3 3 _ rfl
            have km : wr.cell? ⟨w1.heap.size, 4, none⟩ = some (.func (.func 59) #[] #[]) := KD3 4 _ rfl
            clear KD3
            go_wp2
            refine wp_region_still_tail 16 (by kernel_rfl) (by kernel_rfl) ?_
            simp only [List.take_succ_cons, List.take_zero, List.drop_succ_cons, List.drop_zero]
            change wpStill _ _ (World.drew (wr.alloc (.cells #[.int .i64 1, .int .i64 c, .int .i64 0, .int .i64 0, .int .i64 0] 28))) (fun a' => wpList _ _ _ _ a' (World.drew (wr.alloc (.cells #[.int .i64 1, .int .i64 c, .int .i64 0, .int .i64 0, .int .i64 0] 28)))) _ _
            iterate 16 still_step
            refine wpStill_nil ?_
            go_wp2_with (go_at_call 58; refine (validBlock_any _ _ _ _ k _).mono ?_; rintro e w4 ⟨rfl, b4⟩; rw [HV.out]; have p0 : w4.cell? ⟨wr.heap.size, 0, none⟩ = some (.int .i64 1) := (b4.cell (p := ⟨wr.heap.size, 0, none⟩) (by simp)).trans (by go_simp); have p1 : w4.cell? ⟨wr.heap.size, 1, none⟩ = some (.int .i64 (c : Int)) := (b4.cell (p := ⟨wr.heap.size, 1, none⟩) (by simp)).trans (by go_simp); have p2 : w4.cell? ⟨wr.heap.size, 2, none⟩ = some (.int .i64 0) := (b4.cell (p := ⟨wr.heap.size, 2, none⟩) (by simp)).trans (by go_simp); have p3 : w4.cell? ⟨wr.heap.size, 3, none⟩ = some (.int .i64 0) := (b4.cell (p := ⟨wr.heap.size, 3, none⟩) (by simp)).trans (by go_simp); have p4 : w4.cell? ⟨wr.heap.size, 4, none⟩ = some (.int .i64 0) := (b4.cell (p := ⟨wr.heap.size, 4, none⟩) (by simp)).trans (by go_simp); have km4 : w4.cell? ⟨w1.heap.size, 4, none⟩ = some (.func (.func 59) #[] #[]) := (b4.cell (p := ⟨w1.heap.size, 4, none⟩) (by simp; omega)).trans (by go_simp); have B4 := Lib.hid (show Below wr.heap.size wr w4 from (below_box wr _).drew.trans (b4.mono (by simp))); have hg4 : wr.heap.size < w4.heap.size := Nat.lt_of_lt_of_le (by simp) b4.size; clear b4)
            have HO4 := Lib.hid (HO.out.below B4.out)
            have HS4 := Lib.hid (show ∀ w', Below w4.heap.size w4 w' → (fun w' => w'.cell? ⟨wr.heap.size, 0, none⟩ = some (.int .i64 1) ∧ w'.cell? ⟨wr.heap.size, 1, none⟩ = some (.int .i64 (c : Int)) ∧ w'.cell? ⟨wr.heap.size, 2, none⟩ = some (.int .i64 0) ∧ w'.cell? ⟨wr.heap.size, 3, none⟩ = some (.int .i64 0) ∧ w'.cell? ⟨wr.heap.size, 4, none⟩ = some (.int .i64 0) ∧ w'.cell? ⟨w1.heap.size, 4, none⟩ = some (.func (.func 59) #[] #[])) w' from fun w' hb => ⟨(hb.cell (p := ⟨wr.heap.size, 0, none⟩) hg4).trans p0, (hb.cell (p := ⟨wr.heap.size, 1, none⟩) hg4).trans p1, (hb.cell (p := ⟨wr.heap.size, 2, none⟩) hg4).trans p2, (hb.cell (p := ⟨wr.heap.size, 3, none⟩) hg4).trans p3, (hb.cell (p := ⟨wr.heap.size, 4, none⟩) hg4).trans p4, (hb.cell (p := ⟨w1.heap.size, 4, none⟩) (show w1.heap.size < w4.heap.size by omega)).trans km4⟩)
            clear p0 p1 p2 p3 p4 km4
            have HNB := Lib.hid (show some wr.heap.size ≠ (Value.slice sa k scap).ownBlock from fun e => by have := (OwnP.lt HO.out _ e.symm).2; omega)
            have HNK := Lib.hid (show some w1.heap.size ≠ (Value.slice sa k scap).ownBlock from fun e => by have := (OwnP.lt HO.out _ e.symm).1; have := Z2.out; omega)
            refine wp_region_held_drew (S := (fun w' => w'.cell? ⟨wr.heap.size, 0, none⟩ = some (.int .i64 1) ∧ w'.cell? ⟨wr.heap.size, 1, none⟩ = some (.int .i64 (c : Int)) ∧ w'.cell? ⟨wr.heap.size, 2, none⟩ = some (.int .i64 0) ∧ w'.cell? ⟨wr.heap.size, 3, none⟩ = some (.int .i64 0) ∧ w'.cell? ⟨wr.heap.size, 4, none⟩ = some (.int .i64 0) ∧ w'.cell? ⟨w1.heap.size, 4, none⟩ = some (.func (.func 59) #[] #[]))) (by kernel_rfl) ?_ (fun hHeld => ?_)
            · (try dsimp only)
              exact HS4.out _ (Below.refl _ w4).drew
            refine wpAnyH_take (i := 0) (v := ?_) (toArr_get _ 0 _ rfl) (by kernel_rfl) (by kernel_rfl) (by kernel_rfl) (fun _ _ _ h => h) (Or.inl ⟨by rfl, ?_⟩) (by assumption) ?_
            rotate_left
            · (intro w hSw; (try dsimp only at hSw); go_simp; (try with_reducible rfl))
            (try simp only [Act.put, List.setIfInBounds_toArray, List.set_cons_zero, List.set_cons_succ])
            refine wpAnyH_take (i := 1) (v := ?_) (toArr_get _ 1 _ rfl) (by kernel_rfl) (by kernel_rfl) (by kernel_rfl) (fun _ _ _ h => h) (Or.inl ⟨by rfl, ?_⟩) (by assumption) ?_
            rotate_left
            · (intro w hSw; (try dsimp only at hSw); go_simp; (try with_reducible rfl))
            (try simp only [Act.put, List.setIfInBounds_toArray, List.set_cons_zero, List.set_cons_succ])
            refine wpAnyH_take (i := 2) (v := ?_) (toArr_get _ 2 _ rfl) (by kernel_rfl) (by kernel_rfl) (by kernel_rfl) (fun _ _ _ h => h) (Or.inl ⟨by rfl, ?_⟩) (by assumption) ?_
            rotate_left
            · (intro w hSw; (try dsimp only at hSw); go_simp; (try with_reducible rfl))
            (try simp only [Act.put, List.setIfInBounds_toArray, List.set_cons_zero, List.set_cons_succ])
            refine wpAnyH_take (i := 3) (v := ?_) (toArr_get _ 3 _ rfl) (by kernel_rfl) (by kernel_rfl) (by kernel_rfl) (fun _ _ _ h => h) (Or.inl ⟨by rfl, ?_⟩) (by assumption) ?_
            rotate_left
            · (intro w hSw; (try dsimp only at hSw); go_simp; (try with_reducible rfl))
            (try simp only [Act.put, List.setIfInBounds_toArray, List.set_cons_zero, List.set_cons_succ])
            refine wpAnyH_take (i := 4) (v := ?_) (toArr_get _ 4 _ rfl) (by kernel_rfl) (by kernel_rfl) (by kernel_rfl) (fun _ _ _ h => h) (Or.inl ⟨by rfl, ?_⟩) (by assumption) ?_
            rotate_left
            · (intro w hSw; (try dsimp only at hSw); go_simp; (try with_reducible rfl))
            (try simp only [Act.put, List.setIfInBounds_toArray, List.set_cons_zero, List.set_cons_succ])
            refine wpAnyH_take (i := 5) (v := ?_) (toArr_get _ 5 _ rfl) (by kernel_rfl) (by kernel_rfl) (by kernel_rfl) (fun _ _ _ h => h) (Or.inl ⟨by rfl, ?_⟩) (by assumption) ?_
            rotate_left
            · (intro w hSw; (try dsimp only at hSw); go_simp; (try with_reducible rfl))
            (try simp only [Act.put, List.setIfInBounds_toArray, List.set_cons_zero, List.set_cons_succ])
            refine wpAnyH_take (i := 6) (v := ?_) (toArr_get _ 6 _ rfl) (by kernel_rfl) (by kernel_rfl) (by kernel_rfl) (fun _ _ _ h => h) (Or.inl ⟨by rfl, ?_⟩) (by assumption) ?_
            rotate_left
            · (intro w hSw; (try dsimp only at hSw); go_simp; (try with_reducible rfl))
            (try simp only [Act.put, List.setIfInBounds_toArray, List.set_cons_zero, List.set_cons_succ])
            refine wpAnyH_take (i := 7) (v := ?_) (toArr_get _ 7 _ rfl) (by kernel_rfl) (by kernel_rfl) (by kernel_rfl) (fun _ _ _ h => h) (Or.inl ⟨by rfl, ?_⟩) (by assumption) ?_
            rotate_left
            · (intro w hSw; (try dsimp only at hSw); go_simp; (try with_reducible rfl))
            (try simp only [Act.put, List.setIfInBounds_toArray, List.set_cons_zero, List.set_cons_succ])
            refine wpAnyH_ready (rs := [8]) (by kernel_rfl) (by simp) ?_
            refine AllReadyH.cons (toArr_get _ 8 _ rfl) (fun K hK => ?_) ?_
            · go_simp
              refine Calls.mono (blockSpan_any _ _ _ _ _ _ _) ?_
              rintro e w5 ⟨rfl, b5⟩
              have D5 := Lib.hid (show Below w4.heap.size w4 w5 from (Below.refl _ w4).drew.trans b5)
              have HW5 := Lib.hid (show Below W2.heap.size W2 w5 from HB.out.trans ((B4.out.trans (D5.out.mono B4.out.size)).mono HB.out.size))
              have OW5 := Lib.hid (show w5.ownsRow W2.heap.size 64 3 (.slice sa k scap) k (flat (sps8 ps k)) by have h5 := HO4.out.below D5.out; unfold OwnP at h5; rw [sps8_len] at h5; exact h5)
              clear b5
              go_wp2_with fail
              refine hK.out _ _ ?_ (fun hHeld2 => ?_)
              · (try dsimp only)
                exact HS4.out _ D5.out
              clear hK K hHeld
              have hHeld := hHeld2
              clear hHeld2
              (try simp only [Act.put, List.setIfInBounds_toArray, List.set_cons_zero, List.set_cons_succ])
              refine wpAnyH_ready (rs := [9]) (by kernel_rfl) (by simp) ?_
              refine AllReadyH.cons (toArr_get _ 9 _ rfl) (fun K hK => ?_) ?_
              · go_simp
                refine hK.out _ _ ?_ (fun hHeld2 => ?_)
                · (try dsimp only)
                  exact HS4.out _ (D5.out.trans ((below_box w5 _).mono D5.out.size))
                clear hK K hHeld
                have hHeld := hHeld2
                clear hHeld2
                (try simp only [Act.put, List.setIfInBounds_toArray, List.set_cons_zero, List.set_cons_succ])
                refine wpAnyH_ready (rs := [10]) (by kernel_rfl) (by simp) ?_
                refine AllReadyH.cons (toArr_get _ 10 _ rfl) (fun K hK => ?_) ?_
                · (try rw [if_pos (by rfl)])
                  refine wp_append_own _ (.tmp 43) (.tmp 52) 49 rfl W2.heap.size 64 i0 _ 3 24 Try.underlying49 HI.out.1 HI.out.2.1 HI.out.2.2.1 HI.out.2.2.2 rfl (by decide) _ k (flat (sps8 ps k)) rfl (World.ownsRow.alloc OW5.out _) ⟨w5.heap.size, 0, none⟩ 1 1 [.int .i64 c, .int .i64 c, .int .i64 0] rfl rfl (news3p _ _ _ _ _) (one3p _ _ _) (by unfold maxLen; omega) (by omega) (Nat.le_trans HW5.out.size (by simp)) ?_
                  intro v6 w6 hown hgrow hnil
                  have HW6 := Lib.hid (show Below W2.heap.size W2 w6 from (HW5.out.trans ((below_box w5 _).mono HW5.out.size)).grown hgrow (Nat.le_trans HW5.out.size (by simp)) (fun k hk => (World.ownsRow.lt OW5.out k hk).1))
                  have HO6 := Lib.hid (show OwnP w6 W2.heap.size v6 (sps8 ps (k + 1)) by rw [sps8_succ, HSP.out]; refine OwnP.push (ss := sps8 ps k) ?_; rw [sps8_len]; exact hown)
                  have HS6 := Lib.hid (show (fun w' => w'.cell? ⟨wr.heap.size, 0, none⟩ = some (.int .i64 1) ∧ w'.cell? ⟨wr.heap.size, 1, none⟩ = some (.int .i64 (c : Int)) ∧ w'.cell? ⟨wr.heap.size, 2, none⟩ = some (.int .i64 0) ∧ w'.cell? ⟨wr.heap.size, 3, none⟩ = some (.int .i64 0) ∧ w'.cell? ⟨wr.heap.size, 4, none⟩ = some (.int .i64 0) ∧ w'.cell? ⟨w1.heap.size, 4, none⟩ = some (.func (.func 59) #[] #[])) w6 by obtain ⟨s0, s1, s2, s3, s4, s5⟩ := HS4.out _ (D5.out.trans ((below_box w5 _).mono D5.out.size)); exact ⟨hgrow.cell s0 HNB.out, hgrow.cell s1 HNB.out, hgrow.cell s2 HNB.out, hgrow.cell s3 HNB.out, hgrow.cell s4 HNB.out, hgrow.cell s5 HNK.out⟩)
                  clear hown hgrow hnil
                  refine hK.out _ _ ?_ (fun hHeld2 => ?_)
                  · (try dsimp only)
                    exact HS6.out
                  clear hK K hHeld
                  have hHeld := hHeld2
                  clear hHeld2
                  (try simp only [Act.put, List.setIfInBounds_toArray, List.set_cons_zero, List.set_cons_succ])
                  refine wpAnyH_take (i := 11) (v := ?_) (toArr_get _ 11 _ rfl) (by kernel_rfl) (by kernel_rfl) (by kernel_rfl) (fun _ _ _ h => h) (Or.inl ⟨by rfl, ?_⟩) (by assumption) ?_
                  rotate_left
                  · (intro w hSw; (try dsimp only at hSw); go_simp; (try with_reducible rfl))
                  (try simp only [Act.put, List.setIfInBounds_toArray, List.set_cons_zero, List.set_cons_succ])
                  refine wpAnyH_done (by kernel_rfl) ?_ _
                  go_wp2
                  go_roundg (gk - 1)
                  case measure => have := HQ.out; omega
                  case rel => exact ⟨k + 1, by have := HQ.out; omega, by go_num, HALL.out, HO6.out, HW6.out⟩
                exact AllReadyH.nil
              exact AllReadyH.nil
            exact AllReadyH.nil
          | seq x y h ha hb =>
            obtain ⟨b, off, rfl, hbb, n0, n1, n2, n3, n4⟩ := rowN_at (HR.out.below BB.out) hlt h
            rw [h] at hv
            have HALL := Lib.hid (show ∀ j, j < k + 1 → nvB (nd8 ps j) j = true from fun j hj => by rcases Nat.lt_succ_iff_lt_or_eq.1 hj with hj | rfl; exact HA.out j hj; rw [h]; exact hv)
            have hk12 : k < 12 := by have := HL.out.2; omega
            have ex := sps8_at ps (show x < k from ha)
            have gx1 := wc8_big12 (w := true) (show x < 12 by omega) (fun j hj => HA.out j (by omega))
            have gx2 := wc8_big12 (w := false) (show x < 12 by omega) (fun j hj => HA.out j (by omega))
            have ey := sps8_at ps (show y < k from hb)
            have gy1 := wc8_big12 (w := true) (show y < 12 by omega) (fun j hj => HA.out j (by omega))
            have gy2 := wc8_big12 (w := false) (show y < 12 by omega) (fun j hj => HA.out j (by omega))
            have hsp := sp8_seq h ha hb
            obtain ⟨X1, hx1⟩ : ∃ q, q = wc8 true ps x := ⟨_, rfl⟩
            obtain ⟨X2, hx2⟩ : ∃ q, q = wc8 false ps x := ⟨_, rfl⟩
            obtain ⟨X3, hx3⟩ : ∃ q, q = chc8 ps x := ⟨_, rfl⟩
            rw [show sp8 ps x = ((X1 : Int), (X2 : Int), (X3 : Int)) by rw [hx1, hx2, hx3]; rfl] at ex
            rw [← hx1] at gx1
            rw [← hx2] at gx2
            obtain ⟨Y1, hy1⟩ : ∃ q, q = wc8 true ps y := ⟨_, rfl⟩
            obtain ⟨Y2, hy2⟩ : ∃ q, q = wc8 false ps y := ⟨_, rfl⟩
            obtain ⟨Y3, hy3⟩ : ∃ q, q = chc8 ps y := ⟨_, rfl⟩
            rw [show sp8 ps y = ((Y1 : Int), (Y2 : Int), (Y3 : Int)) by rw [hy1, hy2, hy3]; rfl] at ey
            rw [← hy1] at gy1
            rw [← hy2] at gy2
            rw [← hx1, ← hx2, ← hy1, ← hy2] at hsp
            clear hx1 hx2 hx3 hy1 hy2 hy3
            obtain ⟨R1, hR1⟩ : ∃ R : Int, R = ((X1 + Y1 : Nat) : Int) := ⟨_, rfl⟩
            obtain ⟨R2, hR2⟩ : ∃ R : Int, R = ((X2 + Y2 : Nat) : Int) := ⟨_, rfl⟩
            rw [← hR1, ← hR2] at hsp
            have HR1 := Lib.hid hR1
            have HR2 := Lib.hid hR2
            clear hR1 hR2
            have HSP := Lib.hid hsp
            clear hsp hk12
            have Ex := Lib.hid ex
            have Gx := Lib.hid (And.intro gx1 gx2)
            clear ex gx1 gx2
            have Ey := Lib.hid ey
            have Gy := Lib.hid (And.intro gy1 gy2)
            clear ey gy1 gy2
            have HV := Lib.hid hv
            clear h hv
            have kv : wr.cell? ⟨w1.heap.size, 6, none⟩ = some (.func (.func 61) #[] #[]) := KD3 6 _ rfl
            have km : wr.cell? ⟨w1.heap.size, 7, none⟩ = some (.func (.func 62) #[] #[]) := KD3 7 _ rfl
            clear KD3
            go_wp2
            refine wp_region_still_tail 16 (by kernel_rfl) (by kernel_rfl) ?_
            simp only [List.take_succ_cons, List.take_zero, List.drop_succ_cons, List.drop_zero]
            change wpStill _ _ (World.drew (wr.alloc (.cells #[.int .i64 2, .int .i64 0, .int .i64 x, .int .i64 y, .int .i64 0] 28))) (fun a' => wpList _ _ _ _ a' (World.drew (wr.alloc (.cells #[.int .i64 2, .int .i64 0, .int .i64 x, .int .i64 y, .int .i64 0] 28)))) _ _
            iterate 16 still_step
            refine wpStill_nil ?_
            go_wp2_with (go_at_call 61; refine (validSeq_any _ _ _ _ k _).mono ?_; rintro e w4 ⟨rfl, b4⟩; rw [HV.out]; have p0 : w4.cell? ⟨wr.heap.size, 0, none⟩ = some (.int .i64 2) := (b4.cell (p := ⟨wr.heap.size, 0, none⟩) (by simp)).trans (by go_simp); have p1 : w4.cell? ⟨wr.heap.size, 1, none⟩ = some (.int .i64 0) := (b4.cell (p := ⟨wr.heap.size, 1, none⟩) (by simp)).trans (by go_simp); have p2 : w4.cell? ⟨wr.heap.size, 2, none⟩ = some (.int .i64 (x : Int)) := (b4.cell (p := ⟨wr.heap.size, 2, none⟩) (by simp)).trans (by go_simp); have p3 : w4.cell? ⟨wr.heap.size, 3, none⟩ = some (.int .i64 (y : Int)) := (b4.cell (p := ⟨wr.heap.size, 3, none⟩) (by simp)).trans (by go_simp); have p4 : w4.cell? ⟨wr.heap.size, 4, none⟩ = some (.int .i64 0) := (b4.cell (p := ⟨wr.heap.size, 4, none⟩) (by simp)).trans (by go_simp); have km4 : w4.cell? ⟨w1.heap.size, 7, none⟩ = some (.func (.func 62) #[] #[]) := (b4.cell (p := ⟨w1.heap.size, 7, none⟩) (by simp; omega)).trans (by go_simp); have B4 := Lib.hid (show Below wr.heap.size wr w4 from (below_box wr _).drew.trans (b4.mono (by simp))); have hg4 : wr.heap.size < w4.heap.size := Nat.lt_of_lt_of_le (by simp) b4.size; clear b4)
            have HO4 := Lib.hid (HO.out.below B4.out)
            have HS4 := Lib.hid (show ∀ w', Below w4.heap.size w4 w' → (fun w' => w'.cell? ⟨wr.heap.size, 0, none⟩ = some (.int .i64 2) ∧ w'.cell? ⟨wr.heap.size, 1, none⟩ = some (.int .i64 0) ∧ w'.cell? ⟨wr.heap.size, 2, none⟩ = some (.int .i64 (x : Int)) ∧ w'.cell? ⟨wr.heap.size, 3, none⟩ = some (.int .i64 (y : Int)) ∧ w'.cell? ⟨wr.heap.size, 4, none⟩ = some (.int .i64 0) ∧ w'.cell? ⟨w1.heap.size, 7, none⟩ = some (.func (.func 62) #[] #[])) w' from fun w' hb => ⟨(hb.cell (p := ⟨wr.heap.size, 0, none⟩) hg4).trans p0, (hb.cell (p := ⟨wr.heap.size, 1, none⟩) hg4).trans p1, (hb.cell (p := ⟨wr.heap.size, 2, none⟩) hg4).trans p2, (hb.cell (p := ⟨wr.heap.size, 3, none⟩) hg4).trans p3, (hb.cell (p := ⟨wr.heap.size, 4, none⟩) hg4).trans p4, (hb.cell (p := ⟨w1.heap.size, 7, none⟩) (show w1.heap.size < w4.heap.size by omega)).trans km4⟩)
            clear p0 p1 p2 p3 p4 km4
            have HNB := Lib.hid (show some wr.heap.size ≠ (Value.slice sa k scap).ownBlock from fun e => by have := (OwnP.lt HO.out _ e.symm).2; omega)
            have HNK := Lib.hid (show some w1.heap.size ≠ (Value.slice sa k scap).ownBlock from fun e => by have := (OwnP.lt HO.out _ e.symm).1; have := Z2.out; omega)
            refine wp_region_held_drew (S := (fun w' => w'.cell? ⟨wr.heap.size, 0, none⟩ = some (.int .i64 2) ∧ w'.cell? ⟨wr.heap.size, 1, none⟩ = some (.int .i64 0) ∧ w'.cell? ⟨wr.heap.size, 2, none⟩ = some (.int .i64 (x : Int)) ∧ w'.cell? ⟨wr.heap.size, 3, none⟩ = some (.int .i64 (y : Int)) ∧ w'.cell? ⟨wr.heap.size, 4, none⟩ = some (.int .i64 0) ∧ w'.cell? ⟨w1.heap.size, 7, none⟩ = some (.func (.func 62) #[] #[]))) (by kernel_rfl) ?_ (fun hHeld => ?_)
            · (try dsimp only)
              exact HS4.out _ (Below.refl _ w4).drew
            refine wpAnyH_take (i := 0) (v := ?_) (toArr_get _ 0 _ rfl) (by kernel_rfl) (by kernel_rfl) (by kernel_rfl) (fun _ _ _ h => h) (Or.inl ⟨by rfl, ?_⟩) (by assumption) ?_
            rotate_left
            · (intro w hSw; (try dsimp only at hSw); go_simp; (try with_reducible rfl))
            (try simp only [Act.put, List.setIfInBounds_toArray, List.set_cons_zero, List.set_cons_succ])
            refine wpAnyH_take (i := 1) (v := ?_) (toArr_get _ 1 _ rfl) (by kernel_rfl) (by kernel_rfl) (by kernel_rfl) (fun _ _ _ h => h) (Or.inl ⟨by rfl, ?_⟩) (by assumption) ?_
            rotate_left
            · (intro w hSw; (try dsimp only at hSw); go_simp; (try with_reducible rfl))
            (try simp only [Act.put, List.setIfInBounds_toArray, List.set_cons_zero, List.set_cons_succ])
            refine wpAnyH_take (i := 2) (v := ?_) (toArr_get _ 2 _ rfl) (by kernel_rfl) (by kernel_rfl) (by kernel_rfl) (fun _ _ _ h => h) (Or.inl ⟨by rfl, ?_⟩) (by assumption) ?_
            rotate_left
            · (intro w hSw; (try dsimp only at hSw); go_simp; (try with_reducible rfl))
            (try simp only [Act.put, List.setIfInBounds_toArray, List.set_cons_zero, List.set_cons_succ])
            refine wpAnyH_take (i := 3) (v := ?_) (toArr_get _ 3 _ rfl) (by kernel_rfl) (by kernel_rfl) (by kernel_rfl) (fun _ _ _ h => h) (Or.inl ⟨by rfl, ?_⟩) (by assumption) ?_
            rotate_left
            · (intro w hSw; (try dsimp only at hSw); go_simp; (try with_reducible rfl))
            (try simp only [Act.put, List.setIfInBounds_toArray, List.set_cons_zero, List.set_cons_succ])
            refine wpAnyH_take (i := 4) (v := ?_) (toArr_get _ 4 _ rfl) (by kernel_rfl) (by kernel_rfl) (by kernel_rfl) (fun _ _ _ h => h) (Or.inl ⟨by rfl, ?_⟩) (by assumption) ?_
            rotate_left
            · (intro w hSw; (try dsimp only at hSw); go_simp; (try with_reducible rfl))
            (try simp only [Act.put, List.setIfInBounds_toArray, List.set_cons_zero, List.set_cons_succ])
            refine wpAnyH_take (i := 5) (v := ?_) (toArr_get _ 5 _ rfl) (by kernel_rfl) (by kernel_rfl) (by kernel_rfl) (fun _ _ _ h => h) (Or.inl ⟨by rfl, ?_⟩) (by assumption) ?_
            rotate_left
            · (intro w hSw; (try dsimp only at hSw); go_simp; (try with_reducible rfl))
            (try simp only [Act.put, List.setIfInBounds_toArray, List.set_cons_zero, List.set_cons_succ])
            refine wpAnyH_take (i := 6) (v := ?_) (toArr_get _ 6 _ rfl) (by kernel_rfl) (by kernel_rfl) (by kernel_rfl) (fun _ _ _ h => h) (Or.inl ⟨by rfl, ?_⟩) (by assumption) ?_
            rotate_left
            · (intro w hSw; (try dsimp only at hSw); go_simp; (try with_reducible rfl))
            (try simp only [Act.put, List.setIfInBounds_toArray, List.set_cons_zero, List.set_cons_succ])
            refine wpAnyH_take (i := 7) (v := ?_) (toArr_get _ 7 _ rfl) (by kernel_rfl) (by kernel_rfl) (by kernel_rfl) (fun _ _ _ h => h) (Or.inl ⟨by rfl, ?_⟩) (by assumption) ?_
            rotate_left
            · (intro w hSw; (try dsimp only at hSw); go_simp; (try with_reducible rfl))
            (try simp only [Act.put, List.setIfInBounds_toArray, List.set_cons_zero, List.set_cons_succ])
            refine wpAnyH_ready (rs := [8]) (by kernel_rfl) (by simp) ?_
            refine AllReadyH.cons (toArr_get _ 8 _ rfl) (fun K hK => ?_) ?_
            · go_simp
              refine Calls.mono (by have hcon := (seqSpan_any 2 0 0 x y sa scap (sps8 ps k) _ HO4.out.drew.row (by rw [sps8_len]; exact ha) (by rw [sps8_len]; exact hb) X1 X2 X3 Y1 Y2 Y3 Ex.out Ey.out (by have := Gx.out; have := Gy.out; omega) (by have := Gx.out; have := Gy.out; omega)); rw [sps8_len, ← HR1.out, ← HR2.out] at hcon; exact hcon) ?_
              rintro e w5 ⟨rfl, b5⟩
              have D5 := Lib.hid (show Below w4.heap.size w4 w5 from (Below.refl _ w4).drew.trans b5)
              have HW5 := Lib.hid (show Below W2.heap.size W2 w5 from HB.out.trans ((B4.out.trans (D5.out.mono B4.out.size)).mono HB.out.size))
              have OW5 := Lib.hid (show w5.ownsRow W2.heap.size 64 3 (.slice sa k scap) k (flat (sps8 ps k)) by have h5 := HO4.out.below D5.out; unfold OwnP at h5; rw [sps8_len] at h5; exact h5)
              clear b5
              go_wp2_with fail
              refine hK.out _ _ ?_ (fun hHeld2 => ?_)
              · (try dsimp only)
                exact HS4.out _ D5.out
              clear hK K hHeld
              have hHeld := hHeld2
              clear hHeld2
              (try simp only [Act.put, List.setIfInBounds_toArray, List.set_cons_zero, List.set_cons_succ])
              refine wpAnyH_ready (rs := [9]) (by kernel_rfl) (by simp) ?_
              refine AllReadyH.cons (toArr_get _ 9 _ rfl) (fun K hK => ?_) ?_
              · go_simp
                refine hK.out _ _ ?_ (fun hHeld2 => ?_)
                · (try dsimp only)
                  exact HS4.out _ (D5.out.trans ((below_box w5 _).mono D5.out.size))
                clear hK K hHeld
                have hHeld := hHeld2
                clear hHeld2
                (try simp only [Act.put, List.setIfInBounds_toArray, List.set_cons_zero, List.set_cons_succ])
                refine wpAnyH_ready (rs := [10]) (by kernel_rfl) (by simp) ?_
                refine AllReadyH.cons (toArr_get _ 10 _ rfl) (fun K hK => ?_) ?_
                · (try rw [if_pos (by rfl)])
                  refine wp_append_own _ (.tmp 43) (.tmp 52) 49 rfl W2.heap.size 64 i0 _ 3 24 Try.underlying49 HI.out.1 HI.out.2.1 HI.out.2.2.1 HI.out.2.2.2 rfl (by decide) _ k (flat (sps8 ps k)) rfl (World.ownsRow.alloc OW5.out _) ⟨w5.heap.size, 0, none⟩ 1 1 [.int .i64 R1, .int .i64 R2, .int .i64 0] rfl rfl (news3p _ _ _ _ _) (one3p _ _ _) (by unfold maxLen; omega) (by omega) (Nat.le_trans HW5.out.size (by simp)) ?_
                  intro v6 w6 hown hgrow hnil
                  have HW6 := Lib.hid (show Below W2.heap.size W2 w6 from (HW5.out.trans ((below_box w5 _).mono HW5.out.size)).grown hgrow (Nat.le_trans HW5.out.size (by simp)) (fun k hk => (World.ownsRow.lt OW5.out k hk).1))
                  have HO6 := Lib.hid (show OwnP w6 W2.heap.size v6 (sps8 ps (k + 1)) by rw [sps8_succ, HSP.out]; refine OwnP.push (ss := sps8 ps k) ?_; rw [sps8_len]; exact hown)
                  have HS6 := Lib.hid (show (fun w' => w'.cell? ⟨wr.heap.size, 0, none⟩ = some (.int .i64 2) ∧ w'.cell? ⟨wr.heap.size, 1, none⟩ = some (.int .i64 0) ∧ w'.cell? ⟨wr.heap.size, 2, none⟩ = some (.int .i64 (x : Int)) ∧ w'.cell? ⟨wr.heap.size, 3, none⟩ = some (.int .i64 (y : Int)) ∧ w'.cell? ⟨wr.heap.size, 4, none⟩ = some (.int .i64 0) ∧ w'.cell? ⟨w1.heap.size, 7, none⟩ = some (.func (.func 62) #[] #[])) w6 by obtain ⟨s0, s1, s2, s3, s4, s5⟩ := HS4.out _ (D5.out.trans ((below_box w5 _).mono D5.out.size)); exact ⟨hgrow.cell s0 HNB.out, hgrow.cell s1 HNB.out, hgrow.cell s2 HNB.out, hgrow.cell s3 HNB.out, hgrow.cell s4 HNB.out, hgrow.cell s5 HNK.out⟩)
                  clear hown hgrow hnil
                  refine hK.out _ _ ?_ (fun hHeld2 => ?_)
                  · (try dsimp only)
                    exact HS6.out
                  clear hK K hHeld
                  have hHeld := hHeld2
                  clear hHeld2
                  (try simp only [Act.put, List.setIfInBounds_toArray, List.set_cons_zero, List.set_cons_succ])
                  refine wpAnyH_take (i := 11) (v := ?_) (toArr_get _ 11 _ rfl) (by kernel_rfl) (by kernel_rfl) (by kernel_rfl) (fun _ _ _ h => h) (Or.inl ⟨by rfl, ?_⟩) (by assumption) ?_
                  rotate_left
                  · (intro w hSw; (try dsimp only at hSw); go_simp; (try with_reducible rfl))
                  (try simp only [Act.put, List.setIfInBounds_toArray, List.set_cons_zero, List.set_cons_succ])
                  refine wpAnyH_done (by kernel_rfl) ?_ _
                  go_wp2
                  go_roundg (gk - 1)
                  case measure => have := HQ.out; omega
                  case rel => exact ⟨k + 1, by have := HQ.out; omega, by go_num, HALL.out, HO6.out, HW6.out⟩
                exact AllReadyH.nil
              exact AllReadyH.nil
            exact AllReadyH.nil
          | branch c x y h h1 h9 ha hb =>
            obtain ⟨b, off, rfl, hbb, n0, n1, n2, n3, n4⟩ := rowN_at (HR.out.below BB.out) hlt h
            rw [h] at hv
            have HALL := Lib.hid (show ∀ j, j < k + 1 → nvB (nd8 ps j) j = true from fun j hj => by rcases Nat.lt_succ_iff_lt_or_eq.1 hj with hj | rfl; exact HA.out j hj; rw [h]; exact hv)
            have hk12 : k < 12 := by have := HL.out.2; omega
            have ex := sps8_at ps (show x < k from ha)
            have gx1 := wc8_big12 (w := true) (show x < 12 by omega) (fun j hj => HA.out j (by omega))
            have gx2 := wc8_big12 (w := false) (show x < 12 by omega) (fun j hj => HA.out j (by omega))
            have ey := sps8_at ps (show y < k from hb)
            have gy1 := wc8_big12 (w := true) (show y < 12 by omega) (fun j hj => HA.out j (by omega))
            have gy2 := wc8_big12 (w := false) (show y < 12 by omega) (fun j hj => HA.out j (by omega))
            have hsp := sp8_branch h ha hb
            obtain ⟨X1, hx1⟩ : ∃ q, q = wc8 true ps x := ⟨_, rfl⟩
            obtain ⟨X2, hx2⟩ : ∃ q, q = wc8 false ps x := ⟨_, rfl⟩
            obtain ⟨X3, hx3⟩ : ∃ q, q = chc8 ps x := ⟨_, rfl⟩
            rw [show sp8 ps x = ((X1 : Int), (X2 : Int), (X3 : Int)) by rw [hx1, hx2, hx3]; rfl] at ex
            rw [← hx1] at gx1
            rw [← hx2] at gx2
            obtain ⟨Y1, hy1⟩ : ∃ q, q = wc8 true ps y := ⟨_, rfl⟩
            obtain ⟨Y2, hy2⟩ : ∃ q, q = wc8 false ps y := ⟨_, rfl⟩
            obtain ⟨Y3, hy3⟩ : ∃ q, q = chc8 ps y := ⟨_, rfl⟩
            rw [show sp8 ps y = ((Y1 : Int), (Y2 : Int), (Y3 : Int)) by rw [hy1, hy2, hy3]; rfl] at ey
            rw [← hy1] at gy1
            rw [← hy2] at gy2
            rw [← hx1, ← hx2, ← hy1, ← hy2] at hsp
            clear hx1 hx2 hx3 hy1 hy2 hy3
            obtain ⟨R1, hR1⟩ : ∃ R : Int, R = ((c + max X1 Y1 : Nat) : Int) := ⟨_, rfl⟩
            obtain ⟨R2, hR2⟩ : ∃ R : Int, R = ((c + min X2 Y2 : Nat) : Int) := ⟨_, rfl⟩
            obtain ⟨R3, hR3⟩ : ∃ R : Int, R = ((if X1 < Y1 then 1 else 0 : Nat) : Int) := ⟨_, rfl⟩
            rw [← hR1, ← hR2, ← hR3] at hsp
            have HR1 := Lib.hid hR1
            have HR2 := Lib.hid hR2
            have HR3 := Lib.hid hR3
            clear hR1 hR2 hR3
            have HSP := Lib.hid hsp
            clear hsp hk12
            have Ex := Lib.hid ex
            have Gx := Lib.hid (And.intro gx1 gx2)
            clear ex gx1 gx2
            have Ey := Lib.hid ey
            have Gy := Lib.hid (And.intro gy1 gy2)
            clear ey gy1 gy2
            have HV := Lib.hid hv
            clear h hv
            have kv : wr.cell? ⟨w1.heap.size, 9, none⟩ = some (.func (.func 64) #[] #[]) := KD3 9 _ rfl
            have km : wr.cell? ⟨w1.heap.size, 10, none⟩ = some (.func (.func 65) #[] #[]) := KD3 10 _ rfl
            clear KD3
            go_wp2
            refine wp_region_still_tail 16 (by kernel_rfl) (by kernel_rfl) ?_
            simp only [List.take_succ_cons, List.take_zero, List.drop_succ_cons, List.drop_zero]
            change wpStill _ _ (World.drew (wr.alloc (.cells #[.int .i64 3, .int .i64 c, .int .i64 x, .int .i64 y, .int .i64 0] 28))) (fun a' => wpList _ _ _ _ a' (World.drew (wr.alloc (.cells #[.int .i64 3, .int .i64 c, .int .i64 x, .int .i64 y, .int .i64 0] 28)))) _ _
            iterate 16 still_step
            refine wpStill_nil ?_
            go_wp2_with (go_at_call 64; refine (validBranch_any _ _ _ _ k _).mono ?_; rintro e w4 ⟨rfl, b4⟩; rw [HV.out]; have p0 : w4.cell? ⟨wr.heap.size, 0, none⟩ = some (.int .i64 3) := (b4.cell (p := ⟨wr.heap.size, 0, none⟩) (by simp)).trans (by go_simp); have p1 : w4.cell? ⟨wr.heap.size, 1, none⟩ = some (.int .i64 (c : Int)) := (b4.cell (p := ⟨wr.heap.size, 1, none⟩) (by simp)).trans (by go_simp); have p2 : w4.cell? ⟨wr.heap.size, 2, none⟩ = some (.int .i64 (x : Int)) := (b4.cell (p := ⟨wr.heap.size, 2, none⟩) (by simp)).trans (by go_simp); have p3 : w4.cell? ⟨wr.heap.size, 3, none⟩ = some (.int .i64 (y : Int)) := (b4.cell (p := ⟨wr.heap.size, 3, none⟩) (by simp)).trans (by go_simp); have p4 : w4.cell? ⟨wr.heap.size, 4, none⟩ = some (.int .i64 0) := (b4.cell (p := ⟨wr.heap.size, 4, none⟩) (by simp)).trans (by go_simp); have km4 : w4.cell? ⟨w1.heap.size, 10, none⟩ = some (.func (.func 65) #[] #[]) := (b4.cell (p := ⟨w1.heap.size, 10, none⟩) (by simp; omega)).trans (by go_simp); have B4 := Lib.hid (show Below wr.heap.size wr w4 from (below_box wr _).drew.trans (b4.mono (by simp))); have hg4 : wr.heap.size < w4.heap.size := Nat.lt_of_lt_of_le (by simp) b4.size; clear b4)
            have HO4 := Lib.hid (HO.out.below B4.out)
            have HS4 := Lib.hid (show ∀ w', Below w4.heap.size w4 w' → (fun w' => w'.cell? ⟨wr.heap.size, 0, none⟩ = some (.int .i64 3) ∧ w'.cell? ⟨wr.heap.size, 1, none⟩ = some (.int .i64 (c : Int)) ∧ w'.cell? ⟨wr.heap.size, 2, none⟩ = some (.int .i64 (x : Int)) ∧ w'.cell? ⟨wr.heap.size, 3, none⟩ = some (.int .i64 (y : Int)) ∧ w'.cell? ⟨wr.heap.size, 4, none⟩ = some (.int .i64 0) ∧ w'.cell? ⟨w1.heap.size, 10, none⟩ = some (.func (.func 65) #[] #[])) w' from fun w' hb => ⟨(hb.cell (p := ⟨wr.heap.size, 0, none⟩) hg4).trans p0, (hb.cell (p := ⟨wr.heap.size, 1, none⟩) hg4).trans p1, (hb.cell (p := ⟨wr.heap.size, 2, none⟩) hg4).trans p2, (hb.cell (p := ⟨wr.heap.size, 3, none⟩) hg4).trans p3, (hb.cell (p := ⟨wr.heap.size, 4, none⟩) hg4).trans p4, (hb.cell (p := ⟨w1.heap.size, 10, none⟩) (show w1.heap.size < w4.heap.size by omega)).trans km4⟩)
            clear p0 p1 p2 p3 p4 km4
            have HNB := Lib.hid (show some wr.heap.size ≠ (Value.slice sa k scap).ownBlock from fun e => by have := (OwnP.lt HO.out _ e.symm).2; omega)
            have HNK := Lib.hid (show some w1.heap.size ≠ (Value.slice sa k scap).ownBlock from fun e => by have := (OwnP.lt HO.out _ e.symm).1; have := Z2.out; omega)
            refine wp_region_held_drew (S := (fun w' => w'.cell? ⟨wr.heap.size, 0, none⟩ = some (.int .i64 3) ∧ w'.cell? ⟨wr.heap.size, 1, none⟩ = some (.int .i64 (c : Int)) ∧ w'.cell? ⟨wr.heap.size, 2, none⟩ = some (.int .i64 (x : Int)) ∧ w'.cell? ⟨wr.heap.size, 3, none⟩ = some (.int .i64 (y : Int)) ∧ w'.cell? ⟨wr.heap.size, 4, none⟩ = some (.int .i64 0) ∧ w'.cell? ⟨w1.heap.size, 10, none⟩ = some (.func (.func 65) #[] #[]))) (by kernel_rfl) ?_ (fun hHeld => ?_)
            · (try dsimp only)
              exact HS4.out _ (Below.refl _ w4).drew
            refine wpAnyH_take (i := 0) (v := ?_) (toArr_get _ 0 _ rfl) (by kernel_rfl) (by kernel_rfl) (by kernel_rfl) (fun _ _ _ h => h) (Or.inl ⟨by rfl, ?_⟩) (by assumption) ?_
            rotate_left
            · (intro w hSw; (try dsimp only at hSw); go_simp; (try with_reducible rfl))
            (try simp only [Act.put, List.setIfInBounds_toArray, List.set_cons_zero, List.set_cons_succ])
            refine wpAnyH_take (i := 1) (v := ?_) (toArr_get _ 1 _ rfl) (by kernel_rfl) (by kernel_rfl) (by kernel_rfl) (fun _ _ _ h => h) (Or.inl ⟨by rfl, ?_⟩) (by assumption) ?_
            rotate_left
            · (intro w hSw; (try dsimp only at hSw); go_simp; (try with_reducible rfl))
            (try simp only [Act.put, List.setIfInBounds_toArray, List.set_cons_zero, List.set_cons_succ])
            refine wpAnyH_take (i := 2) (v := ?_) (toArr_get _ 2 _ rfl) (by kernel_rfl) (by kernel_rfl) (by kernel_rfl) (fun _ _ _ h => h) (Or.inl ⟨by rfl, ?_⟩) (by assumption) ?_
            rotate_left
            · (intro w hSw; (try dsimp only at hSw); go_simp; (try with_reducible rfl))
            (try simp only [Act.put, List.setIfInBounds_toArray, List.set_cons_zero, List.set_cons_succ])
            refine wpAnyH_take (i := 3) (v := ?_) (toArr_get _ 3 _ rfl) (by kernel_rfl) (by kernel_rfl) (by kernel_rfl) (fun _ _ _ h => h) (Or.inl ⟨by rfl, ?_⟩) (by assumption) ?_
            rotate_left
            · (intro w hSw; (try dsimp only at hSw); go_simp; (try with_reducible rfl))
            (try simp only [Act.put, List.setIfInBounds_toArray, List.set_cons_zero, List.set_cons_succ])
            refine wpAnyH_take (i := 4) (v := ?_) (toArr_get _ 4 _ rfl) (by kernel_rfl) (by kernel_rfl) (by kernel_rfl) (fun _ _ _ h => h) (Or.inl ⟨by rfl, ?_⟩) (by assumption) ?_
            rotate_left
            · (intro w hSw; (try dsimp only at hSw); go_simp; (try with_reducible rfl))
            (try simp only [Act.put, List.setIfInBounds_toArray, List.set_cons_zero, List.set_cons_succ])
            refine wpAnyH_take (i := 5) (v := ?_) (toArr_get _ 5 _ rfl) (by kernel_rfl) (by kernel_rfl) (by kernel_rfl) (fun _ _ _ h => h) (Or.inl ⟨by rfl, ?_⟩) (by assumption) ?_
            rotate_left
            · (intro w hSw; (try dsimp only at hSw); go_simp; (try with_reducible rfl))
            (try simp only [Act.put, List.setIfInBounds_toArray, List.set_cons_zero, List.set_cons_succ])
            refine wpAnyH_take (i := 6) (v := ?_) (toArr_get _ 6 _ rfl) (by kernel_rfl) (by kernel_rfl) (by kernel_rfl) (fun _ _ _ h => h) (Or.inl ⟨by rfl, ?_⟩) (by assumption) ?_
            rotate_left
            · (intro w hSw; (try dsimp only at hSw); go_simp; (try with_reducible rfl))
            (try simp only [Act.put, List.setIfInBounds_toArray, List.set_cons_zero, List.set_cons_succ])
            refine wpAnyH_take (i := 7) (v := ?_) (toArr_get _ 7 _ rfl) (by kernel_rfl) (by kernel_rfl) (by kernel_rfl) (fun _ _ _ h => h) (Or.inl ⟨by rfl, ?_⟩) (by assumption) ?_
            rotate_left
            · (intro w hSw; (try dsimp only at hSw); go_simp; (try with_reducible rfl))
            (try simp only [Act.put, List.setIfInBounds_toArray, List.set_cons_zero, List.set_cons_succ])
            refine wpAnyH_ready (rs := [8]) (by kernel_rfl) (by simp) ?_
            refine AllReadyH.cons (toArr_get _ 8 _ rfl) (fun K hK => ?_) ?_
            · go_simp
              refine Calls.mono (by have hcon := (branchSpan_any 3 0 c x y sa scap (sps8 ps k) _ HO4.out.drew.row (by rw [sps8_len]; exact ha) (by rw [sps8_len]; exact hb) X1 X2 X3 Y1 Y2 Y3 Ex.out Ey.out (by have := Gx.out; have := Gy.out; omega) (by have := Gx.out; have := Gy.out; omega)); rw [sps8_len, ← HR1.out, ← HR2.out, ← HR3.out] at hcon; exact hcon) ?_
              rintro e w5 ⟨rfl, b5⟩
              have D5 := Lib.hid (show Below w4.heap.size w4 w5 from (Below.refl _ w4).drew.trans b5)
              have HW5 := Lib.hid (show Below W2.heap.size W2 w5 from HB.out.trans ((B4.out.trans (D5.out.mono B4.out.size)).mono HB.out.size))
              have OW5 := Lib.hid (show w5.ownsRow W2.heap.size 64 3 (.slice sa k scap) k (flat (sps8 ps k)) by have h5 := HO4.out.below D5.out; unfold OwnP at h5; rw [sps8_len] at h5; exact h5)
              clear b5
              go_wp2_with fail
              refine hK.out _ _ ?_ (fun hHeld2 => ?_)
              · (try dsimp only)
                exact HS4.out _ D5.out
              clear hK K hHeld
              have hHeld := hHeld2
              clear hHeld2
              (try simp only [Act.put, List.setIfInBounds_toArray, List.set_cons_zero, List.set_cons_succ])
              refine wpAnyH_ready (rs := [9]) (by kernel_rfl) (by simp) ?_
              refine AllReadyH.cons (toArr_get _ 9 _ rfl) (fun K hK => ?_) ?_
              · go_simp
                refine hK.out _ _ ?_ (fun hHeld2 => ?_)
                · (try dsimp only)
                  exact HS4.out _ (D5.out.trans ((below_box w5 _).mono D5.out.size))
                clear hK K hHeld
                have hHeld := hHeld2
                clear hHeld2
                (try simp only [Act.put, List.setIfInBounds_toArray, List.set_cons_zero, List.set_cons_succ])
                refine wpAnyH_ready (rs := [10]) (by kernel_rfl) (by simp) ?_
                refine AllReadyH.cons (toArr_get _ 10 _ rfl) (fun K hK => ?_) ?_
                · (try rw [if_pos (by rfl)])
                  refine wp_append_own _ (.tmp 43) (.tmp 52) 49 rfl W2.heap.size 64 i0 _ 3 24 Try.underlying49 HI.out.1 HI.out.2.1 HI.out.2.2.1 HI.out.2.2.2 rfl (by decide) _ k (flat (sps8 ps k)) rfl (World.ownsRow.alloc OW5.out _) ⟨w5.heap.size, 0, none⟩ 1 1 [.int .i64 R1, .int .i64 R2, .int .i64 R3] rfl rfl (news3p _ _ _ _ _) (one3p _ _ _) (by unfold maxLen; omega) (by omega) (Nat.le_trans HW5.out.size (by simp)) ?_
                  intro v6 w6 hown hgrow hnil
                  have HW6 := Lib.hid (show Below W2.heap.size W2 w6 from (HW5.out.trans ((below_box w5 _).mono HW5.out.size)).grown hgrow (Nat.le_trans HW5.out.size (by simp)) (fun k hk => (World.ownsRow.lt OW5.out k hk).1))
                  have HO6 := Lib.hid (show OwnP w6 W2.heap.size v6 (sps8 ps (k + 1)) by rw [sps8_succ, HSP.out]; refine OwnP.push (ss := sps8 ps k) ?_; rw [sps8_len]; exact hown)
                  have HS6 := Lib.hid (show (fun w' => w'.cell? ⟨wr.heap.size, 0, none⟩ = some (.int .i64 3) ∧ w'.cell? ⟨wr.heap.size, 1, none⟩ = some (.int .i64 (c : Int)) ∧ w'.cell? ⟨wr.heap.size, 2, none⟩ = some (.int .i64 (x : Int)) ∧ w'.cell? ⟨wr.heap.size, 3, none⟩ = some (.int .i64 (y : Int)) ∧ w'.cell? ⟨wr.heap.size, 4, none⟩ = some (.int .i64 0) ∧ w'.cell? ⟨w1.heap.size, 10, none⟩ = some (.func (.func 65) #[] #[])) w6 by obtain ⟨s0, s1, s2, s3, s4, s5⟩ := HS4.out _ (D5.out.trans ((below_box w5 _).mono D5.out.size)); exact ⟨hgrow.cell s0 HNB.out, hgrow.cell s1 HNB.out, hgrow.cell s2 HNB.out, hgrow.cell s3 HNB.out, hgrow.cell s4 HNB.out, hgrow.cell s5 HNK.out⟩)
                  clear hown hgrow hnil
                  refine hK.out _ _ ?_ (fun hHeld2 => ?_)
                  · (try dsimp only)
                    exact HS6.out
                  clear hK K hHeld
                  have hHeld := hHeld2
                  clear hHeld2
                  (try simp only [Act.put, List.setIfInBounds_toArray, List.set_cons_zero, List.set_cons_succ])
                  refine wpAnyH_take (i := 11) (v := ?_) (toArr_get _ 11 _ rfl) (by kernel_rfl) (by kernel_rfl) (by kernel_rfl) (fun _ _ _ h => h) (Or.inl ⟨by rfl, ?_⟩) (by assumption) ?_
                  rotate_left
                  · (intro w hSw; (try dsimp only at hSw); go_simp; (try with_reducible rfl))
                  (try simp only [Act.put, List.setIfInBounds_toArray, List.set_cons_zero, List.set_cons_succ])
                  refine wpAnyH_done (by kernel_rfl) ?_ _
                  go_wp2
                  go_roundg (gk - 1)
                  case measure => have := HQ.out; omega
                  case rel => exact ⟨k + 1, by have := HQ.out; omega, by go_num, HALL.out, HO6.out, HW6.out⟩
                exact AllReadyH.nil
              exact AllReadyH.nil
            exact AllReadyH.nil
          | loop c x m h h1 h9 ha hm =>
            obtain ⟨b, off, rfl, hbb, n0, n1, n2, n3, n4⟩ := rowN_at (HR.out.below BB.out) hlt h
            rw [h] at hv
            have HALL := Lib.hid (show ∀ j, j < k + 1 → nvB (nd8 ps j) j = true from fun j hj => by rcases Nat.lt_succ_iff_lt_or_eq.1 hj with hj | rfl; exact HA.out j hj; rw [h]; exact hv)
            have hk12 : k < 12 := by have := HL.out.2; omega
            have ex := sps8_at ps (show x < k from ha)
            have gx1 := wc8_big12 (w := true) (show x < 12 by omega) (fun j hj => HA.out j (by omega))
            have gx2 := wc8_big12 (w := false) (show x < 12 by omega) (fun j hj => HA.out j (by omega))
            have hsp := sp8_loop h ha
            obtain ⟨X1, hx1⟩ : ∃ q, q = wc8 true ps x := ⟨_, rfl⟩
            obtain ⟨X2, hx2⟩ : ∃ q, q = wc8 false ps x := ⟨_, rfl⟩
            obtain ⟨X3, hx3⟩ : ∃ q, q = chc8 ps x := ⟨_, rfl⟩
            rw [show sp8 ps x = ((X1 : Int), (X2 : Int), (X3 : Int)) by rw [hx1, hx2, hx3]; rfl] at ex
            rw [← hx1] at gx1
            rw [← hx2] at gx2
            rw [← hx1] at hsp
            clear hx1 hx2 hx3
            obtain ⟨R1, hR1⟩ : ∃ R : Int, R = ((c + m * (c + X1) : Nat) : Int) := ⟨_, rfl⟩
            rw [← hR1] at hsp
            have HR1 := Lib.hid hR1
            clear hR1
            have HSP := Lib.hid hsp
            clear hsp hk12
            have Ex := Lib.hid ex
            have Gx := Lib.hid (And.intro gx1 gx2)
            clear ex gx1 gx2
            have HV := Lib.hid hv
            clear h hv
            have kv : wr.cell? ⟨w1.heap.size, 12, none⟩ = some (.func (.func 67) #[] #[]) := KD3 12 _ rfl
            have km : wr.cell? ⟨w1.heap.size, 13, none⟩ = some (.func (.func 68) #[] #[]) := KD3 13 _ rfl
            clear KD3
            go_wp2
            refine wp_region_still_tail 16 (by kernel_rfl) (by kernel_rfl) ?_
            simp only [List.take_succ_cons, List.take_zero, List.drop_succ_cons, List.drop_zero]
            change wpStill _ _ (World.drew (wr.alloc (.cells #[.int .i64 4, .int .i64 c, .int .i64 x, .int .i64 0, .int .i64 m] 28))) (fun a' => wpList _ _ _ _ a' (World.drew (wr.alloc (.cells #[.int .i64 4, .int .i64 c, .int .i64 x, .int .i64 0, .int .i64 m] 28)))) _ _
            iterate 16 still_step
            refine wpStill_nil ?_
            go_wp2_with (go_at_call 67; refine (validLoop_any _ _ _ _ k _).mono ?_; rintro e w4 ⟨rfl, b4⟩; rw [HV.out]; have p0 : w4.cell? ⟨wr.heap.size, 0, none⟩ = some (.int .i64 4) := (b4.cell (p := ⟨wr.heap.size, 0, none⟩) (by simp)).trans (by go_simp); have p1 : w4.cell? ⟨wr.heap.size, 1, none⟩ = some (.int .i64 (c : Int)) := (b4.cell (p := ⟨wr.heap.size, 1, none⟩) (by simp)).trans (by go_simp); have p2 : w4.cell? ⟨wr.heap.size, 2, none⟩ = some (.int .i64 (x : Int)) := (b4.cell (p := ⟨wr.heap.size, 2, none⟩) (by simp)).trans (by go_simp); have p3 : w4.cell? ⟨wr.heap.size, 3, none⟩ = some (.int .i64 0) := (b4.cell (p := ⟨wr.heap.size, 3, none⟩) (by simp)).trans (by go_simp); have p4 : w4.cell? ⟨wr.heap.size, 4, none⟩ = some (.int .i64 (m : Int)) := (b4.cell (p := ⟨wr.heap.size, 4, none⟩) (by simp)).trans (by go_simp); have km4 : w4.cell? ⟨w1.heap.size, 13, none⟩ = some (.func (.func 68) #[] #[]) := (b4.cell (p := ⟨w1.heap.size, 13, none⟩) (by simp; omega)).trans (by go_simp); have B4 := Lib.hid (show Below wr.heap.size wr w4 from (below_box wr _).drew.trans (b4.mono (by simp))); have hg4 : wr.heap.size < w4.heap.size := Nat.lt_of_lt_of_le (by simp) b4.size; clear b4)
            have HO4 := Lib.hid (HO.out.below B4.out)
            have HS4 := Lib.hid (show ∀ w', Below w4.heap.size w4 w' → (fun w' => w'.cell? ⟨wr.heap.size, 0, none⟩ = some (.int .i64 4) ∧ w'.cell? ⟨wr.heap.size, 1, none⟩ = some (.int .i64 (c : Int)) ∧ w'.cell? ⟨wr.heap.size, 2, none⟩ = some (.int .i64 (x : Int)) ∧ w'.cell? ⟨wr.heap.size, 3, none⟩ = some (.int .i64 0) ∧ w'.cell? ⟨wr.heap.size, 4, none⟩ = some (.int .i64 (m : Int)) ∧ w'.cell? ⟨w1.heap.size, 13, none⟩ = some (.func (.func 68) #[] #[])) w' from fun w' hb => ⟨(hb.cell (p := ⟨wr.heap.size, 0, none⟩) hg4).trans p0, (hb.cell (p := ⟨wr.heap.size, 1, none⟩) hg4).trans p1, (hb.cell (p := ⟨wr.heap.size, 2, none⟩) hg4).trans p2, (hb.cell (p := ⟨wr.heap.size, 3, none⟩) hg4).trans p3, (hb.cell (p := ⟨wr.heap.size, 4, none⟩) hg4).trans p4, (hb.cell (p := ⟨w1.heap.size, 13, none⟩) (show w1.heap.size < w4.heap.size by omega)).trans km4⟩)
            clear p0 p1 p2 p3 p4 km4
            have HNB := Lib.hid (show some wr.heap.size ≠ (Value.slice sa k scap).ownBlock from fun e => by have := (OwnP.lt HO.out _ e.symm).2; omega)
            have HNK := Lib.hid (show some w1.heap.size ≠ (Value.slice sa k scap).ownBlock from fun e => by have := (OwnP.lt HO.out _ e.symm).1; have := Z2.out; omega)
            refine wp_region_held_drew (S := (fun w' => w'.cell? ⟨wr.heap.size, 0, none⟩ = some (.int .i64 4) ∧ w'.cell? ⟨wr.heap.size, 1, none⟩ = some (.int .i64 (c : Int)) ∧ w'.cell? ⟨wr.heap.size, 2, none⟩ = some (.int .i64 (x : Int)) ∧ w'.cell? ⟨wr.heap.size, 3, none⟩ = some (.int .i64 0) ∧ w'.cell? ⟨wr.heap.size, 4, none⟩ = some (.int .i64 (m : Int)) ∧ w'.cell? ⟨w1.heap.size, 13, none⟩ = some (.func (.func 68) #[] #[]))) (by kernel_rfl) ?_ (fun hHeld => ?_)
            · (try dsimp only)
              exact HS4.out _ (Below.refl _ w4).drew
            refine wpAnyH_take (i := 0) (v := ?_) (toArr_get _ 0 _ rfl) (by kernel_rfl) (by kernel_rfl) (by kernel_rfl) (fun _ _ _ h => h) (Or.inl ⟨by rfl, ?_⟩) (by assumption) ?_
            rotate_left
            · (intro w hSw; (try dsimp only at hSw); go_simp; (try with_reducible rfl))
            (try simp only [Act.put, List.setIfInBounds_toArray, List.set_cons_zero, List.set_cons_succ])
            refine wpAnyH_take (i := 1) (v := ?_) (toArr_get _ 1 _ rfl) (by kernel_rfl) (by kernel_rfl) (by kernel_rfl) (fun _ _ _ h => h) (Or.inl ⟨by rfl, ?_⟩) (by assumption) ?_
            rotate_left
            · (intro w hSw; (try dsimp only at hSw); go_simp; (try with_reducible rfl))
            (try simp only [Act.put, List.setIfInBounds_toArray, List.set_cons_zero, List.set_cons_succ])
            refine wpAnyH_take (i := 2) (v := ?_) (toArr_get _ 2 _ rfl) (by kernel_rfl) (by kernel_rfl) (by kernel_rfl) (fun _ _ _ h => h) (Or.inl ⟨by rfl, ?_⟩) (by assumption) ?_
            rotate_left
            · (intro w hSw; (try dsimp only at hSw); go_simp; (try with_reducible rfl))
            (try simp only [Act.put, List.setIfInBounds_toArray, List.set_cons_zero, List.set_cons_succ])
            refine wpAnyH_take (i := 3) (v := ?_) (toArr_get _ 3 _ rfl) (by kernel_rfl) (by kernel_rfl) (by kernel_rfl) (fun _ _ _ h => h) (Or.inl ⟨by rfl, ?_⟩) (by assumption) ?_
            rotate_left
            · (intro w hSw; (try dsimp only at hSw); go_simp; (try with_reducible rfl))
            (try simp only [Act.put, List.setIfInBounds_toArray, List.set_cons_zero, List.set_cons_succ])
            refine wpAnyH_take (i := 4) (v := ?_) (toArr_get _ 4 _ rfl) (by kernel_rfl) (by kernel_rfl) (by kernel_rfl) (fun _ _ _ h => h) (Or.inl ⟨by rfl, ?_⟩) (by assumption) ?_
            rotate_left
            · (intro w hSw; (try dsimp only at hSw); go_simp; (try with_reducible rfl))
            (try simp only [Act.put, List.setIfInBounds_toArray, List.set_cons_zero, List.set_cons_succ])
            refine wpAnyH_take (i := 5) (v := ?_) (toArr_get _ 5 _ rfl) (by kernel_rfl) (by kernel_rfl) (by kernel_rfl) (fun _ _ _ h => h) (Or.inl ⟨by rfl, ?_⟩) (by assumption) ?_
            rotate_left
            · (intro w hSw; (try dsimp only at hSw); go_simp; (try with_reducible rfl))
            (try simp only [Act.put, List.setIfInBounds_toArray, List.set_cons_zero, List.set_cons_succ])
            refine wpAnyH_take (i := 6) (v := ?_) (toArr_get _ 6 _ rfl) (by kernel_rfl) (by kernel_rfl) (by kernel_rfl) (fun _ _ _ h => h) (Or.inl ⟨by rfl, ?_⟩) (by assumption) ?_
            rotate_left
            · (intro w hSw; (try dsimp only at hSw); go_simp; (try with_reducible rfl))
            (try simp only [Act.put, List.setIfInBounds_toArray, List.set_cons_zero, List.set_cons_succ])
            refine wpAnyH_take (i := 7) (v := ?_) (toArr_get _ 7 _ rfl) (by kernel_rfl) (by kernel_rfl) (by kernel_rfl) (fun _ _ _ h => h) (Or.inl ⟨by rfl, ?_⟩) (by assumption) ?_
            rotate_left
            · (intro w hSw; (try dsimp only at hSw); go_simp; (try with_reducible rfl))
            (try simp only [Act.put, List.setIfInBounds_toArray, List.set_cons_zero, List.set_cons_succ])
            refine wpAnyH_ready (rs := [8]) (by kernel_rfl) (by simp) ?_
            refine AllReadyH.cons (toArr_get _ 8 _ rfl) (fun K hK => ?_) ?_
            · go_simp
              refine Calls.mono (by have hcon := (loopSpan_any 4 0 c x m sa scap (sps8 ps k) _ (HO4.out.drew.row) (by rw [sps8_len]; exact ha) X1 X2 X3 Ex.out hm (by have := Gx.out; omega)); rw [sps8_len, ← HR1.out] at hcon; exact hcon) ?_
              rintro e w5 ⟨rfl, b5⟩
              have D5 := Lib.hid (show Below w4.heap.size w4 w5 from (Below.refl _ w4).drew.trans b5)
              have HW5 := Lib.hid (show Below W2.heap.size W2 w5 from HB.out.trans ((B4.out.trans (D5.out.mono B4.out.size)).mono HB.out.size))
              have OW5 := Lib.hid (show w5.ownsRow W2.heap.size 64 3 (.slice sa k scap) k (flat (sps8 ps k)) by have h5 := HO4.out.below D5.out; unfold OwnP at h5; rw [sps8_len] at h5; exact h5)
              clear b5
              go_wp2_with fail
              refine hK.out _ _ ?_ (fun hHeld2 => ?_)
              · (try dsimp only)
                exact HS4.out _ D5.out
              clear hK K hHeld
              have hHeld := hHeld2
              clear hHeld2
              (try simp only [Act.put, List.setIfInBounds_toArray, List.set_cons_zero, List.set_cons_succ])
              refine wpAnyH_ready (rs := [9]) (by kernel_rfl) (by simp) ?_
              refine AllReadyH.cons (toArr_get _ 9 _ rfl) (fun K hK => ?_) ?_
              · go_simp
                refine hK.out _ _ ?_ (fun hHeld2 => ?_)
                · (try dsimp only)
                  exact HS4.out _ (D5.out.trans ((below_box w5 _).mono D5.out.size))
                clear hK K hHeld
                have hHeld := hHeld2
                clear hHeld2
                (try simp only [Act.put, List.setIfInBounds_toArray, List.set_cons_zero, List.set_cons_succ])
                refine wpAnyH_ready (rs := [10]) (by kernel_rfl) (by simp) ?_
                refine AllReadyH.cons (toArr_get _ 10 _ rfl) (fun K hK => ?_) ?_
                · (try rw [if_pos (by rfl)])
                  refine wp_append_own _ (.tmp 43) (.tmp 52) 49 rfl W2.heap.size 64 i0 _ 3 24 Try.underlying49 HI.out.1 HI.out.2.1 HI.out.2.2.1 HI.out.2.2.2 rfl (by decide) _ k (flat (sps8 ps k)) rfl (World.ownsRow.alloc OW5.out _) ⟨w5.heap.size, 0, none⟩ 1 1 [.int .i64 R1, .int .i64 (c : Int), .int .i64 (m : Int)] rfl rfl (news3p _ _ _ _ _) (one3p _ _ _) (by unfold maxLen; omega) (by omega) (Nat.le_trans HW5.out.size (by simp)) ?_
                  intro v6 w6 hown hgrow hnil
                  have HW6 := Lib.hid (show Below W2.heap.size W2 w6 from (HW5.out.trans ((below_box w5 _).mono HW5.out.size)).grown hgrow (Nat.le_trans HW5.out.size (by simp)) (fun k hk => (World.ownsRow.lt OW5.out k hk).1))
                  have HO6 := Lib.hid (show OwnP w6 W2.heap.size v6 (sps8 ps (k + 1)) by rw [sps8_succ, HSP.out]; refine OwnP.push (ss := sps8 ps k) ?_; rw [sps8_len]; exact hown)
                  have HS6 := Lib.hid (show (fun w' => w'.cell? ⟨wr.heap.size, 0, none⟩ = some (.int .i64 4) ∧ w'.cell? ⟨wr.heap.size, 1, none⟩ = some (.int .i64 (c : Int)) ∧ w'.cell? ⟨wr.heap.size, 2, none⟩ = some (.int .i64 (x : Int)) ∧ w'.cell? ⟨wr.heap.size, 3, none⟩ = some (.int .i64 0) ∧ w'.cell? ⟨wr.heap.size, 4, none⟩ = some (.int .i64 (m : Int)) ∧ w'.cell? ⟨w1.heap.size, 13, none⟩ = some (.func (.func 68) #[] #[])) w6 by obtain ⟨s0, s1, s2, s3, s4, s5⟩ := HS4.out _ (D5.out.trans ((below_box w5 _).mono D5.out.size)); exact ⟨hgrow.cell s0 HNB.out, hgrow.cell s1 HNB.out, hgrow.cell s2 HNB.out, hgrow.cell s3 HNB.out, hgrow.cell s4 HNB.out, hgrow.cell s5 HNK.out⟩)
                  clear hown hgrow hnil
                  refine hK.out _ _ ?_ (fun hHeld2 => ?_)
                  · (try dsimp only)
                    exact HS6.out
                  clear hK K hHeld
                  have hHeld := hHeld2
                  clear hHeld2
                  (try simp only [Act.put, List.setIfInBounds_toArray, List.set_cons_zero, List.set_cons_succ])
                  refine wpAnyH_take (i := 11) (v := ?_) (toArr_get _ 11 _ rfl) (by kernel_rfl) (by kernel_rfl) (by kernel_rfl) (fun _ _ _ h => h) (Or.inl ⟨by rfl, ?_⟩) (by assumption) ?_
                  rotate_left
                  · (intro w hSw; (try dsimp only at hSw); go_simp; (try with_reducible rfl))
                  (try simp only [Act.put, List.setIfInBounds_toArray, List.set_cons_zero, List.set_cons_succ])
                  refine wpAnyH_done (by kernel_rfl) ?_ _
                  go_wp2
                  go_roundg (gk - 1)
                  case measure => have := HQ.out; omega
                  case rel => exact ⟨k + 1, by have := HQ.out; omega, by go_num, HALL.out, HO6.out, HW6.out⟩
                exact AllReadyH.nil
              exact AllReadyH.nil
            exact AllReadyH.nil
      · obtain rfl : k = ps.length := by omega
        obtain ⟨L, hL⟩ : ∃ L : Nat, L + 1 = ps.length := ⟨ps.length - 1, by have := HL.out.1; omega⟩
        have hpl := pv_last HL.out (fun i hi => HA.out i hi)
        rw [show ps.length - 1 = L by omega] at hpl
        obtain ⟨b, off, rfl, -, c0, -, -⟩ := (HO.out.row).at (show L < (sps8 ps ps.length).length by rw [sps8_len]; omega)
        rw [sps8_at ps (show L < ps.length by omega)] at c0
        unfold sp8 at c0
        simp only at c0
        obtain ⟨X, hX⟩ : ∃ X, X = wc8 true ps L := ⟨_, rfl⟩
        rw [← hX] at c0 hpl
        have hw : IntKind.i64.wrap ((ps.length : Int) - 1) = (L : Int) := by rw [IntWalk.i64_in _ (by omega)]; omega
        have hL0 : (0 : Int) ≤ L := by omega
        have hL1 : (L : Int) < ps.length := by omega
        clear hX hL KD3 hlt hkk
        by_cases hx : X ≤ 600
        · have HPV := Lib.hid (show pvB ps = true by rw [hpl]; exact decide_eq_true hx)
          have hx' : ¬ (600 : Int) < X := by omega
          have hx2 : ¬ 600 < X := by omega
          clear hpl hx
          go_wp2
          go_ret2
          exact meas_yes HPV.out (HO.out.mono B2.out.size) BB.out
        · have HPV := Lib.hid (show pvB ps = false by rw [hpl]; exact decide_eq_false hx)
          have hx' : (600 : Int) < X := by omega
          have hx2 : 600 < X := by omega
          clear hpl hx
          go_wp2
          go_ret2
          exact meas_no HPV.out BB.out
  · have HPV := Lib.hid (show pvB ps = false by cases e : pvB ps with | false => rfl | true => exact absurd (pv_iff.1 e).1 hl)
    by_cases h0 : ps.length = 0
    · go_enter Try.func39, Try.ntmps39
      go_wp2
      go_ret2
      exact meas_no HPV.out (Below.refl _ _)
    · have h12 : (12 : Int) < ps.length := by omega
      go_enter Try.func39, Try.ntmps39
      go_wp2
      go_ret2
      exact meas_no HPV.out (Below.refl _ _)

end Go.Proofs.Ytlcdmjcikbgnpaa
