/- Contract of impl.Missed. Conditions: the slices hold what is said, at most 2^20 jobs. -/
import Derived.Test.YtdhdodmpfbgliaaDoorMissed
import Derived.StillTailTactics
namespace Go.Proofs.YtdhdodmpfbgliaaDoor
open Go.RowKit Go.Deep

/-- Finished by the deadline. -/
def metB (d x : Int) : Bool := decide (0 ≤ x ∧ x ≤ d)

/-- impl.Job.metBy. -/
theorem metBy_any (i r d e x : Int) (w : World) :
    Calls Tryd.prog 41 #[.agg #[.int .i64 i, .int .i64 r, .int .i64 d, .int .i64 e], .int .i64 x] w fun en w' => en = .returned (.bool (metB d x)) ∧ Below w.heap.size w w' := by
  by_cases h1 : 0 ≤ x
  · by_cases h2 : x ≤ d
    · go_enter Tryd.func41, Tryd.ntmps41
      go_wp2
      go_ret
      exact ⟨ret_bool (decide_eq_true ⟨h1, h2⟩).symm, below_box _ _⟩
    · go_enter Tryd.func41, Tryd.ntmps41
      go_wp2
      go_ret
      exact ⟨ret_bool (decide_eq_false (by omega)).symm, below_box _ _⟩
  · go_enter Tryd.func41, Tryd.ntmps41
    go_wp2
    go_ret
    exact ⟨ret_bool (decide_eq_false (by omega)).symm, below_box _ _⟩

theorem metB_late {js : List J4} {f : Nat → Int} {k : Nat} {d x : Int} (hd : d = (jb js k).2.2.1) (hx : x = f k) (h : d ≤ 120) : lateB js f k = !metB d x := by
  rw [lateB, ← hd, ← hx, decide_eq_true h, metB, Bool.true_and]
  by_cases h1 : x < 0
  · simp [h1]
  · by_cases h2 : d < x
    · simp [h2]
    · simp [h1, h2]; omega

set_option maxRecDepth 100000 in
set_option maxHeartbeats 4000000 in
/-- impl.Missed. -/
theorem missed_any (ja fa : Option Addr) (jcap fcap n : Nat) (js : List J4) (f : Nat → Int) (vr : Value) (hvr : ∃ a n c, vr = .slice a n c) (w : World) (hj : RowJ w ja js) (hf : IntF w fa n f) (hn : js.length ≤ 1048576) (hm : n ≤ 1048576) :
    Calls Tryd.prog 15 #[.slice ja js.length jcap, .agg #[vr, .slice fa n fcap]] w fun e w' =>
      ∃ v, e = .returned v ∧ OwnL w' w.heap.size v (if n = js.length then lateL js f js.length else []) ∧ Below w.heap.size w w' := by
  obtain ⟨ra, rn, rc, rfl⟩ := hvr
  have b0 := below_box w (.cells #[.slice ra rn rc, .slice fa n fcap] 29)
  have HJ := Lib.hid hj
  have HF := Lib.hid hf
  clear hj hf
  by_cases hl : n = js.length
  · subst hl
    obtain ⟨i0, hi, hz, hsz, hby⟩ := info_parts intInfo
    have HI := Lib.hid (And.intro hi (And.intro hz (And.intro hsz hby)))
    clear hi hz hsz hby
    go_enter Tryd.func15, Tryd.ntmps15
    go_wp2
    go_loopg [5, 16] js.length (fun m s i wr => ∃ k : Nat, m + k = js.length ∧ i = .int .i64 k ∧ OwnL wr (w.heap.size + 1) s (lateL js f k) ∧ wr.cell? ⟨w.heap.size, 1, none⟩ = some (.slice fa js.length fcap) ∧ Below w.heap.size w wr ∧ w.heap.size < wr.heap.size)
    case atStart => exact ⟨0, rfl, rfl, OwnI.nil _ _ _, by simp [go_sem], b0, by simp⟩
    case round =>
      obtain ⟨k, hk, rfl, ho, c1, B, hs⟩ := hrel
      have HK := Lib.hid hk
      have HO := Lib.hid ho
      have hkk : k ≤ js.length := by omega
      clear hk ho
      by_cases hlt : k < js.length
      · have RJ := Lib.hid (HJ.out.below B)
        have RF := Lib.hid (HF.out.below B)
        obtain ⟨bj, oj, rfl, hbj, x0, x1, x2, x3⟩ := RJ.out k hlt
        obtain ⟨bf, of, rfl, hbf, y0⟩ := RF.out k hlt
        obtain ⟨⟨id, r, d, ex⟩, hJ⟩ : ∃ j, j = jb js k := ⟨_, rfl⟩
        obtain ⟨x, hx⟩ : ∃ x, x = f k := ⟨_, rfl⟩
        rw [← hJ] at x0 x1 x2 x3
        simp only at x0 x1 x2 x3
        rw [← hx] at y0
        have HJX := Lib.hid (And.intro (show d = (jb js k).2.2.1 by rw [← hJ]) hx)
        clear hJ hx
        have hk0 : (0 : Int) ≤ k := by omega
        have hk1 : (k : Int) < js.length := by omega
        have hlen := lateL_len js f k
        go_wp2
        generalize hW2 : wr.alloc (.cells #[.int .i64 id, .int .i64 r, .int .i64 d, .int .i64 ex] 41) = W2
        have BB : Below wr.heap.size wr W2 := by rw [← hW2]; exact below_box _ _
        have j0 : W2.cell? ⟨wr.heap.size, 0, none⟩ = some (.int .i64 id) := by rw [← hW2]; simp [go_sem]
        have j1 : W2.cell? ⟨wr.heap.size, 1, none⟩ = some (.int .i64 r) := by rw [← hW2]; simp [go_sem]
        have j2 : W2.cell? ⟨wr.heap.size, 2, none⟩ = some (.int .i64 d) := by rw [← hW2]; simp [go_sem]
        have j3 : W2.cell? ⟨wr.heap.size, 3, none⟩ = some (.int .i64 ex) := by rw [← hW2]; simp [go_sem]
        have d1 := (BB.cell (p := ⟨w.heap.size, 1, none⟩) hs).trans c1
        have e0 := (BB.cell (p := ⟨bf, of + k, none⟩) hbf).trans y0
        have HO2 := Lib.hid (show OwnL W2 (w.heap.size + 1) _ (lateL js f k) from HO.out.below BB)
        have HB2 := Lib.hid (B.trans (BB.mono B.size))
        have hs2 : w.heap.size < W2.heap.size := Nat.lt_of_lt_of_le hs BB.size
        clear hW2 BB x0 x1 x2 x3 y0 c1 HO B RJ RF
        by_cases h1 : d ≤ 120
        · refine wp_region_still_tail 10 (by kernel_rfl) (by kernel_rfl) ?_
          simp only [List.take_succ_cons, List.take_zero, List.drop_succ_cons, List.drop_zero]
          change wpStill _ _ W2.drew (fun a' => wpList _ _ _ _ a' W2.drew) _ _
          iterate 10 still_step
          refine wpStill_nil ?_
          go_wp2_with fail
          refine (metBy_any _ _ _ _ _ _).mono ?_
          rintro e w3 ⟨rfl, b3⟩
          have b3' : Below W2.heap.size W2 w3 := (Below.refl _ _).drew.trans b3
          have d3 := (b3'.cell (p := ⟨w.heap.size, 1, none⟩) hs2).trans d1
          have HO3 := Lib.hid (show OwnL w3 (w.heap.size + 1) _ (lateL js f k) from HO2.out.below b3')
          have HB3 := Lib.hid (HB2.out.trans (b3'.mono HB2.out.size))
          have hs3 : w.heap.size < w3.heap.size := Nat.lt_of_lt_of_le hs2 b3'.size
          have HLT := Lib.hid (metB_late HJX.out.1 HJX.out.2 h1)
          clear b3 b3' d1 e0 HO2 HB2 j0 j1 j2 j3
          obtain ⟨l, hl⟩ : ∃ l, l = lateL js f k := ⟨_, rfl⟩
          rw [← hl] at hlen HO3
          have HL := Lib.hid hl
          clear hl
          cases hmb : metB d x with
          | true =>
            have HMB := Lib.hid hmb
            clear hmb
            go_wp2
            go_roundg (gk - 1)
            case measure => have := HK.out; omega
            case rel => exact ⟨k + 1, by have := HK.out; omega, by go_num, by rw [lateL, HLT.out, HMB.out, if_neg (by simp), ← HL.out]; exact HO3.out, d3, HB3.out, hs3⟩
          | false =>
            have HMB := Lib.hid hmb
            clear hmb
            go_wp2_with (at_builtin; refine wpList_append_own _ rfl (.tmp 34) (.tmp 36) 27 rfl (w.heap.size + 1) 3 i0 _ 1 8 Tryd.underlying27 HI.out.1 HI.out.2.1 HI.out.2.2.1 HI.out.2.2.2 rfl (by decide) _ l.length (vals (fun k => l.getD k 0) l.length) rfl (World.ownsRow.alloc HO3.out _) ⟨w3.heap.size, 0, none⟩ 1 1 [.int .i64 (k : Int)] rfl rfl (news1 _ _ _) (one1 _) (by unfold maxLen; omega) (by omega) (by simp; omega) ?_; intro v' w' hown' hgrow hnil)
            have B0 : Below w.heap.size w (w3.alloc (.cells #[.int .i64 (k : Int)] 3)) := HB3.out.alloc HB3.out.size _
            have HB4 := Lib.hid (B0.grown hgrow (Nat.le_trans HB3.out.size (by simp)) (fun k hk => by have := (HO3.out.lt k hk).1; omega))
            have c4 := Lib.hid (show w'.cell? ⟨w.heap.size, 1, none⟩ = some (.slice (some ⟨bf, of, none⟩) js.length fcap) from (hgrow.cell (a := ⟨w.heap.size, 1, none⟩) (((below_box w3 _).cell (p := ⟨w.heap.size, 1, none⟩) hs3).trans d3) (fun e => Nat.not_succ_le_self _ (HO3.out.lt _ e.symm).1)))
            have HO4 := Lib.hid (OwnL.push hown')
            have hsz' := hgrow.size
            simp at hsz'
            clear hown' hgrow hnil B0
            go_roundg (gk - 1)
            case measure => have := HK.out; omega
            case rel => exact ⟨k + 1, by have := HK.out; omega, by go_num, by rw [lateL, HLT.out, HMB.out, if_pos (by simp), ← HL.out]; exact HO4.out, c4.out, HB4.out, by omega⟩
        · have h1' : ¬ d ≤ 120 := h1
          go_quiet (fail)
          go_wp2
          go_roundg (gk - 1)
          case measure => have := HK.out; omega
          case rel => exact ⟨k + 1, by have := HK.out; omega, by go_num, by rw [lateL, if_neg (by rw [lateB, ← HJX.out.1]; simp; omega)]; exact HO2.out.below (below_drewN _ _), d1, below_drewN' HB2.out _, hs2⟩
      · obtain rfl : k = js.length := by omega
        go_wp2
        go_ret
        try rw [if_pos rfl]
        exact ⟨_, rfl, OwnI.mono HO.out (by omega), B⟩
  · have hl' : ((n : Int) != js.length) = true := by simp; omega
    have HL := Lib.hid hl
    clear hl
    go_enter Tryd.func15, Tryd.ntmps15
    go_wp2
    go_ret
    try rw [if_neg HL.out]
    exact ⟨_, rfl, OwnI.nil _ _ _, b0⟩

end Go.Proofs.YtdhdodmpfbgliaaDoor
