/- Contracts of the program's functions about legal release patterns. Conditions: those that each theorem names. -/
import Derived.Test.YtdhdodmpfbgliaaDoorHeaps
namespace Go.Proofs.YtdhdodmpfbgliaaDoor
open Go.RowKit Go.Deep

def LegJ (ts : List T3) (id r dl ex : Int) : Prop := (0 ≤ id ∧ id < ts.length) ∧ (0 ≤ r ∧ r ≤ 119) ∧ dl = r + (tk ts id.toNat).2.1 ∧ (1 ≤ ex ∧ ex ≤ (tk ts id.toNat).1)
instance (ts : List T3) (id r dl ex : Int) : Decidable (LegJ ts id r dl ex) := by unfold LegJ; infer_instance
/-- All that a job must meet by itself. -/
def legJ (ts : List T3) (id r dl ex : Int) : Bool := decide (LegJ ts id r dl ex)
theorem ret_legJ {ts : List T3} {id r dl ex : Int} {b : Bool} (h : b = true ↔ LegJ ts id r dl ex) : Ending.returned (.bool b) = .returned (.bool (legJ ts id r dl ex)) := by
  rw [legJ]
  congr 2
  rw [Bool.eq_iff_iff, h]
  simp

set_option maxRecDepth 100000 in
set_option maxHeartbeats 1000000 in
/-- impl.Job.legal. -/
theorem legalJob_any (a : Option Addr) (cap : Nat) (ts : List T3) (id r dl ex : Int) (w : World) (hr : Row w a ts) (hv : ts.all tv = true) :
    Calls Tryd.prog 52 #[.agg #[.int .i64 id, .int .i64 r, .int .i64 dl, .int .i64 ex], .slice a ts.length cap] w fun e w' =>
      e = .returned (.bool (legJ ts id r dl ex)) ∧ Below w.heap.size w w' := by
  have HR := Lib.hid hr
  have HV := Lib.hid hv
  clear hr hv
  by_cases h : (0 ≤ id ∧ id < ts.length) ∧ (0 ≤ r ∧ r ≤ 119)
  · obtain ⟨⟨h1, h2⟩, h3, h4⟩ := h
    obtain ⟨i, rfl⟩ := Int.eq_ofNat_of_zero_le h1
    have hi : i < ts.length := by omega
    obtain ⟨bt, ot, rfl, hbt, y0, y1, y2⟩ := HR.out.at hi
    obtain ⟨⟨C, D, Q⟩, hT⟩ : ∃ t, t = tk ts i := ⟨_, rfl⟩
    rw [← hT] at y0 y1 y2
    simp only at y0 y1 y2
    have hbd := tv_bd (tk_tv HV.out hi)
    rw [← hT] at hbd
    simp only [cst, dln, per] at hbd
    have HT := Lib.hid hT
    clear hT
    have n1 : ¬ (i : Int) < 0 := by omega
    have n2 : ¬ (ts.length : Int) ≤ i := by omega
    have n3 : ¬ r < 0 := by omega
    have n4 : ¬ (120 : Int) ≤ r := by omega
    have hne : ¬ w.heap.size = bt := by omega
    by_cases c1 : dl = r + D
    · subst c1
      by_cases c2 : 1 ≤ ex
      · by_cases c3 : ex ≤ C
        · go_enter Tryd.func52, Tryd.ntmps52
          go_wp2
          go_ret
          exact ⟨ret_legJ (by simp only [LegJ, Int.toNat_natCast, ← HT.out]; simp; omega), (below_box _ _).alloc (by simp) _⟩
        · go_enter Tryd.func52, Tryd.ntmps52
          go_wp2
          go_ret
          exact ⟨ret_legJ (by simp only [LegJ, Int.toNat_natCast, ← HT.out]; simp; omega), (below_box _ _).alloc (by simp) _⟩
      · go_enter Tryd.func52, Tryd.ntmps52
        go_wp2
        go_ret
        exact ⟨ret_legJ (by simp only [LegJ, Int.toNat_natCast, ← HT.out]; simp; omega), (below_box _ _).alloc (by simp) _⟩
    · have c1' : (dl == r + D) = false := by simpa using c1
      have HC1 := Lib.hid c1
      clear c1
      go_enter Tryd.func52, Tryd.ntmps52
      go_wp2
      go_ret
      exact ⟨ret_legJ (by have := HC1.out; simp only [LegJ, Int.toNat_natCast, ← HT.out]; simp; omega), (below_box _ _).alloc (by simp) _⟩
  · have HN := Lib.hid h
    clear h
    by_cases h1 : id < 0
    · go_enter Tryd.func52, Tryd.ntmps52
      go_wp2
      go_ret
      exact ⟨ret_legJ (by have := HN.out; simp only [LegJ]; simp; omega), below_box _ _⟩
    · by_cases h2 : (ts.length : Int) ≤ id
      · go_enter Tryd.func52, Tryd.ntmps52
        go_wp2
        go_ret
        exact ⟨ret_legJ (by have := HN.out; simp only [LegJ]; simp; omega), below_box _ _⟩
      · by_cases h3 : r < 0
        · go_enter Tryd.func52, Tryd.ntmps52
          go_wp2
          go_ret
          exact ⟨ret_legJ (by have := HN.out; simp only [LegJ]; simp; omega), below_box _ _⟩
        · have h4 : (120 : Int) ≤ r := by have := HN.out; omega
          go_enter Tryd.func52, Tryd.ntmps52
          go_wp2
          go_ret
          exact ⟨ret_legJ (by have := HN.out; simp only [LegJ]; simp; omega), below_box _ _⟩

end Go.Proofs.YtdhdodmpfbgliaaDoor

namespace Go.Proofs.YtdhdodmpfbgliaaDoor
open Go.RowKit Go.Deep

/-- In a round: the job's copy in block jb, the earliest next releases in block e. -/
structure LB (w : World) (e jb0 : Nat) (W : World) (id r dl ex : Int) (ts : List T3) (js : List J4) (k : Nat) : Prop where
  j0 : W.cell? ⟨jb0, 0, none⟩ = some (.int .i64 id)
  j1 : W.cell? ⟨jb0, 1, none⟩ = some (.int .i64 r)
  j2 : W.cell? ⟨jb0, 2, none⟩ = some (.int .i64 dl)
  j3 : W.cell? ⟨jb0, 3, none⟩ = some (.int .i64 ex)
  nr : NextRow W e ts js k
  bl : Below w.heap.size w W
  sz : e < W.heap.size
theorem LB.below {w W W' : World} {e jb0 k : Nat} {id r dl ex : Int} {ts : List T3} {js : List J4} (h : LB w e jb0 W id r dl ex ts js k) (hb : Below W.heap.size W W') : LB w e jb0 W' id r dl ex ts js k := by
  have hl := World.block_lt_of_cell? W ⟨jb0, 0, none⟩ h.j0
  exact ⟨(hb.cell (p := ⟨jb0, 0, none⟩) hl).trans h.j0, (hb.cell (p := ⟨jb0, 1, none⟩) hl).trans h.j1, (hb.cell (p := ⟨jb0, 2, none⟩) hl).trans h.j2, (hb.cell (p := ⟨jb0, 3, none⟩) hl).trans h.j3, h.nr.of_block (hb.block e h.sz), h.bl.trans (hb.mono h.bl.size), Nat.lt_of_lt_of_le h.sz hb.size⟩
theorem LB.z {w W : World} {e jb0 k i N : Nat} {id r dl ex : Int} {ts : List T3} {js : List J4} (h : LB w e jb0 W id r dl ex ts js k) (hi : i < ts.length) (hN : N = nx ts js k i) : W.cell? ⟨e, i, none⟩ = some (.int .i64 (N : Int)) := by
  rw [hN]
  exact h.nr.cell hi
theorem LB.zf {w W : World} {e jb0 k : Nat} {id r dl ex : Int} {ts : List T3} {js : List J4} (h : LB w e jb0 W id r dl ex ts js k) (i : Nat) : W.frozen? ⟨e, i, none⟩ = false := h.nr.frozen i
theorem next_step1 {ts : List T3} {js : List J4} {k i b : Nat} {r dl ex C D Q : Int} {W : World} (hJ : ((i : Int), r, dl, ex) = jb js k) (hT : (C, D, Q) = tk ts i) (hr : 0 ≤ r) (hQ : 0 ≤ Q) (h : NextRow W b ts js k) :
    NextRow (W.drew.setCell ⟨b, i, none⟩ (.int .i64 (r + Q))) b ts js (k + 1) :=
  (World.rowIs.set (w := W.drew) (h.of_block rfl) i (.int .i64 (r + Q))).congr fun j _ => nx_step hJ hT hr hQ j
theorem size_step1 {n : Nat} {W : World} (h : n < W.heap.size) {a : Addr} {v : Value} : n < (W.drew.setCell a v).heap.size := size_step (wr := W) (W := W) h (Below.refl _ _) 1 a
theorem legJ_of {ts : List T3} {js : List J4} {k : Nat} {id r dl ex : Int} (hJ : (id, r, dl, ex) = jb js k) (h : legJ ts id r dl ex = false) : ¬ Leg1 ts js k := by
  intro hl
  have h2 : LegJ ts id r dl ex := by
    obtain ⟨a1, a2, _, a4, a5, _⟩ := hl
    have e : jid js k = id.toNat := by simp [jid, ← hJ]
    rw [← hJ] at a1 a2 a4 a5
    rw [e] at a4 a5
    exact ⟨a1, a2, a4, a5⟩
  rw [legJ, decide_eq_false_iff_not] at h
  exact h h2

set_option maxRecDepth 100000 in
set_option maxHeartbeats 20000000 in
/-- impl.JobsLegal. -/
theorem jobsLegal_any (a ja : Option Addr) (cap jcap : Nat) (ts : List T3) (js : List J4) (w : World) (hr : Row w a ts) (hj : RowJ w ja js) (hn : ts.length ≤ 1099511627776) (hjn : js.length ≤ 1099511627776) :
    Calls Tryd.prog 31 #[.slice a ts.length cap, .slice ja js.length jcap] w fun e w' =>
      e = .returned (.bool (legB ts js)) ∧ Below w.heap.size w w' := by
  have HR := Lib.hid hr
  have HJ := Lib.hid hj
  clear hr hj
  by_cases hv : svB ts = true
  · have HV := Lib.hid (sv_all hv).1
    have hl5 := (sv_all hv).2
    by_cases hl : js.length ≤ 60
    · have hl' : ¬ (60 : Int) < js.length := by omega
      have HSV := Lib.hid hv
      go_enter Tryd.func31, Tryd.ntmps31
      go_wp2_with fail
      refine (setValid_any _ _ _ _ HR.out hn).mono ?_
      rintro e w1 ⟨rfl, b1⟩
      have hmk := run_make_ints ts.length hn
      go_wp2
      clear hmk hv
      go_loopg [21] js.length (fun m i wr => ∃ k : Nat, m + k = js.length ∧ i = .int .i64 k ∧ (∀ j, j < k → Leg1 ts js j) ∧ NextRow wr w1.heap.size ts js k ∧ Below w.heap.size w wr ∧ w1.heap.size < wr.heap.size)
      case atStart => exact ⟨0, rfl, rfl, fun j hj => absurd hj (Nat.not_lt_zero _), World.rowIs_made w1 (.int .i64 0) ts.length 3, b1.alloc b1.size _, by simp⟩
      case round =>
        obtain ⟨k, hk, rfl, hlg, hnr, B, hsz⟩ := hrel
        have HK := Lib.hid hk
        have HLG := Lib.hid hlg
        have HNR := Lib.hid hnr
        have hkk : k ≤ js.length := by omega
        clear hk hlg hnr
        by_cases hlt : k < js.length
        · have RJ := Lib.hid (HJ.out.below B)
          obtain ⟨bj, oj, rfl, hbj, x0, x1, x2, x3⟩ := RJ.out k hlt
          obtain ⟨⟨id, r, dl, ex⟩, hJ⟩ : ∃ j, j = jb js k := ⟨_, rfl⟩
          rw [← hJ] at x0 x1 x2 x3
          simp only at x0 x1 x2 x3
          have HJK := Lib.hid hJ
          clear hJ
          have hk0 : (0 : Int) ≤ k := by omega
          have hk1 : (k : Int) < js.length := by omega
          go_wp2
          generalize hW2 : wr.alloc (.cells #[.int .i64 id, .int .i64 r, .int .i64 dl, .int .i64 ex] 41) = W2
          have BB : Below wr.heap.size wr W2 := by rw [← hW2]; exact below_box _ _
          have HL2 := Lib.hid (show LB w w1.heap.size wr.heap.size W2 id r dl ex ts js k from ⟨by rw [← hW2]; simp [go_sem], by rw [← hW2]; simp [go_sem], by rw [← hW2]; simp [go_sem], by rw [← hW2]; simp [go_sem], HNR.out.of_block (BB.block w1.heap.size hsz), B.trans (BB.mono B.size), Nat.lt_of_lt_of_le hsz BB.size⟩)
          have RT := Lib.hid (HR.out.below HL2.out.bl)
          have j0 := HL2.out.j0
          have j1 := HL2.out.j1
          have j2 := HL2.out.j2
          have j3 := HL2.out.j3
          clear hW2 x0 x1 x2 x3 BB HNR RJ
          by_cases hLJ : legJ ts id r dl ex = true
          · have hLJ' : LegJ ts id r dl ex := by simpa [legJ] using hLJ
            obtain ⟨⟨hid0, hid1⟩, hB, hdl, c3⟩ := hLJ'
            obtain ⟨i, rfl⟩ := Int.eq_ofNat_of_zero_le hid0
            have hi : i < ts.length := by omega
            have HLJ := Lib.hid hLJ
            obtain ⟨bt, ot, rfl, hbt, y0, y1, y2⟩ := RT.out.at hi
            obtain ⟨⟨C, D, Q⟩, hT⟩ : ∃ t, t = tk ts i := ⟨_, rfl⟩
            have hbd := tv_bd (tk_tv HV.out hi)
            rw [← hT] at hbd
            simp only [cst, dln, per] at hbd
            rw [Int.toNat_natCast, ← hT] at hdl c3
            simp only at hdl c3
            have c2 := hdl
            have HT := Lib.hid hT
            have hnx := nx_le HV.out HLG.out i hi
            obtain ⟨N, hN⟩ : ∃ N, N = nx ts js k i := ⟨_, rfl⟩
            rw [← hN] at hnx
            have HN := Lib.hid hN
            have z0 := HL2.out.z hi HN.out
            have HC2 := Lib.hid c2
            clear hT hN hdl hLJ y0 y1 y2 c2
            have c2 := HC2
            have hi0 : (0 : Int) ≤ i := by omega
            have hi1 : (i : Int) < ts.length := by omega
            by_cases c1 : (N : Int) ≤ r
            · have c1' : ¬ r < N := by omega
              refine wp_region_held_drew (S := fun w' => w'.cell? ⟨wr.heap.size, 0, none⟩ = some (.int .i64 (i : Int)) ∧ w'.cell? ⟨wr.heap.size, 1, none⟩ = some (.int .i64 r) ∧ w'.cell? ⟨wr.heap.size, 2, none⟩ = some (.int .i64 dl) ∧ w'.cell? ⟨wr.heap.size, 3, none⟩ = some (.int .i64 ex) ∧ w'.cell? ⟨w1.heap.size, i, none⟩ = some (.int .i64 (N : Int))) (by kernel_rfl) ?_ (fun hHeld => ?_)
              · (try dsimp only)
                (first | (go_keep; done) | (simp [go_sem, *]; done))
              refine wpAnyH_take (i := 0) (v := ?_) (toArr_get _ 0 _ rfl) (by kernel_rfl) (by kernel_rfl) (by kernel_rfl) (fun _ _ _ h => h) (Or.inl ⟨by rfl, ?_⟩) (by assumption) ?_
              rotate_left
              · (intro w hSw; (try dsimp only at hSw); go_simp; (try with_reducible rfl))
              (try simp only [Act.put, List.setIfInBounds_toArray, List.set_cons_zero, List.set_cons_succ])
              refine wpAnyH_take (i := 1) (v := ?_) (toArr_get _ 1 _ rfl) (by kernel_rfl) (by kernel_rfl) (by kernel_rfl) (fun _ _ _ h => h) (Or.inl ⟨by rfl, ?_⟩) (by assumption) ?_
              rotate_left
              · (intro w hSw; (try dsimp only at hSw); go_simp; (try with_reducible rfl))
              (try simp only [Act.put, List.setIfInBounds_toArray, List.set_cons_zero, List.set_cons_succ])
              refine wpAnyH_ready (rs := [2]) (by kernel_rfl) (by simp) ?_
              refine AllReadyH.cons (toArr_get _ 2 _ rfl) (fun K hK => ?_) ?_
              · go_simp
                go_at_call 52
                refine (legalJob_any _ _ ts _ _ _ _ _ (RT.out.below (Below.refl W2.heap.size W2).drew) HV.out).mono ?_
                rintro e w3 ⟨rfl, b3⟩
                have HL3 := Lib.hid (HL2.out.below ((Below.refl W2.heap.size W2).drew.trans b3))
                have k0 := HL3.out.j0
                have k1 := HL3.out.j1
                have k2 := HL3.out.j2
                have k3 := HL3.out.j3
                have kz := HL3.out.z hi HN.out
                rw [HLJ.out]
                clear b3 j0 j1 j2 j3 z0
                go_wp2_with fail
                refine hK.out _ _ ?_ (fun hHeld2 => ?_)
                · (try dsimp only)
                  (first | (go_keep; done) | (simp [go_sem, *]; done))
                clear hK K hHeld
                have hHeld := hHeld2
                clear hHeld2
                (try simp only [Act.put, List.setIfInBounds_toArray, List.set_cons_zero, List.set_cons_succ])
                refine wpAnyH_take (i := 3) (v := ?_) (toArr_get _ 3 _ rfl) (by kernel_rfl) (by kernel_rfl) (by kernel_rfl) (fun _ _ _ h => h) (Or.inl ⟨by rfl, ?_⟩) (by assumption) ?_
                rotate_left
                · (intro w hSw; (try dsimp only at hSw); go_simp; (try with_reducible rfl))
                (try simp only [Act.put, List.setIfInBounds_toArray, List.set_cons_zero, List.set_cons_succ])
                refine wpAnyH_take (i := 4) (v := ?_) (toArr_get _ 4 _ rfl) (by kernel_rfl) (by kernel_rfl) (by kernel_rfl) (fun _ _ _ h => h) (Or.inl ⟨by rfl, ?_⟩) (by assumption) ?_
                rotate_left
                · (intro w hSw; (try dsimp only at hSw); go_simp; (try with_reducible rfl))
                (try simp only [Act.put, List.setIfInBounds_toArray, List.set_cons_zero, List.set_cons_succ])
                refine wpAnyH_take (i := 5) (v := ?_) (toArr_get _ 5 _ rfl) (by kernel_rfl) (by kernel_rfl) (by kernel_rfl) (fun _ _ _ h => h) (Or.inl ⟨by rfl, ?_⟩) (by assumption) ?_
                rotate_left
                · (intro w hSw; (try dsimp only at hSw); go_simp; (try with_reducible rfl))
                (try simp only [Act.put, List.setIfInBounds_toArray, List.set_cons_zero, List.set_cons_succ])
                refine wpAnyH_take (i := 6) (v := ?_) (toArr_get _ 6 _ rfl) (by kernel_rfl) (by kernel_rfl) (by kernel_rfl) (fun _ _ _ h => h) (Or.inl ⟨by rfl, ?_⟩) (by assumption) ?_
                rotate_left
                · (intro w hSw; (try dsimp only at hSw); go_simp; (try with_reducible rfl))
                (try simp only [Act.put, List.setIfInBounds_toArray, List.set_cons_zero, List.set_cons_succ])
                refine wpAnyH_take (i := 7) (v := ?_) (toArr_get _ 7 _ rfl) (by kernel_rfl) (by kernel_rfl) (by kernel_rfl) (fun _ _ _ h => h) (Or.inl ⟨by rfl, ?_⟩) (by assumption) ?_
                rotate_left
                · (intro w hSw; (try dsimp only at hSw); go_simp; (try with_reducible rfl))
                (try simp only [Act.put, List.setIfInBounds_toArray, List.set_cons_zero, List.set_cons_succ])
                refine wpAnyH_take (i := 8) (v := ?_) (toArr_get _ 8 _ rfl) (by kernel_rfl) (by kernel_rfl) (by kernel_rfl) (fun _ _ _ h => h) (Or.inl ⟨by rfl, ?_⟩) (by assumption) ?_
                rotate_left
                · (intro w hSw; (try dsimp only at hSw); go_simp; (try with_reducible rfl))
                (try simp only [Act.put, List.setIfInBounds_toArray, List.set_cons_zero, List.set_cons_succ])
                refine wpAnyH_take (i := 9) (v := ?_) (toArr_get _ 9 _ rfl) (by kernel_rfl) (by kernel_rfl) (by kernel_rfl) (fun _ _ _ h => h) (Or.inl ⟨by rfl, ?_⟩) (by assumption) ?_
                rotate_left
                · (intro w hSw; (try dsimp only at hSw); go_simp; (try with_reducible rfl))
                (try simp only [Act.put, List.setIfInBounds_toArray, List.set_cons_zero, List.set_cons_succ])
                refine wpAnyH_take (i := 10) (v := ?_) (toArr_get _ 10 _ rfl) (by kernel_rfl) (by kernel_rfl) (by kernel_rfl) (fun _ _ _ h => h) (Or.inl ⟨by rfl, ?_⟩) (by assumption) ?_
                rotate_left
                · (intro w hSw; (try dsimp only at hSw); go_simp; (try with_reducible rfl))
                (try simp only [Act.put, List.setIfInBounds_toArray, List.set_cons_zero, List.set_cons_succ])
                refine wpAnyH_take (i := 11) (v := ?_) (toArr_get _ 11 _ rfl) (by kernel_rfl) (by kernel_rfl) (by kernel_rfl) (fun _ _ _ h => h) (Or.inl ⟨by rfl, ?_⟩) (by assumption) ?_
                rotate_left
                · (intro w hSw; (try dsimp only at hSw); go_simp; (try with_reducible rfl))
                (try simp only [Act.put, List.setIfInBounds_toArray, List.set_cons_zero, List.set_cons_succ])
                refine wpAnyH_take (i := 12) (v := ?_) (toArr_get _ 12 _ rfl) (by kernel_rfl) (by kernel_rfl) (by kernel_rfl) (fun _ _ _ h => h) (Or.inl ⟨by rfl, ?_⟩) (by assumption) ?_
                rotate_left
                · (intro w hSw; (try dsimp only at hSw); go_simp; (try with_reducible rfl))
                (try simp only [Act.put, List.setIfInBounds_toArray, List.set_cons_zero, List.set_cons_succ])
                refine wpAnyH_take (i := 13) (v := ?_) (toArr_get _ 13 _ rfl) (by kernel_rfl) (by kernel_rfl) (by kernel_rfl) (fun _ _ _ h => h) (Or.inl ⟨by rfl, ?_⟩) (by assumption) ?_
                rotate_left
                · (intro w hSw; (try dsimp only at hSw); go_simp; (try with_reducible rfl))
                (try simp only [Act.put, List.setIfInBounds_toArray, List.set_cons_zero, List.set_cons_succ])
                refine wpAnyH_done (by kernel_rfl) ?_ _
                clear k0 k1 k2 k3 kz
                go_wp2
                by_cases hk0' : k = 0
                · subst hk0'
                  go_quiet (fail)
                  go_wp2
                  generalize hW5 : w3.drewN nq = W5
                  have HL5 := Lib.hid (show LB w w1.heap.size wr.heap.size W5 (i : Int) r dl ex ts js 0 by rw [← hW5]; exact HL3.out.below (below_drewN w3 nq))
                  clear hW5
                  have k0 := HL5.out.j0
                  have k1 := HL5.out.j1
                  have kz := HL5.out.z hi HN.out
                  have kf := HL5.out.zf i
                  have RT5 := Lib.hid (HR.out.below HL5.out.bl)
                  obtain ⟨bt5, ot5, hbt5, _, y50, y51, y52⟩ := RT5.out.at hi
                  simp only [Option.some.injEq, Addr.mk.injEq, and_true] at hbt5
                  obtain ⟨rfl, rfl⟩ := hbt5
                  rw [← HT.out] at y52
                  simp only at y52
                  refine wp_region_still_tail 13 (by kernel_rfl) (by kernel_rfl) ?_
                  simp only [List.take_succ_cons, List.take_zero, List.drop_succ_cons, List.drop_zero]
                  change wpStill _ _ W5.drew (fun a' => wpList _ _ _ _ a' W5.drew) _ _
                  iterate 13 still_step
                  refine wpStill_nil ?_
                  go_wp2
                  go_roundg (gk - 1)
                  case measure => have := HK.out; omega
                  case rel => exact ⟨0 + 1, by have := HK.out; omega, by go_num, leg_next HLG.out ((leg1_iff HJK.out HT.out HN.out).2 ⟨hi, hB, c1, c2, c3, .inl rfl⟩), next_step1 HJK.out HT.out hB.1 (by omega) HL5.out.nr, (HL5.out.bl.drew).setCell (p := ⟨w1.heap.size, i, none⟩) b1.size _, size_step1 HL5.out.sz⟩
                · obtain ⟨q, rfl⟩ : ∃ q, k = q + 1 := ⟨k - 1, by omega⟩
                  have RJ3 := Lib.hid (HJ.out.below HL3.out.bl)
                  obtain ⟨bp, op, hbp, _, p0, p1, p2, p3⟩ := RJ3.out q (by omega)
                  simp only [Option.some.injEq, Addr.mk.injEq, and_true] at hbp
                  obtain ⟨rfl, rfl⟩ := hbp
                  obtain ⟨⟨pi, pr, pd, pe⟩, hPJ⟩ : ∃ j, j = jb js q := ⟨_, rfl⟩
                  rw [← hPJ] at p0 p1 p2 p3
                  simp only at p0 p1 p2 p3
                  have HPJ := Lib.hid hPJ
                  clear hPJ hk0'
                  have hkp : (0 : Int) < (q : Int) + 1 := by omega
                  have hq0 : (0 : Int) ≤ q := by omega
                  have hq1 : (q : Int) < js.length := by omega
                  have k0 := HL3.out.j0
                  have k1 := HL3.out.j1
                  have k2 := HL3.out.j2
                  have k3 := HL3.out.j3
                  refine wp_region_still_tail 9 (by kernel_rfl) (by kernel_rfl) ?_
                  simp only [List.take_succ_cons, List.take_zero, List.drop_succ_cons, List.drop_zero]
                  change wpStill _ _ w3.drew (fun a' => wpList _ _ _ _ a' w3.drew) _ _
                  have hwq : IntKind.i64.wrap (q : Int) = q := IntWalk.i64_in _ (by omega)
                  iterate 9 still_step
                  clear hwq
                  refine wpStill_nil ?_
                  go_wp2_with fail
                  refine (compareReleases_any pi pr pd pe i r dl ex _).mono ?_
                  rintro e w4 ⟨rfl, b4⟩
                  have HL4 := Lib.hid (HL3.out.below ((Below.refl w3.heap.size w3).drew.trans b4))
                  obtain ⟨o, ho⟩ : ∃ o, o = orI (cmpI pr r) (cmpI pi i) := ⟨_, rfl⟩
                  have hord := orI_lt pr r pi i
                  rw [← ho] at hord ⊢
                  have HO := Lib.hid hord
                  clear ho hord b4 k0 k1 k2 k3
                  by_cases ho : o < 0
                  · have ho' : ¬ (0 : Int) ≤ o := by omega
                    have HO2 := Lib.hid (HO.out.1 ho)
                    go_wp2
                    have HL5 := Lib.hid (show LB w w1.heap.size wr.heap.size w4 (i : Int) r dl ex ts js (q + 1) from HL4.out)
                    have k0 := HL5.out.j0
                    have k1 := HL5.out.j1
                    have kz := HL5.out.z hi HN.out
                    have kf := HL5.out.zf i
                    have RT5 := Lib.hid (HR.out.below HL5.out.bl)
                    obtain ⟨bt5, ot5, hbt5, _, y50, y51, y52⟩ := RT5.out.at hi
                    simp only [Option.some.injEq, Addr.mk.injEq, and_true] at hbt5
                    obtain ⟨rfl, rfl⟩ := hbt5
                    rw [← HT.out] at y52
                    simp only at y52
                    refine wp_region_still_tail 13 (by kernel_rfl) (by kernel_rfl) ?_
                    simp only [List.take_succ_cons, List.take_zero, List.drop_succ_cons, List.drop_zero]
                    change wpStill _ _ w4.drew (fun a' => wpList _ _ _ _ a' w4.drew) _ _
                    iterate 13 still_step
                    refine wpStill_nil ?_
                    go_wp2
                    go_roundg (gk - 1)
                    case measure => have := HK.out; omega
                    case rel => exact ⟨(q + 1) + 1, by have := HK.out; omega, by go_num, leg_next HLG.out ((leg1_iff HJK.out HT.out HN.out).2 ⟨hi, hB, c1, c2, c3, by rw [Nat.add_sub_cancel, ← HPJ.out]; have := HO2.out; simp only; omega⟩), next_step1 HJK.out HT.out hB.1 (by omega) HL5.out.nr, (HL5.out.bl.drew).setCell (p := ⟨w1.heap.size, i, none⟩) b1.size _, size_step1 HL5.out.sz⟩
                  · have ho' : (0 : Int) ≤ o := by omega
                    have HO2 := Lib.hid (show ¬ (pr < r ∨ (pr = r ∧ pi < i)) from fun h => ho (HO.out.2 h))
                    go_wp2
                    go_ret
                    exact ⟨ret_bool (leg_no hlt (by rw [leg1_iff HJK.out HT.out HN.out, Nat.add_sub_cancel, ← HPJ.out]; rintro ⟨_, _, _, _, _, h⟩; have := HO2.out; simp only at h; omega)).symm, HL4.out.bl⟩
              exact AllReadyH.nil
            · have c1' : r < N := by omega
              refine wp_region_held_drew (S := fun w' => w'.cell? ⟨wr.heap.size, 0, none⟩ = some (.int .i64 (i : Int)) ∧ w'.cell? ⟨wr.heap.size, 1, none⟩ = some (.int .i64 r) ∧ w'.cell? ⟨wr.heap.size, 2, none⟩ = some (.int .i64 dl) ∧ w'.cell? ⟨wr.heap.size, 3, none⟩ = some (.int .i64 ex) ∧ w'.cell? ⟨w1.heap.size, i, none⟩ = some (.int .i64 (N : Int))) (by kernel_rfl) ?_ (fun hHeld => ?_)
              · (try dsimp only)
                (first | (go_keep; done) | (simp [go_sem, *]; done))
              refine wpAnyH_take (i := 0) (v := ?_) (toArr_get _ 0 _ rfl) (by kernel_rfl) (by kernel_rfl) (by kernel_rfl) (fun _ _ _ h => h) (Or.inl ⟨by rfl, ?_⟩) (by assumption) ?_
              rotate_left
              · (intro w hSw; (try dsimp only at hSw); go_simp; (try with_reducible rfl))
              (try simp only [Act.put, List.setIfInBounds_toArray, List.set_cons_zero, List.set_cons_succ])
              refine wpAnyH_take (i := 1) (v := ?_) (toArr_get _ 1 _ rfl) (by kernel_rfl) (by kernel_rfl) (by kernel_rfl) (fun _ _ _ h => h) (Or.inl ⟨by rfl, ?_⟩) (by assumption) ?_
              rotate_left
              · (intro w hSw; (try dsimp only at hSw); go_simp; (try with_reducible rfl))
              (try simp only [Act.put, List.setIfInBounds_toArray, List.set_cons_zero, List.set_cons_succ])
              refine wpAnyH_ready (rs := [2]) (by kernel_rfl) (by simp) ?_
              refine AllReadyH.cons (toArr_get _ 2 _ rfl) (fun K hK => ?_) ?_
              · go_simp
                go_at_call 52
                refine (legalJob_any _ _ ts _ _ _ _ _ (RT.out.below (Below.refl W2.heap.size W2).drew) HV.out).mono ?_
                rintro e w3 ⟨rfl, b3⟩
                have HL3 := Lib.hid (HL2.out.below ((Below.refl W2.heap.size W2).drew.trans b3))
                have k0 := HL3.out.j0
                have k1 := HL3.out.j1
                have k2 := HL3.out.j2
                have k3 := HL3.out.j3
                have kz := HL3.out.z hi HN.out
                rw [HLJ.out]
                clear b3 j0 j1 j2 j3 z0
                go_wp2_with fail
                refine hK.out _ _ ?_ (fun hHeld2 => ?_)
                · (try dsimp only)
                  (first | (go_keep; done) | (simp [go_sem, *]; done))
                clear hK K hHeld
                have hHeld := hHeld2
                clear hHeld2
                (try simp only [Act.put, List.setIfInBounds_toArray, List.set_cons_zero, List.set_cons_succ])
                refine wpAnyH_take (i := 3) (v := ?_) (toArr_get _ 3 _ rfl) (by kernel_rfl) (by kernel_rfl) (by kernel_rfl) (fun _ _ _ h => h) (Or.inl ⟨by rfl, ?_⟩) (by assumption) ?_
                rotate_left
                · (intro w hSw; (try dsimp only at hSw); go_simp; (try with_reducible rfl))
                (try simp only [Act.put, List.setIfInBounds_toArray, List.set_cons_zero, List.set_cons_succ])
                refine wpAnyH_take (i := 4) (v := ?_) (toArr_get _ 4 _ rfl) (by kernel_rfl) (by kernel_rfl) (by kernel_rfl) (fun _ _ _ h => h) (Or.inl ⟨by rfl, ?_⟩) (by assumption) ?_
                rotate_left
                · (intro w hSw; (try dsimp only at hSw); go_simp; (try with_reducible rfl))
                (try simp only [Act.put, List.setIfInBounds_toArray, List.set_cons_zero, List.set_cons_succ])
                refine wpAnyH_take (i := 5) (v := ?_) (toArr_get _ 5 _ rfl) (by kernel_rfl) (by kernel_rfl) (by kernel_rfl) (fun _ _ _ h => h) (Or.inl ⟨by rfl, ?_⟩) (by assumption) ?_
                rotate_left
                · (intro w hSw; (try dsimp only at hSw); go_simp; (try with_reducible rfl))
                (try simp only [Act.put, List.setIfInBounds_toArray, List.set_cons_zero, List.set_cons_succ])
                refine wpAnyH_take (i := 6) (v := ?_) (toArr_get _ 6 _ rfl) (by kernel_rfl) (by kernel_rfl) (by kernel_rfl) (fun _ _ _ h => h) (Or.inl ⟨by rfl, ?_⟩) (by assumption) ?_
                rotate_left
                · (intro w hSw; (try dsimp only at hSw); go_simp; (try with_reducible rfl))
                (try simp only [Act.put, List.setIfInBounds_toArray, List.set_cons_zero, List.set_cons_succ])
                refine wpAnyH_take (i := 7) (v := ?_) (toArr_get _ 7 _ rfl) (by kernel_rfl) (by kernel_rfl) (by kernel_rfl) (fun _ _ _ h => h) (Or.inl ⟨by rfl, ?_⟩) (by assumption) ?_
                rotate_left
                · (intro w hSw; (try dsimp only at hSw); go_simp; (try with_reducible rfl))
                (try simp only [Act.put, List.setIfInBounds_toArray, List.set_cons_zero, List.set_cons_succ])
                refine wpAnyH_take (i := 8) (v := ?_) (toArr_get _ 8 _ rfl) (by kernel_rfl) (by kernel_rfl) (by kernel_rfl) (fun _ _ _ h => h) (Or.inl ⟨by rfl, ?_⟩) (by assumption) ?_
                rotate_left
                · (intro w hSw; (try dsimp only at hSw); go_simp; (try with_reducible rfl))
                (try simp only [Act.put, List.setIfInBounds_toArray, List.set_cons_zero, List.set_cons_succ])
                refine wpAnyH_take (i := 9) (v := ?_) (toArr_get _ 9 _ rfl) (by kernel_rfl) (by kernel_rfl) (by kernel_rfl) (fun _ _ _ h => h) (Or.inl ⟨by rfl, ?_⟩) (by assumption) ?_
                rotate_left
                · (intro w hSw; (try dsimp only at hSw); go_simp; (try with_reducible rfl))
                (try simp only [Act.put, List.setIfInBounds_toArray, List.set_cons_zero, List.set_cons_succ])
                refine wpAnyH_take (i := 10) (v := ?_) (toArr_get _ 10 _ rfl) (by kernel_rfl) (by kernel_rfl) (by kernel_rfl) (fun _ _ _ h => h) (Or.inl ⟨by rfl, ?_⟩) (by assumption) ?_
                rotate_left
                · (intro w hSw; (try dsimp only at hSw); go_simp; (try with_reducible rfl))
                (try simp only [Act.put, List.setIfInBounds_toArray, List.set_cons_zero, List.set_cons_succ])
                refine wpAnyH_take (i := 11) (v := ?_) (toArr_get _ 11 _ rfl) (by kernel_rfl) (by kernel_rfl) (by kernel_rfl) (fun _ _ _ h => h) (Or.inl ⟨by rfl, ?_⟩) (by assumption) ?_
                rotate_left
                · (intro w hSw; (try dsimp only at hSw); go_simp; (try with_reducible rfl))
                (try simp only [Act.put, List.setIfInBounds_toArray, List.set_cons_zero, List.set_cons_succ])
                refine wpAnyH_take (i := 12) (v := ?_) (toArr_get _ 12 _ rfl) (by kernel_rfl) (by kernel_rfl) (by kernel_rfl) (fun _ _ _ h => h) (Or.inl ⟨by rfl, ?_⟩) (by assumption) ?_
                rotate_left
                · (intro w hSw; (try dsimp only at hSw); go_simp; (try with_reducible rfl))
                (try simp only [Act.put, List.setIfInBounds_toArray, List.set_cons_zero, List.set_cons_succ])
                refine wpAnyH_take (i := 13) (v := ?_) (toArr_get _ 13 _ rfl) (by kernel_rfl) (by kernel_rfl) (by kernel_rfl) (fun _ _ _ h => h) (Or.inl ⟨by rfl, ?_⟩) (by assumption) ?_
                rotate_left
                · (intro w hSw; (try dsimp only at hSw); go_simp; (try with_reducible rfl))
                (try simp only [Act.put, List.setIfInBounds_toArray, List.set_cons_zero, List.set_cons_succ])
                refine wpAnyH_done (by kernel_rfl) ?_ _
                go_wp2
                go_ret
                exact ⟨ret_bool (leg_no hlt (by rw [leg1_iff HJK.out HT.out HN.out]; rintro ⟨_, _, h, _⟩; omega)).symm, HL3.out.bl⟩
              exact AllReadyH.nil
          · have hLJ' : legJ ts id r dl ex = false := by simpa using hLJ
            have HLJ := Lib.hid hLJ'
            clear hLJ hLJ'
            refine wp_region_held_drew (S := fun w' => w'.cell? ⟨wr.heap.size, 0, none⟩ = some (.int .i64 id) ∧ w'.cell? ⟨wr.heap.size, 1, none⟩ = some (.int .i64 r) ∧ w'.cell? ⟨wr.heap.size, 2, none⟩ = some (.int .i64 dl) ∧ w'.cell? ⟨wr.heap.size, 3, none⟩ = some (.int .i64 ex)) (by kernel_rfl) ?_ (fun hHeld => ?_)
            · (try dsimp only)
              (first | (go_keep; done) | (simp [go_sem, *]; done))
            refine wpAnyH_take (i := 0) (v := ?_) (toArr_get _ 0 _ rfl) (by kernel_rfl) (by kernel_rfl) (by kernel_rfl) (fun _ _ _ h => h) (Or.inl ⟨by rfl, ?_⟩) (by assumption) ?_
            rotate_left
            · (intro w hSw; (try dsimp only at hSw); go_simp; (try with_reducible rfl))
            (try simp only [Act.put, List.setIfInBounds_toArray, List.set_cons_zero, List.set_cons_succ])
            refine wpAnyH_take (i := 1) (v := ?_) (toArr_get _ 1 _ rfl) (by kernel_rfl) (by kernel_rfl) (by kernel_rfl) (fun _ _ _ h => h) (Or.inl ⟨by rfl, ?_⟩) (by assumption) ?_
            rotate_left
            · (intro w hSw; (try dsimp only at hSw); go_simp; (try with_reducible rfl))
            (try simp only [Act.put, List.setIfInBounds_toArray, List.set_cons_zero, List.set_cons_succ])
            refine wpAnyH_ready (rs := [2]) (by kernel_rfl) (by simp) ?_
            refine AllReadyH.cons (toArr_get _ 2 _ rfl) (fun K hK => ?_) ?_
            · go_simp
              go_at_call 52
              refine (legalJob_any _ _ ts _ _ _ _ _ (RT.out.below (Below.refl W2.heap.size W2).drew) HV.out).mono ?_
              rintro e w3 ⟨rfl, b3⟩
              have HL3 := Lib.hid (HL2.out.below ((Below.refl W2.heap.size W2).drew.trans b3))
              have k0 := HL3.out.j0
              have k1 := HL3.out.j1
              have k2 := HL3.out.j2
              have k3 := HL3.out.j3
              rw [HLJ.out]
              clear b3 j0 j1 j2 j3
              go_wp2_with fail
              refine hK.out _ _ ?_ (fun hHeld2 => ?_)
              · (try dsimp only)
                (first | (go_keep; done) | (simp [go_sem, *]; done))
              clear hK K hHeld
              have hHeld := hHeld2
              clear hHeld2
              (try simp only [Act.put, List.setIfInBounds_toArray, List.set_cons_zero, List.set_cons_succ])
              refine wpAnyH_take (i := 3) (v := ?_) (toArr_get _ 3 _ rfl) (by kernel_rfl) (by kernel_rfl) (by kernel_rfl) (fun _ _ _ h => h) (Or.inl ⟨by rfl, ?_⟩) (by assumption) ?_
              rotate_left
              · (intro w hSw; (try dsimp only at hSw); go_simp; (try with_reducible rfl))
              (try simp only [Act.put, List.setIfInBounds_toArray, List.set_cons_zero, List.set_cons_succ])
              refine wpAnyH_take (i := 4) (v := ?_) (toArr_get _ 4 _ rfl) (by kernel_rfl) (by kernel_rfl) (by kernel_rfl) (fun _ _ _ h => h) (Or.inl ⟨by rfl, ?_⟩) (by assumption) ?_
              rotate_left
              · (intro w hSw; (try dsimp only at hSw); go_simp; (try with_reducible rfl))
              (try simp only [Act.put, List.setIfInBounds_toArray, List.set_cons_zero, List.set_cons_succ])
              refine wpAnyH_take (i := 5) (v := undef) (toArr_get _ 5 _ rfl) (by kernel_rfl) (by kernel_rfl) (by kernel_rfl) (fun _ _ _ h => h) (Or.inr ⟨by rfl, rfl⟩) (by assumption) ?_
              (try simp only [Act.put, List.setIfInBounds_toArray, List.set_cons_zero, List.set_cons_succ])
              refine wpAnyH_take (i := 6) (v := undef) (toArr_get _ 6 _ rfl) (by kernel_rfl) (by kernel_rfl) (by kernel_rfl) (fun _ _ _ h => h) (Or.inr ⟨by rfl, rfl⟩) (by assumption) ?_
              (try simp only [Act.put, List.setIfInBounds_toArray, List.set_cons_zero, List.set_cons_succ])
              refine wpAnyH_take (i := 7) (v := undef) (toArr_get _ 7 _ rfl) (by kernel_rfl) (by kernel_rfl) (by kernel_rfl) (fun _ _ _ h => h) (Or.inr ⟨by rfl, rfl⟩) (by assumption) ?_
              (try simp only [Act.put, List.setIfInBounds_toArray, List.set_cons_zero, List.set_cons_succ])
              refine wpAnyH_take (i := 8) (v := undef) (toArr_get _ 8 _ rfl) (by kernel_rfl) (by kernel_rfl) (by kernel_rfl) (fun _ _ _ h => h) (Or.inr ⟨by rfl, rfl⟩) (by assumption) ?_
              (try simp only [Act.put, List.setIfInBounds_toArray, List.set_cons_zero, List.set_cons_succ])
              refine wpAnyH_take (i := 9) (v := undef) (toArr_get _ 9 _ rfl) (by kernel_rfl) (by kernel_rfl) (by kernel_rfl) (fun _ _ _ h => h) (Or.inr ⟨by rfl, rfl⟩) (by assumption) ?_
              (try simp only [Act.put, List.setIfInBounds_toArray, List.set_cons_zero, List.set_cons_succ])
              refine wpAnyH_take (i := 10) (v := undef) (toArr_get _ 10 _ rfl) (by kernel_rfl) (by kernel_rfl) (by kernel_rfl) (fun _ _ _ h => h) (Or.inr ⟨by rfl, rfl⟩) (by assumption) ?_
              (try simp only [Act.put, List.setIfInBounds_toArray, List.set_cons_zero, List.set_cons_succ])
              refine wpAnyH_take (i := 11) (v := undef) (toArr_get _ 11 _ rfl) (by kernel_rfl) (by kernel_rfl) (by kernel_rfl) (fun _ _ _ h => h) (Or.inr ⟨by rfl, rfl⟩) (by assumption) ?_
              (try simp only [Act.put, List.setIfInBounds_toArray, List.set_cons_zero, List.set_cons_succ])
              refine wpAnyH_take (i := 12) (v := undef) (toArr_get _ 12 _ rfl) (by kernel_rfl) (by kernel_rfl) (by kernel_rfl) (fun _ _ _ h => h) (Or.inr ⟨by rfl, rfl⟩) (by assumption) ?_
              (try simp only [Act.put, List.setIfInBounds_toArray, List.set_cons_zero, List.set_cons_succ])
              refine wpAnyH_take (i := 13) (v := ?_) (toArr_get _ 13 _ rfl) (by kernel_rfl) (by kernel_rfl) (by kernel_rfl) (fun _ _ _ h => h) (Or.inl ⟨by rfl, ?_⟩) (by assumption) ?_
              rotate_left
              · (intro w hSw; (try dsimp only at hSw); go_simp; (try with_reducible rfl))
              (try simp only [Act.put, List.setIfInBounds_toArray, List.set_cons_zero, List.set_cons_succ])
              refine wpAnyH_done (by kernel_rfl) ?_ _
              go_wp2
              go_ret
              exact ⟨ret_bool (leg_no hlt (legJ_of HJK.out HLJ.out)).symm, HL3.out.bl⟩
            exact AllReadyH.nil
        · obtain rfl : k = js.length := by omega
          go_wp2
          go_ret
          exact ⟨ret_bool (legB_iff.2 ⟨HSV.out, hl, HLG.out⟩).symm, B⟩
    · have hl' : (60 : Int) < js.length := by omega
      go_enter Tryd.func31, Tryd.ntmps31
      go_wp2_with fail
      refine (setValid_any _ _ _ _ HR.out hn).mono ?_
      rintro e w1 ⟨rfl, b1⟩
      go_wp2
      go_ret
      exact ⟨ret_bool (leg_len hl).symm, b1⟩
  · have hv' : svB ts = false := by simpa using hv
    clear hv
    go_enter Tryd.func31, Tryd.ntmps31
    go_wp2_with fail
    refine (setValid_any _ _ _ _ HR.out hn).mono ?_
    rintro e w1 ⟨rfl, b1⟩
    go_wp2
    go_ret
    exact ⟨ret_bool (by simp [legB, hv']), b1⟩

end Go.Proofs.YtdhdodmpfbgliaaDoor
