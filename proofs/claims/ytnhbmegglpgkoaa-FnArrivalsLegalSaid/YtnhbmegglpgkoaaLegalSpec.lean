/- Contract of spec.JobsLegal. Conditions: the slices' cells hold tasks and jobs; their lengths are at most 2^40. -/
import Derived.Test.YtnhbmegglpgkoaaRunB
import Derived.Test.YtnhbmegglpgkoaaUtil
import Derived.Laws.MakeOwn
namespace Go.Proofs.Ytnhbmegglpgkoaa
open Go.RowKit Go.Deep

theorem leg_no {ts : List T3} {js : List J4} {k : Nat} (hk : k < js.length) (h : ¬ Leg1 ts js k) : legB ts js = false := by
  rw [Bool.eq_false_iff]
  intro e
  exact h ((legB_iff.1 e).2.2 k hk)
/-- The row 'next' behind k jobs. -/
abbrev NextRow (w : World) (b : Nat) (ts : List T3) (js : List J4) (k : Nat) : Prop := w.rowIs b 3 ts.length (fun i => .int .i64 (nx ts js k i : Nat))
theorem nx_le {ts : List T3} {js : List J4} {k : Nat} (hv : ts.all tv = true) (h : ∀ j, j < k → Leg1 ts js j) (i : Nat) (hi : i < ts.length) : nx ts js k i ≤ 131 := by
  induction k with
  | zero => simp [nx]
  | succ k ih =>
    have hl := (h k (Nat.lt_succ_self k)).nat hv
    have hb := tv_bd (tk_tv hv hi)
    simp only [nx]
    split
    · omega
    · exact ih fun j hj => h j (by omega)

theorem leg1_iff {ts : List T3} {js : List J4} {k i N : Nat} {r dl ex C D Q : Int} (hJ : ((i : Int), r, dl, ex) = jb js k) (hT : (C, D, Q) = tk ts i) (hN : N = nx ts js k i) :
    Leg1 ts js k ↔ i < ts.length ∧ (0 ≤ r ∧ r ≤ 119) ∧ (N : Int) ≤ r ∧ dl = r + D ∧ (1 ≤ ex ∧ ex ≤ C) ∧ (k = 0 ∨ (jb js (k - 1)).2.1 < r ∨ ((jb js (k - 1)).2.1 = r ∧ (jb js (k - 1)).1 < i)) := by
  have hid : jid js k = i := by simp [jid, ← hJ]
  simp only [Leg1, hid, ← hJ, ← hT, ← hN]
  constructor
  · rintro ⟨⟨a1, a2⟩, a⟩
    exact ⟨by omega, a⟩
  · rintro ⟨a1, a⟩
    exact ⟨⟨by omega, by omega⟩, a⟩
theorem nx_step {ts : List T3} {js : List J4} {k i : Nat} {r dl ex C D Q : Int} (hJ : ((i : Int), r, dl, ex) = jb js k) (hT : (C, D, Q) = tk ts i) (hr : 0 ≤ r) (hQ : 0 ≤ Q) (j : Nat) :
    (if j = i then Value.int .i64 (r + Q) else .int .i64 (nx ts js k j : Nat)) = .int .i64 (nx ts js (k + 1) j : Nat) := by
  have hid : jid js k = i := by simp [jid, ← hJ]
  have hrl : jrel js k = r.toNat := by simp [jrel, ← hJ]
  simp only [nx, hid, hrl]
  by_cases e : j = i
  · subst e
    rw [if_pos rfl, if_pos rfl]
    have : per (tk ts j) = Q.toNat := by simp [per, ← hT]
    rw [this]
    congr 1
    omega
  · rw [if_neg e, if_neg (fun h => e h.symm)]

theorem leg_next {ts : List T3} {js : List J4} {k : Nat} (h : ∀ j, j < k → Leg1 ts js j) (hk : Leg1 ts js k) : ∀ j, j < k + 1 → Leg1 ts js j := fun j hj => by
  by_cases e : j = k
  · subst e; exact hk
  · exact h j (by omega)
theorem leg_len {ts : List T3} {js : List J4} (h : ¬ js.length ≤ 60) : legB ts js = false := by simp [legB, h]
theorem next_step {ts : List T3} {js : List J4} {k i b : Nat} {r dl ex C D Q : Int} {W : World} (hJ : ((i : Int), r, dl, ex) = jb js k) (hT : (C, D, Q) = tk ts i) (hr : 0 ≤ r) (hQ : 0 ≤ Q) (h : W.rowIs b 3 ts.length (fun i => .int .i64 (nx ts js k i : Nat))) (m : Nat) :
    NextRow ((W.drewN m).setCell ⟨b, i, none⟩ (.int .i64 (r + Q))) b ts js (k + 1) :=
  (World.rowIs.set (w := W.drewN m) (h.of_block rfl) i (.int .i64 (r + Q))).congr fun j _ => nx_step hJ hT hr hQ j
theorem size_step {n : Nat} {wr W : World} (h : n < wr.heap.size) (hb : Below wr.heap.size wr W) (m : Nat) (a : Addr) {v : Value} : n < ((W.drewN m).setCell a v).heap.size := by
  have h1 := hb.size
  have h2 : ((W.drewN m).setCell a v).heap.size = W.heap.size := by simp [World.setCell, World.drewN]
  omega

set_option maxRecDepth 100000 in
set_option maxHeartbeats 20000000 in
/-- spec.JobsLegal. -/
theorem specJobsLegal_any (a ja : Option Addr) (cap jcap : Nat) (ts : List T3) (js : List J4) (w : World) (hr : Row w a ts) (hj : RowJ w ja js) (hn : ts.length ≤ 1099511627776) (hjn : js.length ≤ 1099511627776) :
    Calls Try.prog 40 #[.slice a ts.length cap, .slice ja js.length jcap] w fun e w' =>
      e = .returned (.bool (legB ts js)) ∧ Below w.heap.size w w' := by
  have HR := Lib.hid hr
  have HJ := Lib.hid hj
  clear hr hj
  by_cases hv : svB ts = true
  · have HV := Lib.hid (sv_all hv).1
    have hl5 := (sv_all hv).2
    by_cases hl : js.length ≤ 60
    · have hl' : ¬ (60 : Int) < js.length := by omega
      have HSV := Lib.hid hv
      go_enter Try.func40, Try.ntmps40
      go_wp2_with fail
      refine (specSetValid_any _ _ _ _ HR.out hn).mono ?_
      rintro e w1 ⟨rfl, b1⟩
      have hmk := run_make_ints ts.length hn
      go_wp2
      clear hmk hv
      go_loopg [6] js.length (fun m i wr => ∃ k : Nat, m + k = js.length ∧ i = .int .i64 k ∧ (∀ j, j < k → Leg1 ts js j) ∧ NextRow wr w1.heap.size ts js k ∧ Below w.heap.size w wr ∧ w1.heap.size < wr.heap.size)
      case atStart => exact ⟨0, rfl, rfl, fun j hj => absurd hj (Nat.not_lt_zero _), World.rowIs_made w1 (.int .i64 0) ts.length 3, b1.alloc b1.size _, by simp⟩
      case round =>
        obtain ⟨k, hk, rfl, hlg, hnr, B, hsz⟩ := hrel
        have HK := Lib.hid hk
        have HLG := Lib.hid hlg
        have HNR := Lib.hid hnr
        have hkk : k ≤ js.length := by omega
        clear hk hlg hnr
        by_cases hlt : k < js.length
        · have RJ := Lib.hid (HJ.out.below B)
          have RT := Lib.hid (HR.out.below B)
          obtain ⟨bj, oj, rfl, hbj, x0, x1, x2, x3⟩ := RJ.out k hlt
          obtain ⟨⟨id, r, dl, ex⟩, hJ⟩ : ∃ j, j = jb js k := ⟨_, rfl⟩
          rw [← hJ] at x0 x1 x2 x3
          simp only at x0 x1 x2 x3
          have HJK := Lib.hid hJ
          clear hJ
          have hk0 : (0 : Int) ≤ k := by omega
          have hk1 : (k : Int) < js.length := by omega
          go_wp2_with fail
          refine (l1In_any _ _ _ _).mono ?_
          rintro e w2 ⟨rfl, rfl⟩
          by_cases hA : 0 ≤ id ∧ id < ts.length
          · have hA' : inB id 0 (↑ts.length - 1) = true := decide_eq_true (by omega)
            rw [hA']
            clear hA'
            obtain ⟨i, rfl⟩ := Int.eq_ofNat_of_zero_le hA.1
            have hi : i < ts.length := by omega
            go_wp2_with fail
            refine (l1In_any _ _ _ _).mono ?_
            rintro e w2 ⟨rfl, rfl⟩
            by_cases hB : 0 ≤ r ∧ r ≤ 119
            · have hB' : inB r 0 119 = true := decide_eq_true hB
              rw [hB']
              clear hB'
              obtain ⟨bt, ot, rfl, hbt, y0, y1, y2⟩ := RT.out.at hi
              obtain ⟨⟨C, D, Q⟩, hT⟩ : ∃ t, t = tk ts i := ⟨_, rfl⟩
              rw [← hT] at y0 y1 y2
              simp only at y0 y1 y2
              have hbd := tv_bd (tk_tv HV.out hi)
              rw [← hT] at hbd
              simp only [cst, dln, per] at hbd
              have HT := Lib.hid hT
              clear hT
              have z0 := HNR.out.cell hi
              have z1 := HNR.out.frozen i
              have hnx := nx_le HV.out HLG.out i hi
              obtain ⟨N, hN⟩ : ∃ N, N = nx ts js k i := ⟨_, rfl⟩
              rw [← hN] at z0 hnx
              have HN := Lib.hid hN
              clear hN
              have hi0 : (0 : Int) ≤ i := by omega
              have hi1 : (i : Int) < ts.length := by omega
              go_wp2
              generalize hW2 : (wr.alloc (.cells #[.int .i64 (i : Int), .int .i64 r, .int .i64 dl, .int .i64 ex] 91)).alloc (.cells #[.int .i64 C, .int .i64 D, .int .i64 Q] 57) = W2
              have BB : Below wr.heap.size wr W2 := by rw [← hW2]; exact (below_box _ _).alloc (by simp) _
              have BW0 := Lib.hid BB
              have BW := Lib.hid (B.trans (BB.mono B.size))
              have j0 : W2.cell? ⟨wr.heap.size, 0, none⟩ = some (.int .i64 (i : Int)) := by rw [← hW2]; simp [go_sem]
              have j1 : W2.cell? ⟨wr.heap.size, 1, none⟩ = some (.int .i64 r) := by rw [← hW2]; simp [go_sem]
              have j2 : W2.cell? ⟨wr.heap.size, 2, none⟩ = some (.int .i64 dl) := by rw [← hW2]; simp [go_sem]
              have j3 : W2.cell? ⟨wr.heap.size, 3, none⟩ = some (.int .i64 ex) := by rw [← hW2]; simp [go_sem]
              have t0 : W2.cell? ⟨wr.heap.size + 1, 0, none⟩ = some (.int .i64 C) := by rw [← hW2]; simp [go_sem]
              have t1 : W2.cell? ⟨wr.heap.size + 1, 1, none⟩ = some (.int .i64 D) := by rw [← hW2]; simp [go_sem]
              have t2 : W2.cell? ⟨wr.heap.size + 1, 2, none⟩ = some (.int .i64 Q) := by rw [← hW2]; simp [go_sem]
              have z0' : W2.cell? ⟨w1.heap.size, i, none⟩ = some (.int .i64 N) := (BB.cell (p := ⟨w1.heap.size, i, none⟩) hsz).trans z0
              have z1' : W2.frozen? ⟨w1.heap.size, i, none⟩ = false := (BB.frozen (p := ⟨w1.heap.size, i, none⟩) hsz).trans z1
              have NR2 := Lib.hid (HNR.out.of_block (BB.block w1.heap.size hsz))
              have RJ2 := Lib.hid (RJ.out.below BB)
              clear hW2 x0 x1 x2 x3 y0 y1 y2 z0 z1 HNR RJ RT BB
              by_cases c1 : (N : Int) ≤ r
              · have c1' : ¬ r < N := by omega
                by_cases c2 : dl = r + D
                · have c2' : (dl != r + D) = false := by simp [c2]
                  have CI := Lib.hid (fun W => l1In_any ex 1 C W)
                  go_quiet ((go_at_call 22; exact quiet_left (CI.out _)))
                  by_cases c3 : 1 ≤ ex ∧ ex ≤ C
                  · have c3' : inB ex 1 C = true := decide_eq_true c3
                    rw [c3']
                    clear c3'
                    by_cases hk0' : k = 0
                    · subst hk0'
                      go_wp2
                      go_quiet (fail)
                      go_wp2
                      go_roundg (gk - 1)
                      case measure => have := HK.out; omega
                      case rel => exact ⟨0 + 1, by have := HK.out; omega, by go_num, leg_next HLG.out ((leg1_iff HJK.out HT.out HN.out).2 ⟨hi, hB, c1, c2, c3, .inl rfl⟩), next_step HJK.out HT.out hB.1 (by omega) NR2.out _, (below_drewN' BW.out _).setCell (p := ⟨w1.heap.size, i, none⟩) b1.size _, size_step hsz BW0.out _ _⟩
                    · obtain ⟨q, rfl⟩ : ∃ q, k = q + 1 := ⟨k - 1, by omega⟩
                      obtain ⟨bp, op, hbp, _, p0, p1, _, _⟩ := RJ2.out q (by omega)
                      simp only [Option.some.injEq, Addr.mk.injEq, and_true] at hbp
                      obtain ⟨rfl, rfl⟩ := hbp
                      obtain ⟨⟨pi, pr, pd, pe⟩, hPJ⟩ : ∃ j, j = jb js q := ⟨_, rfl⟩
                      rw [← hPJ] at p0 p1
                      simp only at p0 p1
                      have HPJ := Lib.hid hPJ
                      clear hPJ
                      have hkp : (0 : Int) < (q : Int) + 1 := by omega
                      have hq0 : (0 : Int) ≤ q := by omega
                      have hq1 : (q : Int) < js.length := by omega
                      clear hk0'
                      by_cases d1 : r < pr
                      · go_wp2
                        go_quiet (fail)
                        go_wp2
                        go_ret
                        exact ⟨ret_bool (leg_no hlt (by rw [leg1_iff HJK.out HT.out HN.out, Nat.add_sub_cancel, ← HPJ.out]; rintro ⟨_, _, _, _, _, h⟩; simp only at h; omega)).symm, (below_drewN' (below_drewN' BW.out _) _)⟩
                      · have d1' : ¬ pr > r := d1
                        by_cases d2 : pr = r
                        · have d2' : (pr == r) = true := by simp [d2]
                          by_cases d3 : (i : Int) ≤ pi
                          · go_wp2
                            go_quiet (fail)
                            go_wp2
                            go_ret
                            exact ⟨ret_bool (leg_no hlt (by rw [leg1_iff HJK.out HT.out HN.out, Nat.add_sub_cancel, ← HPJ.out]; rintro ⟨_, _, _, _, _, h⟩; simp only at h; omega)).symm, (below_drewN' (below_drewN' BW.out _) _)⟩
                          · go_wp2
                            go_quiet (fail)
                            go_wp2
                            go_roundg (gk - 1)
                            case measure => have := HK.out; omega
                            case rel => exact ⟨q + 1 + 1, by have := HK.out; omega, by go_num, leg_next HLG.out ((leg1_iff HJK.out HT.out HN.out).2 ⟨hi, hB, c1, c2, c3, .inr (.inr (by rw [Nat.add_sub_cancel, ← HPJ.out]; exact ⟨d2, by simp only; omega⟩))⟩), next_step HJK.out HT.out hB.1 (by omega) NR2.out _, (below_drewN' BW.out _).setCell (p := ⟨w1.heap.size, i, none⟩) b1.size _, size_step hsz BW0.out _ _⟩
                        · have HD2 := Lib.hid d2
                          have HD1 := Lib.hid d1
                          clear d2 d1 d1'
                          go_wp2
                          have d1 : pr ≤ r := HD1.out
                          have d2 : ¬ pr = r := HD2.out
                          have hwq : IntKind.i64.wrap (q : Int) = q := IntWalk.i64_in _ (by omega)
                          go_quiet (fail)
                          clear hwq
                          go_wp2
                          go_roundg (gk - 1)
                          case measure => have := HK.out; omega
                          case rel => exact ⟨q + 1 + 1, by have := HK.out; omega, by go_num, leg_next HLG.out ((leg1_iff HJK.out HT.out HN.out).2 ⟨hi, hB, c1, c2, c3, .inr (.inl (by rw [Nat.add_sub_cancel, ← HPJ.out]; have := HD2.out; have := HD1.out; simp only; omega))⟩), next_step HJK.out HT.out hB.1 (by omega) NR2.out _, (below_drewN' BW.out _).setCell (p := ⟨w1.heap.size, i, none⟩) b1.size _, size_step hsz BW0.out _ _⟩
                  · have c3' : inB ex 1 C = false := decide_eq_false c3
                    rw [c3']
                    go_wp2
                    go_ret
                    exact ⟨ret_bool (leg_no hlt (by rw [leg1_iff HJK.out HT.out HN.out]; rintro ⟨_, _, _, _, h, _⟩; exact c3 h)).symm, (below_drewN' BW.out _)⟩
                · have c2' : (dl != r + D) = true := by simp [c2]
                  go_quiet (fail)
                  go_wp2
                  go_ret
                  exact ⟨ret_bool (leg_no hlt (by rw [leg1_iff HJK.out HT.out HN.out]; rintro ⟨_, _, _, h, _⟩; exact c2 h)).symm, (below_drewN' BW.out _)⟩
              · have c1' : r < N := by omega
                go_quiet (fail)
                go_wp2
                go_ret
                exact ⟨ret_bool (leg_no hlt (by rw [leg1_iff HJK.out HT.out HN.out]; rintro ⟨_, _, h, _⟩; omega)).symm, (below_drewN' BW.out _)⟩
            · have hB' : inB r 0 119 = false := decide_eq_false hB
              rw [hB']
              go_wp2
              go_ret
              exact ⟨ret_bool (leg_no hlt (by intro h; have h2 := h.2.1; rw [← HJK.out] at h2; exact hB h2)).symm, B.alloc B.size _⟩
          · have hA' : inB id 0 (↑ts.length - 1) = false := decide_eq_false (by omega)
            rw [hA']
            go_wp2
            go_ret
            exact ⟨ret_bool (leg_no hlt (by intro h; have h2 := h.1; rw [← HJK.out] at h2; exact hA h2)).symm, B.alloc B.size _⟩
        · obtain rfl : k = js.length := by omega
          go_wp2
          go_ret
          exact ⟨ret_bool (legB_iff.2 ⟨HSV.out, hl, HLG.out⟩).symm, B⟩
    · have hl' : (60 : Int) < js.length := by omega
      go_enter Try.func40, Try.ntmps40
      go_wp2_with fail
      refine (specSetValid_any _ _ _ _ HR.out hn).mono ?_
      rintro e w1 ⟨rfl, b1⟩
      go_wp2
      go_ret
      exact ⟨ret_bool (leg_len hl).symm, b1⟩
  · have hv' : svB ts = false := by simpa using hv
    clear hv
    go_enter Try.func40, Try.ntmps40
    go_wp2_with fail
    refine (specSetValid_any _ _ _ _ HR.out hn).mono ?_
    rintro e w1 ⟨rfl, b1⟩
    go_wp2
    go_ret
    exact ⟨ret_bool (by simp [legB, hv']), b1⟩

end Go.Proofs.Ytnhbmegglpgkoaa
