/- Contracts of the reference's l8Node, l8Costs, ProgramValid, Wcet and Bcet. Conditions: the slice holds what is said; at most 2^40 nodes. -/
import Derived.Test.YtlcdmjcikbgnpaaNodeMem
import Derived.BigQuiet
namespace Go.Proofs.Ytlcdmjcikbgnpaa
open Go.RowKit Go.Deep

theorem nvB_1 (c a b m : Int) (k : Nat) : nvB (1, c, a, b, m) k = ((inB c 1 9) && (a == 0) && (b == 0) && (m == 0)) := by
  unfold nvB inB
  rw [Bool.eq_iff_iff]
  simp
  omega
set_option maxHeartbeats 1000000 in
theorem l8Node_1 (c a b m : Int) (k : Nat) (hk : k ≤ 1000) (w : World) :
    Calls Try.prog 41 #[.agg #[.int .i64 1, .int .i64 c, .int .i64 a, .int .i64 b, .int .i64 m], .int .i64 (k : Int)] w fun e w' => e = .returned (.bool (nvB (1, c, a, b, m) k)) ∧ Below w.heap.size w w' := by
  rw [nvB_1]
  have hw : IntKind.i64.wrap ((k : Int) - 1) = (k : Int) - 1 := IntWalk.i64_in _ (by omega)
  obtain ⟨r, hr⟩ : ∃ r : Bool, r = ((inB c 1 9) && (a == 0) && (b == 0) && (m == 0)) := ⟨_, rfl⟩
  rw [← hr]
  go_enter Try.func41, Try.ntmps41
  cases t0 : inB c 1 9 with
  | false =>
    have HE := Lib.hid (show r = false by rw [hr, t0]; simp)
    clear hr
    go_wp2_with (go_at_call 40; refine (l1In_any _ _ _ _).mono ?_; rintro e w' ⟨rfl, rfl⟩)
    go_ret
    exact ⟨ret_bool HE.out.symm, below_box _ _⟩
  | true =>
    cases t1 : a == 0 with
    | false =>
      have HE := Lib.hid (show r = false by rw [hr, t0, t1]; simp)
      clear hr
      go_wp2_with (go_at_call 40; refine (l1In_any _ _ _ _).mono ?_; rintro e w' ⟨rfl, rfl⟩)
      go_ret
      exact ⟨ret_bool HE.out.symm, below_box _ _⟩
    | true =>
      cases t2 : b == 0 with
      | false =>
        have HE := Lib.hid (show r = false by rw [hr, t0, t1, t2]; simp)
        clear hr
        go_wp2_with (go_at_call 40; refine (l1In_any _ _ _ _).mono ?_; rintro e w' ⟨rfl, rfl⟩)
        go_ret
        exact ⟨ret_bool HE.out.symm, below_box _ _⟩
      | true =>
        cases t3 : m == 0 with
        | false =>
          have HE := Lib.hid (show r = false by rw [hr, t0, t1, t2, t3]; simp)
          clear hr
          go_wp2_with (go_at_call 40; refine (l1In_any _ _ _ _).mono ?_; rintro e w' ⟨rfl, rfl⟩)
          go_ret
          exact ⟨ret_bool HE.out.symm, below_box _ _⟩
        | true =>
          have HE := Lib.hid (show r = true by rw [hr, t0, t1, t2, t3]; rfl)
          clear hr
          go_wp2_with (go_at_call 40; refine (l1In_any _ _ _ _).mono ?_; rintro e w' ⟨rfl, rfl⟩)
          go_ret
          exact ⟨ret_bool HE.out.symm, below_box _ _⟩

theorem nvB_2 (c a b m : Int) (k : Nat) : nvB (2, c, a, b, m) k = ((c == 0) && (inB a 0 ((k : Int) - 1)) && (inB b 0 ((k : Int) - 1)) && (m == 0)) := by
  unfold nvB inB
  rw [Bool.eq_iff_iff]
  simp
  omega
set_option maxHeartbeats 1000000 in
theorem l8Node_2 (c a b m : Int) (k : Nat) (hk : k ≤ 1000) (w : World) :
    Calls Try.prog 41 #[.agg #[.int .i64 2, .int .i64 c, .int .i64 a, .int .i64 b, .int .i64 m], .int .i64 (k : Int)] w fun e w' => e = .returned (.bool (nvB (2, c, a, b, m) k)) ∧ Below w.heap.size w w' := by
  rw [nvB_2]
  have hw : IntKind.i64.wrap ((k : Int) - 1) = (k : Int) - 1 := IntWalk.i64_in _ (by omega)
  obtain ⟨r, hr⟩ : ∃ r : Bool, r = ((c == 0) && (inB a 0 ((k : Int) - 1)) && (inB b 0 ((k : Int) - 1)) && (m == 0)) := ⟨_, rfl⟩
  rw [← hr]
  go_enter Try.func41, Try.ntmps41
  cases t0 : c == 0 with
  | false =>
    have HE := Lib.hid (show r = false by rw [hr, t0]; simp)
    clear hr
    go_wp2_with (go_at_call 40; refine (l1In_any _ _ _ _).mono ?_; rintro e w' ⟨rfl, rfl⟩)
    go_ret
    exact ⟨ret_bool HE.out.symm, below_box _ _⟩
  | true =>
    cases t1 : inB a 0 ((k : Int) - 1) with
    | false =>
      have HE := Lib.hid (show r = false by rw [hr, t0, t1]; simp)
      clear hr
      go_wp2_with (go_at_call 40; refine (l1In_any _ _ _ _).mono ?_; rintro e w' ⟨rfl, rfl⟩)
      go_ret
      exact ⟨ret_bool HE.out.symm, below_box _ _⟩
    | true =>
      cases t2 : inB b 0 ((k : Int) - 1) with
      | false =>
        have HE := Lib.hid (show r = false by rw [hr, t0, t1, t2]; simp)
        clear hr
        go_wp2_with (go_at_call 40; refine (l1In_any _ _ _ _).mono ?_; rintro e w' ⟨rfl, rfl⟩)
        go_ret
        exact ⟨ret_bool HE.out.symm, below_box _ _⟩
      | true =>
        cases t3 : m == 0 with
        | false =>
          have HE := Lib.hid (show r = false by rw [hr, t0, t1, t2, t3]; simp)
          clear hr
          go_wp2_with (go_at_call 40; refine (l1In_any _ _ _ _).mono ?_; rintro e w' ⟨rfl, rfl⟩)
          go_ret
          exact ⟨ret_bool HE.out.symm, below_box _ _⟩
        | true =>
          have HE := Lib.hid (show r = true by rw [hr, t0, t1, t2, t3]; rfl)
          clear hr
          go_wp2_with (go_at_call 40; refine (l1In_any _ _ _ _).mono ?_; rintro e w' ⟨rfl, rfl⟩)
          go_ret
          exact ⟨ret_bool HE.out.symm, below_box _ _⟩

theorem nvB_3 (c a b m : Int) (k : Nat) : nvB (3, c, a, b, m) k = ((inB c 1 9) && (inB a 0 ((k : Int) - 1)) && (inB b 0 ((k : Int) - 1)) && (m == 0)) := by
  unfold nvB inB
  rw [Bool.eq_iff_iff]
  simp
  omega
set_option maxHeartbeats 1000000 in
theorem l8Node_3 (c a b m : Int) (k : Nat) (hk : k ≤ 1000) (w : World) :
    Calls Try.prog 41 #[.agg #[.int .i64 3, .int .i64 c, .int .i64 a, .int .i64 b, .int .i64 m], .int .i64 (k : Int)] w fun e w' => e = .returned (.bool (nvB (3, c, a, b, m) k)) ∧ Below w.heap.size w w' := by
  rw [nvB_3]
  have hw : IntKind.i64.wrap ((k : Int) - 1) = (k : Int) - 1 := IntWalk.i64_in _ (by omega)
  obtain ⟨r, hr⟩ : ∃ r : Bool, r = ((inB c 1 9) && (inB a 0 ((k : Int) - 1)) && (inB b 0 ((k : Int) - 1)) && (m == 0)) := ⟨_, rfl⟩
  rw [← hr]
  go_enter Try.func41, Try.ntmps41
  cases t0 : inB c 1 9 with
  | false =>
    have HE := Lib.hid (show r = false by rw [hr, t0]; simp)
    clear hr
    go_wp2_with (go_at_call 40; refine (l1In_any _ _ _ _).mono ?_; rintro e w' ⟨rfl, rfl⟩)
    go_ret
    exact ⟨ret_bool HE.out.symm, below_box _ _⟩
  | true =>
    cases t1 : inB a 0 ((k : Int) - 1) with
    | false =>
      have HE := Lib.hid (show r = false by rw [hr, t0, t1]; simp)
      clear hr
      go_wp2_with (go_at_call 40; refine (l1In_any _ _ _ _).mono ?_; rintro e w' ⟨rfl, rfl⟩)
      go_ret
      exact ⟨ret_bool HE.out.symm, below_box _ _⟩
    | true =>
      cases t2 : inB b 0 ((k : Int) - 1) with
      | false =>
        have HE := Lib.hid (show r = false by rw [hr, t0, t1, t2]; simp)
        clear hr
        go_wp2_with (go_at_call 40; refine (l1In_any _ _ _ _).mono ?_; rintro e w' ⟨rfl, rfl⟩)
        go_ret
        exact ⟨ret_bool HE.out.symm, below_box _ _⟩
      | true =>
        cases t3 : m == 0 with
        | false =>
          have HE := Lib.hid (show r = false by rw [hr, t0, t1, t2, t3]; simp)
          clear hr
          go_wp2_with (go_at_call 40; refine (l1In_any _ _ _ _).mono ?_; rintro e w' ⟨rfl, rfl⟩)
          go_ret
          exact ⟨ret_bool HE.out.symm, below_box _ _⟩
        | true =>
          have HE := Lib.hid (show r = true by rw [hr, t0, t1, t2, t3]; rfl)
          clear hr
          go_wp2_with (go_at_call 40; refine (l1In_any _ _ _ _).mono ?_; rintro e w' ⟨rfl, rfl⟩)
          go_ret
          exact ⟨ret_bool HE.out.symm, below_box _ _⟩

theorem nvB_4 (c a b m : Int) (k : Nat) : nvB (4, c, a, b, m) k = ((inB c 1 9) && (inB a 0 ((k : Int) - 1)) && (b == 0) && (inB m 0 4)) := by
  unfold nvB inB
  rw [Bool.eq_iff_iff]
  simp
  omega
set_option maxHeartbeats 1000000 in
theorem l8Node_4 (c a b m : Int) (k : Nat) (hk : k ≤ 1000) (w : World) :
    Calls Try.prog 41 #[.agg #[.int .i64 4, .int .i64 c, .int .i64 a, .int .i64 b, .int .i64 m], .int .i64 (k : Int)] w fun e w' => e = .returned (.bool (nvB (4, c, a, b, m) k)) ∧ Below w.heap.size w w' := by
  rw [nvB_4]
  have hw : IntKind.i64.wrap ((k : Int) - 1) = (k : Int) - 1 := IntWalk.i64_in _ (by omega)
  obtain ⟨r, hr⟩ : ∃ r : Bool, r = ((inB c 1 9) && (inB a 0 ((k : Int) - 1)) && (b == 0) && (inB m 0 4)) := ⟨_, rfl⟩
  rw [← hr]
  go_enter Try.func41, Try.ntmps41
  cases t0 : inB c 1 9 with
  | false =>
    have HE := Lib.hid (show r = false by rw [hr, t0]; simp)
    clear hr
    go_wp2_with (go_at_call 40; refine (l1In_any _ _ _ _).mono ?_; rintro e w' ⟨rfl, rfl⟩)
    go_ret
    exact ⟨ret_bool HE.out.symm, below_box _ _⟩
  | true =>
    cases t1 : inB a 0 ((k : Int) - 1) with
    | false =>
      have HE := Lib.hid (show r = false by rw [hr, t0, t1]; simp)
      clear hr
      go_wp2_with (go_at_call 40; refine (l1In_any _ _ _ _).mono ?_; rintro e w' ⟨rfl, rfl⟩)
      go_ret
      exact ⟨ret_bool HE.out.symm, below_box _ _⟩
    | true =>
      cases t2 : b == 0 with
      | false =>
        have HE := Lib.hid (show r = false by rw [hr, t0, t1, t2]; simp)
        clear hr
        go_wp2_with (go_at_call 40; refine (l1In_any _ _ _ _).mono ?_; rintro e w' ⟨rfl, rfl⟩)
        go_ret
        exact ⟨ret_bool HE.out.symm, below_box _ _⟩
      | true =>
        cases t3 : inB m 0 4 with
        | false =>
          have HE := Lib.hid (show r = false by rw [hr, t0, t1, t2, t3]; simp)
          clear hr
          go_wp2_with (go_at_call 40; refine (l1In_any _ _ _ _).mono ?_; rintro e w' ⟨rfl, rfl⟩)
          go_ret
          exact ⟨ret_bool HE.out.symm, below_box _ _⟩
        | true =>
          have HE := Lib.hid (show r = true by rw [hr, t0, t1, t2, t3]; rfl)
          clear hr
          go_wp2_with (go_at_call 40; refine (l1In_any _ _ _ _).mono ?_; rintro e w' ⟨rfl, rfl⟩)
          go_ret
          exact ⟨ret_bool HE.out.symm, below_box _ _⟩

set_option maxHeartbeats 1000000 in
/-- spec.l8Node. -/
theorem l8Node_any (n : N5) (k : Nat) (hk : k ≤ 1000) (w : World) :
    Calls Try.prog 41 #[.agg #[.int .i64 n.1, .int .i64 n.2.1, .int .i64 n.2.2.1, .int .i64 n.2.2.2.1, .int .i64 n.2.2.2.2], .int .i64 (k : Int)] w fun e w' => e = .returned (.bool (nvB n k)) ∧ Below w.heap.size w w' := by
  obtain ⟨q, c, a, b, m⟩ := n
  by_cases h1 : q = 1
  · subst h1; exact l8Node_1 c a b m k hk w
  by_cases h2 : q = 2
  · subst h2; exact l8Node_2 c a b m k hk w
  by_cases h3 : q = 3
  · subst h3; exact l8Node_3 c a b m k hk w
  by_cases h4 : q = 4
  · subst h4; exact l8Node_4 c a b m k hk w
  have hn : nvB (q, c, a, b, m) k = false := by unfold nvB; simp only; rw [if_neg h1, if_neg h2, if_neg h3, if_neg h4]
  have HN := Lib.hid hn
  have e1 : (q == 1) = false := beq_eq_false_iff_ne.2 h1
  have e2 : (q == 2) = false := beq_eq_false_iff_ne.2 h2
  have e3 : (q == 3) = false := beq_eq_false_iff_ne.2 h3
  have e4 : (q == 4) = false := beq_eq_false_iff_ne.2 h4
  clear hn h1 h2 h3 h4
  go_enter Try.func41, Try.ntmps41
  go_wp2
  go_ret
  exact ⟨ret_bool HN.out.symm, below_box _ _⟩


theorem rowN_at {w : World} {a : Option Addr} {ps : List N5} {k : Nat} {q c x y m : Int} (h : RowN w a ps) (hk : k < ps.length) (hn : nd8 ps k = (q, c, x, y, m)) : ∃ b off, a = some ⟨b, off, none⟩ ∧ b < w.heap.size ∧ w.cell? ⟨b, off + k * 5, none⟩ = some (.int .i64 q) ∧ w.cell? ⟨b, off + k * 5 + 1, none⟩ = some (.int .i64 c) ∧ w.cell? ⟨b, off + k * 5 + 2, none⟩ = some (.int .i64 x) ∧ w.cell? ⟨b, off + k * 5 + 3, none⟩ = some (.int .i64 y) ∧ w.cell? ⟨b, off + k * 5 + 4, none⟩ = some (.int .i64 m) := by
  have := h k hk
  rw [hn] at this
  exact this

set_option maxRecDepth 100000 in
set_option maxHeartbeats 4000000 in
/-- spec.l8Costs. -/
theorem l8Costs_any (a : Option Addr) (cap : Nat) (ps : List N5) (W : Bool) (w : World) (hr : RowN w a ps) (hv : PV ps) (hn : ps.length ≤ 1000) :
    Calls Try.prog 42 #[.slice a ps.length cap, .bool W] w fun e w' => ∃ v, e = .returned v ∧ OwnI w' w.heap.size v ps.length (fun j => (cp8 W ps j : Nat)) ∧ Below w.heap.size w w' := by
  obtain ⟨i0, hi, hz, hsz, hby⟩ := info_parts intInfo
  have HI := Lib.hid (And.intro hi (And.intro hz (And.intro hsz hby)))
  have HR := Lib.hid hr
  have HV := Lib.hid hv
  clear hr hv hi hz hsz hby
  go_enter Try.func42, Try.ntmps42
  go_wp2
  go_loopg [5, 6] ps.length (fun q s z wr => ∃ k : Nat, q + k = ps.length ∧ z = .int .i64 k ∧ OwnI wr w.heap.size s k (fun j => (cp8 W ps j : Nat)) ∧ Below w.heap.size w wr)
  case atStart => exact ⟨0, by simp, rfl, OwnI.empty w _, below_box _ _⟩
  case round =>
    obtain ⟨k, hq, rfl, hown, B⟩ := hrel
    have HQ := Lib.hid hq
    have HO := Lib.hid hown
    have HB := Lib.hid B
    have hkl : k ≤ ps.length := by omega
    clear hq hown B
    by_cases hlt : k < ps.length
    · have hk0 : (0 : Int) ≤ k := by omega
      have hk1 : (k : Int) < ps.length := by omega
      have hmn := mn_rule
      have hmx := mx_rule
      cases nv_of (HV.out k hlt) with
      | block c h h1 h9 => 
        obtain ⟨b, off, rfl, hb, n0, n1, n2, n3, n4⟩ := rowN_at (HR.out.below HB.out) hlt h
        obtain ⟨R, hR⟩ : ∃ R, R = cp8 W ps k := ⟨_, rfl⟩
        have HRR := Lib.hid hR
        have hmnR : mn ((c : Int)) 601 = (R : Int) := by
          unfold mn
          rw [hR]
          rw [cp8_block h]; split <;> omega
        clear hR
        obtain ⟨sa, sc, rfl, -, -, -⟩ := HO.out.intF
        clear h
        have OW := Lib.hid (HO.out.alloc (.cells #[.int .i64 1, .int .i64 c, .int .i64 0, .int .i64 0, .int .i64 0] 28))
        have BW := Lib.hid (HB.out.alloc HB.out.size (.cells #[.int .i64 1, .int .i64 c, .int .i64 0, .int .i64 0, .int .i64 0] 28))
        have HCR := Lib.hid (show ((R : Nat) : Int) = c by rw [← hmnR]; unfold mn; split <;> omega)
        clear hmnR
        have NW := Lib.hid (by have := news1 (wr.alloc (.cells #[.int .i64 1, .int .i64 c, .int .i64 0, .int .i64 0, .int .i64 0] 28)) (c : Int) 3; rw [World.size_alloc] at this; exact this)
        go_wp2_with (at_builtin; refine wpList_append_own _ rfl (.tmp 85) (.tmp 88) 30 rfl w.heap.size 3 i0 _ 1 8 Try.underlying30 HI.out.1 HI.out.2.1 HI.out.2.2.1 HI.out.2.2.2 rfl (by decide) _ k (vals (fun j => ((cp8 W ps j : Nat) : Int)) k) rfl (World.ownsRow.alloc OW.out _) ⟨wr.heap.size + 1, 0, none⟩ 1 1 [.int .i64 (c : Int)] rfl rfl NW.out (one1 _) (by unfold maxLen; omega) (by omega) (Nat.le_trans BW.out.size (below_box _ _).size) ?_; intro v' w' hown' hgrow hnil)
        have HB3 := Lib.hid (show Below w.heap.size w w' from (BW.out.trans ((below_box _ _).mono BW.out.size)).grown hgrow (BW.out.trans ((below_box _ _).mono BW.out.size)).size (fun k hk => (World.ownsRow.lt OW.out k hk).1))
        have HO3 := Lib.hid (show OwnI w' w.heap.size v' (k + 1) (fun j => ((cp8 W ps j : Nat) : Int)) by unfold OwnI; rw [vals_succ]; (try simp only); rw [← HRR.out, HCR.out]; exact hown')
        clear hown' hgrow hnil
        go_roundg (gk - 1)
        case measure => have := HQ.out; omega
        case rel => exact ⟨k + 1, by have := HQ.out; omega, by go_num, HO3.out, HB3.out⟩
      | seq x y h hx hy => 
        obtain ⟨b, off, rfl, hb, n0, n1, n2, n3, n4⟩ := rowN_at (HR.out.below HB.out) hlt h
        obtain ⟨R, hR⟩ : ∃ R, R = cp8 W ps k := ⟨_, rfl⟩
        have HRR := Lib.hid hR
        obtain ⟨X, hX'⟩ : ∃ X, X = cp8 W ps x := ⟨_, rfl⟩
        have hX6 : X ≤ 601 := by rw [hX']; exact cp8_le _
        have hX := Lib.hid hX'
        clear hX'
        obtain ⟨Y, hY'⟩ : ∃ Y, Y = cp8 W ps y := ⟨_, rfl⟩
        have hY6 : Y ≤ 601 := by rw [hY']; exact cp8_le _
        have hY := Lib.hid hY'
        clear hY'
        have hmnR : mn ((X : Int) + (Y : Int)) 601 = (R : Int) := by
          unfold mn
          rw [hR]
          rw [cp8_seq h hx hy, ← hX.out, ← hY.out]; split <;> omega
        clear hR
        obtain ⟨g, oc, rfl, -, -, -⟩ := HO.out.at (show 0 < k by omega)
        have e1 := ((HO.out.alloc (.cells #[.int .i64 2, .int .i64 0, .int .i64 x, .int .i64 y, .int .i64 0] 28)).cellAt hx).1
        have e2 := ((HO.out.alloc (.cells #[.int .i64 2, .int .i64 0, .int .i64 x, .int .i64 y, .int .i64 0] 28)).cellAt hy).1
        (try simp only at e1 e2)
        rw [← hX.out] at e1
        rw [← hY.out] at e2
        clear h
        go_wp2
        go_quiet (fail)
        obtain ⟨w2, hw2⟩ : ∃ w2, w2 = (wr.alloc (.cells #[.int .i64 2, .int .i64 0, .int .i64 x, .int .i64 y, .int .i64 0] 28)).drewN nq := ⟨_, rfl⟩
        rw [← hw2]
        have OW := Lib.hid (show OwnI w2 w.heap.size (.slice (some ⟨g, 0, none⟩) k oc) k (fun j => ((cp8 W ps j : Nat) : Int)) by rw [hw2]; exact (HO.out.alloc _).below (below_drewN _ _))
        have BW := Lib.hid (show Below w.heap.size w w2 by rw [hw2]; exact below_drewN' (HB.out.alloc HB.out.size _) _)
        clear hw2 e1 e2
        go_wp2_with (at_builtin; refine wpList_append_own _ rfl (.tmp 85) (.tmp 88) 30 rfl w.heap.size 3 i0 _ 1 8 Try.underlying30 HI.out.1 HI.out.2.1 HI.out.2.2.1 HI.out.2.2.2 rfl (by decide) _ k (vals (fun j => ((cp8 W ps j : Nat) : Int)) k) rfl (World.ownsRow.alloc OW.out _) ⟨w2.heap.size, 0, none⟩ 1 1 [.int .i64 (R : Int)] rfl rfl (news1 _ _ _) (one1 _) (by unfold maxLen; omega) (by omega) (Nat.le_trans BW.out.size (below_box _ _).size) ?_; intro v' w' hown' hgrow hnil)
        have HB3 := Lib.hid (show Below w.heap.size w w' from (BW.out.trans ((below_box w2 _).mono BW.out.size)).grown hgrow (BW.out.trans ((below_box w2 _).mono BW.out.size)).size (fun k hk => (World.ownsRow.lt OW.out k hk).1))
        have HO3 := Lib.hid (show OwnI w' w.heap.size v' (k + 1) (fun j => ((cp8 W ps j : Nat) : Int)) by unfold OwnI; rw [vals_succ]; (try simp only); rw [← HRR.out]; exact hown')
        clear hown' hgrow hnil
        go_roundg (gk - 1)
        case measure => have := HQ.out; omega
        case rel => exact ⟨k + 1, by have := HQ.out; omega, by go_num, HO3.out, HB3.out⟩
      | branch c x y h h1 h9 hx hy =>
        cases W with
        | true => 
          obtain ⟨b, off, rfl, hb, n0, n1, n2, n3, n4⟩ := rowN_at (HR.out.below HB.out) hlt h
          obtain ⟨R, hR⟩ : ∃ R, R = cp8 true ps k := ⟨_, rfl⟩
          have HRR := Lib.hid hR
          obtain ⟨X, hX'⟩ : ∃ X, X = cp8 true ps x := ⟨_, rfl⟩
          have hX6 : X ≤ 601 := by rw [hX']; exact cp8_le _
          have hX := Lib.hid hX'
          clear hX'
          obtain ⟨Y, hY'⟩ : ∃ Y, Y = cp8 true ps y := ⟨_, rfl⟩
          have hY6 : Y ≤ 601 := by rw [hY']; exact cp8_le _
          have hY := Lib.hid hY'
          clear hY'
          obtain ⟨M, hM⟩ : ∃ M : Nat, M = max X Y := ⟨_, rfl⟩
          have hM6 : M ≤ 601 := by rw [hM]; omega
          have hmM : (if X < Y then (Y : Int) else (X : Int)) = (M : Int) := by split <;> omega
          have HM := Lib.hid hM
          clear hM
          have hmnR : mn ((c : Int) + (M : Int)) 601 = (R : Int) := by
            unfold mn
            rw [hR]
            rw [cp8_branch h hx hy, ← hX.out, ← hY.out, if_pos rfl, ← HM.out]; split <;> omega
          clear hR
          obtain ⟨g, oc, rfl, -, -, -⟩ := HO.out.at (show 0 < k by omega)
          have e1 := ((HO.out.alloc (.cells #[.int .i64 3, .int .i64 c, .int .i64 x, .int .i64 y, .int .i64 0] 28)).cellAt hx).1
          have e2 := ((HO.out.alloc (.cells #[.int .i64 3, .int .i64 c, .int .i64 x, .int .i64 y, .int .i64 0] 28)).cellAt hy).1
          (try simp only at e1 e2)
          rw [← hX.out] at e1
          rw [← hY.out] at e2
          clear h
          go_wp2
          go_quiet (fail)
          obtain ⟨w2, hw2⟩ : ∃ w2, w2 = (wr.alloc (.cells #[.int .i64 3, .int .i64 c, .int .i64 x, .int .i64 y, .int .i64 0] 28)).drewN nq := ⟨_, rfl⟩
          rw [← hw2]
          have OW := Lib.hid (show OwnI w2 w.heap.size (.slice (some ⟨g, 0, none⟩) k oc) k (fun j => ((cp8 true ps j : Nat) : Int)) by rw [hw2]; exact (HO.out.alloc _).below (below_drewN _ _))
          have BW := Lib.hid (show Below w.heap.size w w2 by rw [hw2]; exact below_drewN' (HB.out.alloc HB.out.size _) _)
          clear hw2 e1 e2
          go_wp2_with (at_builtin; refine wpList_append_own _ rfl (.tmp 85) (.tmp 88) 30 rfl w.heap.size 3 i0 _ 1 8 Try.underlying30 HI.out.1 HI.out.2.1 HI.out.2.2.1 HI.out.2.2.2 rfl (by decide) _ k (vals (fun j => ((cp8 true ps j : Nat) : Int)) k) rfl (World.ownsRow.alloc OW.out _) ⟨w2.heap.size, 0, none⟩ 1 1 [.int .i64 (R : Int)] rfl rfl (news1 _ _ _) (one1 _) (by unfold maxLen; omega) (by omega) (Nat.le_trans BW.out.size (below_box _ _).size) ?_; intro v' w' hown' hgrow hnil)
          have HB3 := Lib.hid (show Below w.heap.size w w' from (BW.out.trans ((below_box w2 _).mono BW.out.size)).grown hgrow (BW.out.trans ((below_box w2 _).mono BW.out.size)).size (fun k hk => (World.ownsRow.lt OW.out k hk).1))
          have HO3 := Lib.hid (show OwnI w' w.heap.size v' (k + 1) (fun j => ((cp8 true ps j : Nat) : Int)) by unfold OwnI; rw [vals_succ]; (try simp only); rw [← HRR.out]; exact hown')
          clear hown' hgrow hnil
          go_roundg (gk - 1)
          case measure => have := HQ.out; omega
          case rel => exact ⟨k + 1, by have := HQ.out; omega, by go_num, HO3.out, HB3.out⟩
        | false => 
          obtain ⟨b, off, rfl, hb, n0, n1, n2, n3, n4⟩ := rowN_at (HR.out.below HB.out) hlt h
          obtain ⟨R, hR⟩ : ∃ R, R = cp8 false ps k := ⟨_, rfl⟩
          have HRR := Lib.hid hR
          obtain ⟨X, hX'⟩ : ∃ X, X = cp8 false ps x := ⟨_, rfl⟩
          have hX6 : X ≤ 601 := by rw [hX']; exact cp8_le _
          have hX := Lib.hid hX'
          clear hX'
          obtain ⟨Y, hY'⟩ : ∃ Y, Y = cp8 false ps y := ⟨_, rfl⟩
          have hY6 : Y ≤ 601 := by rw [hY']; exact cp8_le _
          have hY := Lib.hid hY'
          clear hY'
          obtain ⟨M, hM⟩ : ∃ M : Nat, M = min X Y := ⟨_, rfl⟩
          have hM6 : M ≤ 601 := by rw [hM]; omega
          have hmM : (if Y < X then (Y : Int) else (X : Int)) = (M : Int) := by split <;> omega
          have HM := Lib.hid hM
          clear hM
          have hmnR : mn ((c : Int) + (M : Int)) 601 = (R : Int) := by
            unfold mn
            rw [hR]
            rw [cp8_branch h hx hy, ← hX.out, ← hY.out, if_neg (show ¬ (false = true) by decide), ← HM.out]; split <;> omega
          clear hR
          obtain ⟨g, oc, rfl, -, -, -⟩ := HO.out.at (show 0 < k by omega)
          have e1 := ((HO.out.alloc (.cells #[.int .i64 3, .int .i64 c, .int .i64 x, .int .i64 y, .int .i64 0] 28)).cellAt hx).1
          have e2 := ((HO.out.alloc (.cells #[.int .i64 3, .int .i64 c, .int .i64 x, .int .i64 y, .int .i64 0] 28)).cellAt hy).1
          (try simp only at e1 e2)
          rw [← hX.out] at e1
          rw [← hY.out] at e2
          clear h
          go_wp2
          go_quiet (fail)
          obtain ⟨w2, hw2⟩ : ∃ w2, w2 = (wr.alloc (.cells #[.int .i64 3, .int .i64 c, .int .i64 x, .int .i64 y, .int .i64 0] 28)).drewN nq := ⟨_, rfl⟩
          rw [← hw2]
          have OW := Lib.hid (show OwnI w2 w.heap.size (.slice (some ⟨g, 0, none⟩) k oc) k (fun j => ((cp8 false ps j : Nat) : Int)) by rw [hw2]; exact (HO.out.alloc _).below (below_drewN _ _))
          have BW := Lib.hid (show Below w.heap.size w w2 by rw [hw2]; exact below_drewN' (HB.out.alloc HB.out.size _) _)
          clear hw2 e1 e2
          go_wp2_with (at_builtin; refine wpList_append_own _ rfl (.tmp 85) (.tmp 88) 30 rfl w.heap.size 3 i0 _ 1 8 Try.underlying30 HI.out.1 HI.out.2.1 HI.out.2.2.1 HI.out.2.2.2 rfl (by decide) _ k (vals (fun j => ((cp8 false ps j : Nat) : Int)) k) rfl (World.ownsRow.alloc OW.out _) ⟨w2.heap.size, 0, none⟩ 1 1 [.int .i64 (R : Int)] rfl rfl (news1 _ _ _) (one1 _) (by unfold maxLen; omega) (by omega) (Nat.le_trans BW.out.size (below_box _ _).size) ?_; intro v' w' hown' hgrow hnil)
          have HB3 := Lib.hid (show Below w.heap.size w w' from (BW.out.trans ((below_box w2 _).mono BW.out.size)).grown hgrow (BW.out.trans ((below_box w2 _).mono BW.out.size)).size (fun k hk => (World.ownsRow.lt OW.out k hk).1))
          have HO3 := Lib.hid (show OwnI w' w.heap.size v' (k + 1) (fun j => ((cp8 false ps j : Nat) : Int)) by unfold OwnI; rw [vals_succ]; (try simp only); rw [← HRR.out]; exact hown')
          clear hown' hgrow hnil
          go_roundg (gk - 1)
          case measure => have := HQ.out; omega
          case rel => exact ⟨k + 1, by have := HQ.out; omega, by go_num, HO3.out, HB3.out⟩
      | loop c x m h h1 h9 hx hm =>
        cases W with
        | true => 
          obtain ⟨b, off, rfl, hb, n0, n1, n2, n3, n4⟩ := rowN_at (HR.out.below HB.out) hlt h
          obtain ⟨R, hR⟩ : ∃ R, R = cp8 true ps k := ⟨_, rfl⟩
          have HRR := Lib.hid hR
          obtain ⟨X, hX'⟩ : ∃ X, X = cp8 true ps x := ⟨_, rfl⟩
          have hX6 : X ≤ 601 := by rw [hX']; exact cp8_le _
          have hX := Lib.hid hX'
          clear hX'
          obtain ⟨M, hM⟩ : ∃ M : Nat, M = m * (c + X) := ⟨_, rfl⟩
          have hM6 : M ≤ 4 * 610 := by rw [hM]; exact Nat.mul_le_mul hm (by omega)
          have hM0 : (m : Int) * ((c : Int) + (X : Int)) = (M : Int) := by rw [hM]; simp
          have hw1 : IntKind.i64.wrap ((c : Int) + (X : Int)) = (c : Int) + X := IntWalk.i64_in _ (by omega)
          have hw2 : IntKind.i64.wrap ((m : Int) * ((c : Int) + (X : Int))) = (M : Int) := by rw [hM0]; exact IntWalk.i64_in _ (by omega)
          have hw3 : IntKind.i64.wrap ((c : Int) + (M : Int)) = (c : Int) + M := IntWalk.i64_in _ (by omega)
          have HM := Lib.hid hM
          clear hM0 hM
          have hmnR : mn ((c : Int) + (M : Int)) 601 = (R : Int) := by
            unfold mn
            rw [hR]
            rw [cp8_loop h hx, ← hX.out, if_pos rfl, ← HM.out]; split <;> omega
          clear hR
          obtain ⟨g, oc, rfl, -, -, -⟩ := HO.out.at (show 0 < k by omega)
          have e1 := ((HO.out.alloc (.cells #[.int .i64 4, .int .i64 c, .int .i64 x, .int .i64 0, .int .i64 m] 28)).cellAt hx).1
          (try simp only at e1)
          rw [← hX.out] at e1
          clear h
          go_wp2
          go_quiet (fail)
          obtain ⟨w2, hw2⟩ : ∃ w2, w2 = (wr.alloc (.cells #[.int .i64 4, .int .i64 c, .int .i64 x, .int .i64 0, .int .i64 m] 28)).drewN nq := ⟨_, rfl⟩
          rw [← hw2]
          have OW := Lib.hid (show OwnI w2 w.heap.size (.slice (some ⟨g, 0, none⟩) k oc) k (fun j => ((cp8 true ps j : Nat) : Int)) by rw [hw2]; exact (HO.out.alloc _).below (below_drewN _ _))
          have BW := Lib.hid (show Below w.heap.size w w2 by rw [hw2]; exact below_drewN' (HB.out.alloc HB.out.size _) _)
          clear hw2 e1
          go_wp2_with (at_builtin; refine wpList_append_own _ rfl (.tmp 85) (.tmp 88) 30 rfl w.heap.size 3 i0 _ 1 8 Try.underlying30 HI.out.1 HI.out.2.1 HI.out.2.2.1 HI.out.2.2.2 rfl (by decide) _ k (vals (fun j => ((cp8 true ps j : Nat) : Int)) k) rfl (World.ownsRow.alloc OW.out _) ⟨w2.heap.size, 0, none⟩ 1 1 [.int .i64 (R : Int)] rfl rfl (news1 _ _ _) (one1 _) (by unfold maxLen; omega) (by omega) (Nat.le_trans BW.out.size (below_box _ _).size) ?_; intro v' w' hown' hgrow hnil)
          have HB3 := Lib.hid (show Below w.heap.size w w' from (BW.out.trans ((below_box w2 _).mono BW.out.size)).grown hgrow (BW.out.trans ((below_box w2 _).mono BW.out.size)).size (fun k hk => (World.ownsRow.lt OW.out k hk).1))
          have HO3 := Lib.hid (show OwnI w' w.heap.size v' (k + 1) (fun j => ((cp8 true ps j : Nat) : Int)) by unfold OwnI; rw [vals_succ]; (try simp only); rw [← HRR.out]; exact hown')
          clear hown' hgrow hnil
          go_roundg (gk - 1)
          case measure => have := HQ.out; omega
          case rel => exact ⟨k + 1, by have := HQ.out; omega, by go_num, HO3.out, HB3.out⟩
        | false => 
          obtain ⟨b, off, rfl, hb, n0, n1, n2, n3, n4⟩ := rowN_at (HR.out.below HB.out) hlt h
          obtain ⟨R, hR⟩ : ∃ R, R = cp8 false ps k := ⟨_, rfl⟩
          have HRR := Lib.hid hR
          have hmnR : mn ((c : Int)) 601 = (R : Int) := by
            unfold mn
            rw [hR]
            rw [cp8_loop h hx, if_neg (show ¬ (false = true) by decide)]; split <;> omega
          clear hR
          obtain ⟨sa, sc, rfl, -, -, -⟩ := HO.out.intF
          clear h
          have OW := Lib.hid (HO.out.alloc (.cells #[.int .i64 4, .int .i64 c, .int .i64 x, .int .i64 0, .int .i64 m] 28))
          have BW := Lib.hid (HB.out.alloc HB.out.size (.cells #[.int .i64 4, .int .i64 c, .int .i64 x, .int .i64 0, .int .i64 m] 28))
          have HCR := Lib.hid (show ((R : Nat) : Int) = c by rw [← hmnR]; unfold mn; split <;> omega)
          clear hmnR
          have NW := Lib.hid (by have := news1 (wr.alloc (.cells #[.int .i64 4, .int .i64 c, .int .i64 x, .int .i64 0, .int .i64 m] 28)) (c : Int) 3; rw [World.size_alloc] at this; exact this)
          go_wp2_with (at_builtin; refine wpList_append_own _ rfl (.tmp 85) (.tmp 88) 30 rfl w.heap.size 3 i0 _ 1 8 Try.underlying30 HI.out.1 HI.out.2.1 HI.out.2.2.1 HI.out.2.2.2 rfl (by decide) _ k (vals (fun j => ((cp8 false ps j : Nat) : Int)) k) rfl (World.ownsRow.alloc OW.out _) ⟨wr.heap.size + 1, 0, none⟩ 1 1 [.int .i64 (c : Int)] rfl rfl NW.out (one1 _) (by unfold maxLen; omega) (by omega) (Nat.le_trans BW.out.size (below_box _ _).size) ?_; intro v' w' hown' hgrow hnil)
          have HB3 := Lib.hid (show Below w.heap.size w w' from (BW.out.trans ((below_box _ _).mono BW.out.size)).grown hgrow (BW.out.trans ((below_box _ _).mono BW.out.size)).size (fun k hk => (World.ownsRow.lt OW.out k hk).1))
          have HO3 := Lib.hid (show OwnI w' w.heap.size v' (k + 1) (fun j => ((cp8 false ps j : Nat) : Int)) by unfold OwnI; rw [vals_succ]; (try simp only); rw [← HRR.out, HCR.out]; exact hown')
          clear hown' hgrow hnil
          go_roundg (gk - 1)
          case measure => have := HQ.out; omega
          case rel => exact ⟨k + 1, by have := HQ.out; omega, by go_num, HO3.out, HB3.out⟩
    · obtain rfl : k = ps.length := by omega
      go_wp2
      go_ret
      exact ⟨_, rfl, HO.out, HB.out⟩

end Go.Proofs.Ytlcdmjcikbgnpaa
