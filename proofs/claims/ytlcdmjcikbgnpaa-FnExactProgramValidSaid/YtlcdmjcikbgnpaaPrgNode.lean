/- Contracts of the program's methods of a node of chapter 8: costs, isEarlier, validBlock, validSeq, validBranch, validLoop. No condition. -/
import Derived.Test.YtlcdmjcikbgnpaaNodeMem
import Derived.BigQuiet
namespace Go.Proofs.Ytlcdmjcikbgnpaa
open Go.RowKit Go.Deep

/-- A node as a value. -/
abbrev nv5 (q c a b m : Int) : Value := .agg #[.int .i64 q, .int .i64 c, .int .i64 a, .int .i64 b, .int .i64 m]
def earB (a : Int) (k : Nat) : Bool := decide (0 ≤ a ∧ a < k)
def costB (c : Int) : Bool := decide (1 ≤ c ∧ c ≤ 9)

/-- impl.isEarlier. -/
theorem isEarlier_any (a : Int) (k : Nat) (w : World) : Calls Try.prog 71 #[.int .i64 a, .int .i64 (k : Int)] w fun e w' => e = .returned (.bool (earB a k)) ∧ w = w' := by
  unfold earB
  go_enter Try.func71, Try.ntmps71
  by_cases h1 : 0 ≤ a
  · by_cases h2 : a < k
    · go_wp2
      go_ret
      exact ⟨ret_bool (decide_eq_true ⟨h1, h2⟩).symm, rfl⟩
    · go_wp2
      go_ret
      exact ⟨ret_bool (by rw [eq_comm]; simp; omega), rfl⟩
  · go_wp2
    go_ret
    exact ⟨ret_bool (by rw [eq_comm]; simp; omega), rfl⟩

/-- (impl.Node).costs. -/
theorem costs_any (q c a b m : Int) (w : World) : Calls Try.prog 70 #[nv5 q c a b m] w fun e w' => e = .returned (.bool (costB c)) ∧ Below w.heap.size w w' := by
  unfold costB
  go_enter Try.func70, Try.ntmps70
  by_cases h1 : 1 ≤ c
  · by_cases h2 : c ≤ 9
    · go_wp2
      go_ret
      exact ⟨ret_bool (decide_eq_true ⟨h1, h2⟩).symm, below_box _ _⟩
    · go_wp2
      go_ret
      exact ⟨ret_bool (by rw [eq_comm]; simp; omega), below_box _ _⟩
  · go_wp2
    go_ret
    exact ⟨ret_bool (by rw [eq_comm]; simp; omega), below_box _ _⟩

theorem validBlock_is (c a b m : Int) (k : Nat) : nvB (1, c, a, b, m) k = ((a == 0) && (b == 0) && (m == 0) && costB c) := by
  rw [Bool.eq_iff_iff]
  simp [nvB, costB]
  omega
set_option maxRecDepth 100000 in
set_option maxHeartbeats 1000000 in
/-- (impl.Node).validBlock. -/
theorem validBlock_any (c a b m : Int) (k : Nat) (w : World) : Calls Try.prog 58 #[nv5 1 c a b m, .int .i64 (k : Int)] w fun e w' => e = .returned (.bool (nvB (1, c, a, b, m) k)) ∧ Below w.heap.size w w' := by
  obtain ⟨r, hr⟩ : ∃ r : Bool, r = nvB (1, c, a, b, m) k := ⟨_, rfl⟩
  rw [← hr]
  rw [validBlock_is] at hr
  go_enter Try.func58, Try.ntmps58
  by_cases za : a = 0
  · subst za
    by_cases zb : b = 0
    · subst zb
      by_cases zm : m = 0
      · subst zm
        cases tc : costB c with
        | true =>
          have HE := Lib.hid (show r = true by rw [hr]; simp [tc])
          clear hr
          go_wp2_with (first | (go_at_call 70; refine (costs_any _ _ _ _ _ _).mono ?_; rintro e w9 ⟨rfl, b9⟩; have HB9 := Lib.hid b9; have EC := fun (o : Nat) => b9.cell (p := ⟨w.heap.size, o, none⟩) (by simp); clear b9) | (go_at_call 71; refine (isEarlier_any _ _ _).mono ?_; rintro e w9 ⟨rfl, rfl⟩))
          go_ret
          exact ⟨ret_bool (by first | exact HE.out.symm | (rw [HE.out]; simp; omega)), (below_box w _).trans (HB9.out.mono (by simp))⟩
        | false =>
          have HE := Lib.hid (show r = false by rw [hr]; simp [tc])
          clear hr
          go_wp2_with (first | (go_at_call 70; refine (costs_any _ _ _ _ _ _).mono ?_; rintro e w9 ⟨rfl, b9⟩; have HB9 := Lib.hid b9; have EC := fun (o : Nat) => b9.cell (p := ⟨w.heap.size, o, none⟩) (by simp); clear b9) | (go_at_call 71; refine (isEarlier_any _ _ _).mono ?_; rintro e w9 ⟨rfl, rfl⟩))
          go_ret
          exact ⟨ret_bool (by first | exact HE.out.symm | (rw [HE.out]; simp; omega)), (below_box w _).trans (HB9.out.mono (by simp))⟩
      · have HE := Lib.hid (show r = false by rw [hr]; simp [zm])
        clear hr
        go_wp2_with (first | (go_at_call 70; refine (costs_any _ _ _ _ _ _).mono ?_; rintro e w9 ⟨rfl, b9⟩; have HB9 := Lib.hid b9; have EC := fun (o : Nat) => b9.cell (p := ⟨w.heap.size, o, none⟩) (by simp); clear b9) | (go_at_call 71; refine (isEarlier_any _ _ _).mono ?_; rintro e w9 ⟨rfl, rfl⟩))
        go_ret
        exact ⟨ret_bool (by first | exact HE.out.symm | (rw [HE.out]; simp; omega)), below_box _ _⟩
    · have HE := Lib.hid (show r = false by rw [hr]; simp [zb])
      clear hr
      go_wp2_with (first | (go_at_call 70; refine (costs_any _ _ _ _ _ _).mono ?_; rintro e w9 ⟨rfl, b9⟩; have HB9 := Lib.hid b9; have EC := fun (o : Nat) => b9.cell (p := ⟨w.heap.size, o, none⟩) (by simp); clear b9) | (go_at_call 71; refine (isEarlier_any _ _ _).mono ?_; rintro e w9 ⟨rfl, rfl⟩))
      go_ret
      exact ⟨ret_bool (by first | exact HE.out.symm | (rw [HE.out]; simp; omega)), below_box _ _⟩
  · have HE := Lib.hid (show r = false by rw [hr]; simp [za])
    clear hr
    go_wp2_with (first | (go_at_call 70; refine (costs_any _ _ _ _ _ _).mono ?_; rintro e w9 ⟨rfl, b9⟩; have HB9 := Lib.hid b9; have EC := fun (o : Nat) => b9.cell (p := ⟨w.heap.size, o, none⟩) (by simp); clear b9) | (go_at_call 71; refine (isEarlier_any _ _ _).mono ?_; rintro e w9 ⟨rfl, rfl⟩))
    go_ret
    exact ⟨ret_bool (by first | exact HE.out.symm | (rw [HE.out]; simp; omega)), below_box _ _⟩

theorem validSeq_is (c a b m : Int) (k : Nat) : nvB (2, c, a, b, m) k = ((c == 0) && (m == 0) && earB a k && earB b k) := by
  rw [Bool.eq_iff_iff]
  simp [nvB, earB]
  omega
set_option maxRecDepth 100000 in
set_option maxHeartbeats 1000000 in
/-- (impl.Node).validSeq. -/
theorem validSeq_any (c a b m : Int) (k : Nat) (w : World) : Calls Try.prog 61 #[nv5 2 c a b m, .int .i64 (k : Int)] w fun e w' => e = .returned (.bool (nvB (2, c, a, b, m) k)) ∧ Below w.heap.size w w' := by
  obtain ⟨r, hr⟩ : ∃ r : Bool, r = nvB (2, c, a, b, m) k := ⟨_, rfl⟩
  rw [← hr]
  rw [validSeq_is] at hr
  go_enter Try.func61, Try.ntmps61
  by_cases zc : c = 0
  · subst zc
    by_cases zm : m = 0
    · subst zm
      cases ta : earB a k with
      | true =>
        cases tb : earB b k with
        | true =>
          have HE := Lib.hid (show r = true by rw [hr]; simp [ta, tb])
          clear hr
          go_wp2_with (first | (go_at_call 70; refine (costs_any _ _ _ _ _ _).mono ?_; rintro e w9 ⟨rfl, b9⟩; have HB9 := Lib.hid b9; have EC := fun (o : Nat) => b9.cell (p := ⟨w.heap.size, o, none⟩) (by simp); clear b9) | (go_at_call 71; refine (isEarlier_any _ _ _).mono ?_; rintro e w9 ⟨rfl, rfl⟩))
          go_ret
          exact ⟨ret_bool (by first | exact HE.out.symm | (rw [HE.out]; simp; omega)), below_box _ _⟩
        | false =>
          have HE := Lib.hid (show r = false by rw [hr]; simp [ta, tb])
          clear hr
          go_wp2_with (first | (go_at_call 70; refine (costs_any _ _ _ _ _ _).mono ?_; rintro e w9 ⟨rfl, b9⟩; have HB9 := Lib.hid b9; have EC := fun (o : Nat) => b9.cell (p := ⟨w.heap.size, o, none⟩) (by simp); clear b9) | (go_at_call 71; refine (isEarlier_any _ _ _).mono ?_; rintro e w9 ⟨rfl, rfl⟩))
          go_ret
          exact ⟨ret_bool (by first | exact HE.out.symm | (rw [HE.out]; simp; omega)), below_box _ _⟩
      | false =>
        have HE := Lib.hid (show r = false by rw [hr]; simp [ta])
        clear hr
        go_wp2_with (first | (go_at_call 70; refine (costs_any _ _ _ _ _ _).mono ?_; rintro e w9 ⟨rfl, b9⟩; have HB9 := Lib.hid b9; have EC := fun (o : Nat) => b9.cell (p := ⟨w.heap.size, o, none⟩) (by simp); clear b9) | (go_at_call 71; refine (isEarlier_any _ _ _).mono ?_; rintro e w9 ⟨rfl, rfl⟩))
        go_ret
        exact ⟨ret_bool (by first | exact HE.out.symm | (rw [HE.out]; simp; omega)), below_box _ _⟩
    · have HE := Lib.hid (show r = false by rw [hr]; simp [zm])
      clear hr
      go_wp2_with (first | (go_at_call 70; refine (costs_any _ _ _ _ _ _).mono ?_; rintro e w9 ⟨rfl, b9⟩; have HB9 := Lib.hid b9; have EC := fun (o : Nat) => b9.cell (p := ⟨w.heap.size, o, none⟩) (by simp); clear b9) | (go_at_call 71; refine (isEarlier_any _ _ _).mono ?_; rintro e w9 ⟨rfl, rfl⟩))
      go_ret
      exact ⟨ret_bool (by first | exact HE.out.symm | (rw [HE.out]; simp; omega)), below_box _ _⟩
  · have HE := Lib.hid (show r = false by rw [hr]; simp [zc])
    clear hr
    go_wp2_with (first | (go_at_call 70; refine (costs_any _ _ _ _ _ _).mono ?_; rintro e w9 ⟨rfl, b9⟩; have HB9 := Lib.hid b9; have EC := fun (o : Nat) => b9.cell (p := ⟨w.heap.size, o, none⟩) (by simp); clear b9) | (go_at_call 71; refine (isEarlier_any _ _ _).mono ?_; rintro e w9 ⟨rfl, rfl⟩))
    go_ret
    exact ⟨ret_bool (by first | exact HE.out.symm | (rw [HE.out]; simp; omega)), below_box _ _⟩

theorem validBranch_is (c a b m : Int) (k : Nat) : nvB (3, c, a, b, m) k = ((m == 0) && costB c && earB a k && earB b k) := by
  rw [Bool.eq_iff_iff]
  simp [nvB, costB, earB]
  omega
set_option maxRecDepth 100000 in
set_option maxHeartbeats 1000000 in
/-- (impl.Node).validBranch. -/
theorem validBranch_any (c a b m : Int) (k : Nat) (w : World) : Calls Try.prog 64 #[nv5 3 c a b m, .int .i64 (k : Int)] w fun e w' => e = .returned (.bool (nvB (3, c, a, b, m) k)) ∧ Below w.heap.size w w' := by
  obtain ⟨r, hr⟩ : ∃ r : Bool, r = nvB (3, c, a, b, m) k := ⟨_, rfl⟩
  rw [← hr]
  rw [validBranch_is] at hr
  go_enter Try.func64, Try.ntmps64
  by_cases zm : m = 0
  · subst zm
    cases tc : costB c with
    | true =>
      cases ta : earB a k with
      | true =>
        cases tb : earB b k with
        | true =>
          have HE := Lib.hid (show r = true by rw [hr]; simp [tc, ta, tb])
          clear hr
          go_wp2_with (first | (go_at_call 70; refine (costs_any _ _ _ _ _ _).mono ?_; rintro e w9 ⟨rfl, b9⟩; have HB9 := Lib.hid b9; have EC := fun (o : Nat) => b9.cell (p := ⟨w.heap.size, o, none⟩) (by simp); clear b9) | (go_at_call 71; refine (isEarlier_any _ _ _).mono ?_; rintro e w9 ⟨rfl, rfl⟩))
          go_ret
          exact ⟨ret_bool (by first | exact HE.out.symm | (rw [HE.out]; simp; omega)), (below_box w _).trans (HB9.out.mono (by simp))⟩
        | false =>
          have HE := Lib.hid (show r = false by rw [hr]; simp [tc, ta, tb])
          clear hr
          go_wp2_with (first | (go_at_call 70; refine (costs_any _ _ _ _ _ _).mono ?_; rintro e w9 ⟨rfl, b9⟩; have HB9 := Lib.hid b9; have EC := fun (o : Nat) => b9.cell (p := ⟨w.heap.size, o, none⟩) (by simp); clear b9) | (go_at_call 71; refine (isEarlier_any _ _ _).mono ?_; rintro e w9 ⟨rfl, rfl⟩))
          go_ret
          exact ⟨ret_bool (by first | exact HE.out.symm | (rw [HE.out]; simp; omega)), (below_box w _).trans (HB9.out.mono (by simp))⟩
      | false =>
        have HE := Lib.hid (show r = false by rw [hr]; simp [tc, ta])
        clear hr
        go_wp2_with (first | (go_at_call 70; refine (costs_any _ _ _ _ _ _).mono ?_; rintro e w9 ⟨rfl, b9⟩; have HB9 := Lib.hid b9; have EC := fun (o : Nat) => b9.cell (p := ⟨w.heap.size, o, none⟩) (by simp); clear b9) | (go_at_call 71; refine (isEarlier_any _ _ _).mono ?_; rintro e w9 ⟨rfl, rfl⟩))
        go_ret
        exact ⟨ret_bool (by first | exact HE.out.symm | (rw [HE.out]; simp; omega)), (below_box w _).trans (HB9.out.mono (by simp))⟩
    | false =>
      have HE := Lib.hid (show r = false by rw [hr]; simp [tc])
      clear hr
      go_wp2_with (first | (go_at_call 70; refine (costs_any _ _ _ _ _ _).mono ?_; rintro e w9 ⟨rfl, b9⟩; have HB9 := Lib.hid b9; have EC := fun (o : Nat) => b9.cell (p := ⟨w.heap.size, o, none⟩) (by simp); clear b9) | (go_at_call 71; refine (isEarlier_any _ _ _).mono ?_; rintro e w9 ⟨rfl, rfl⟩))
      go_ret
      exact ⟨ret_bool (by first | exact HE.out.symm | (rw [HE.out]; simp; omega)), (below_box w _).trans (HB9.out.mono (by simp))⟩
  · have HE := Lib.hid (show r = false by rw [hr]; simp [zm])
    clear hr
    go_wp2_with (first | (go_at_call 70; refine (costs_any _ _ _ _ _ _).mono ?_; rintro e w9 ⟨rfl, b9⟩; have HB9 := Lib.hid b9; have EC := fun (o : Nat) => b9.cell (p := ⟨w.heap.size, o, none⟩) (by simp); clear b9) | (go_at_call 71; refine (isEarlier_any _ _ _).mono ?_; rintro e w9 ⟨rfl, rfl⟩))
    go_ret
    exact ⟨ret_bool (by first | exact HE.out.symm | (rw [HE.out]; simp; omega)), below_box _ _⟩

theorem validLoop_is (c a b m : Int) (k : Nat) : nvB (4, c, a, b, m) k = ((b == 0) && costB c && earB a k && decide (0 ≤ m) && decide (m ≤ 4)) := by
  rw [Bool.eq_iff_iff]
  simp [nvB, costB, earB]
  omega
set_option maxRecDepth 100000 in
set_option maxHeartbeats 1000000 in
/-- (impl.Node).validLoop. -/
theorem validLoop_any (c a b m : Int) (k : Nat) (w : World) : Calls Try.prog 67 #[nv5 4 c a b m, .int .i64 (k : Int)] w fun e w' => e = .returned (.bool (nvB (4, c, a, b, m) k)) ∧ Below w.heap.size w w' := by
  obtain ⟨r, hr⟩ : ∃ r : Bool, r = nvB (4, c, a, b, m) k := ⟨_, rfl⟩
  rw [← hr]
  rw [validLoop_is] at hr
  go_enter Try.func67, Try.ntmps67
  by_cases zb : b = 0
  · subst zb
    cases tc : costB c with
    | true =>
      cases ta : earB a k with
      | true =>
        by_cases m0 : 0 ≤ m
        · skip
          by_cases m4 : m ≤ 4
          · skip
            have HE := Lib.hid (show r = true by rw [hr]; simp [tc, ta, m0, m4])
            clear hr
            go_wp2_with (first | (go_at_call 70; refine (costs_any _ _ _ _ _ _).mono ?_; rintro e w9 ⟨rfl, b9⟩; have HB9 := Lib.hid b9; have EC := fun (o : Nat) => b9.cell (p := ⟨w.heap.size, o, none⟩) (by simp); clear b9) | (go_at_call 71; refine (isEarlier_any _ _ _).mono ?_; rintro e w9 ⟨rfl, rfl⟩))
            go_ret
            exact ⟨ret_bool (by first | exact HE.out.symm | (rw [HE.out]; simp; omega)), (below_box w _).trans (HB9.out.mono (by simp))⟩
          · have HE := Lib.hid (show r = false by rw [hr]; simp [tc, ta, m0, m4])
            clear hr
            go_wp2_with (first | (go_at_call 70; refine (costs_any _ _ _ _ _ _).mono ?_; rintro e w9 ⟨rfl, b9⟩; have HB9 := Lib.hid b9; have EC := fun (o : Nat) => b9.cell (p := ⟨w.heap.size, o, none⟩) (by simp); clear b9) | (go_at_call 71; refine (isEarlier_any _ _ _).mono ?_; rintro e w9 ⟨rfl, rfl⟩))
            go_ret
            exact ⟨ret_bool (by first | exact HE.out.symm | (rw [HE.out]; simp; omega)), (below_box w _).trans (HB9.out.mono (by simp))⟩
        · have HE := Lib.hid (show r = false by rw [hr]; simp [tc, ta, m0])
          clear hr
          go_wp2_with (first | (go_at_call 70; refine (costs_any _ _ _ _ _ _).mono ?_; rintro e w9 ⟨rfl, b9⟩; have HB9 := Lib.hid b9; have EC := fun (o : Nat) => b9.cell (p := ⟨w.heap.size, o, none⟩) (by simp); clear b9) | (go_at_call 71; refine (isEarlier_any _ _ _).mono ?_; rintro e w9 ⟨rfl, rfl⟩))
          go_ret
          exact ⟨ret_bool (by first | exact HE.out.symm | (rw [HE.out]; simp; omega)), (below_box w _).trans (HB9.out.mono (by simp))⟩
      | false =>
        have HE := Lib.hid (show r = false by rw [hr]; simp [tc, ta])
        clear hr
        go_wp2_with (first | (go_at_call 70; refine (costs_any _ _ _ _ _ _).mono ?_; rintro e w9 ⟨rfl, b9⟩; have HB9 := Lib.hid b9; have EC := fun (o : Nat) => b9.cell (p := ⟨w.heap.size, o, none⟩) (by simp); clear b9) | (go_at_call 71; refine (isEarlier_any _ _ _).mono ?_; rintro e w9 ⟨rfl, rfl⟩))
        go_ret
        exact ⟨ret_bool (by first | exact HE.out.symm | (rw [HE.out]; simp; omega)), (below_box w _).trans (HB9.out.mono (by simp))⟩
    | false =>
      have HE := Lib.hid (show r = false by rw [hr]; simp [tc])
      clear hr
      go_wp2_with (first | (go_at_call 70; refine (costs_any _ _ _ _ _ _).mono ?_; rintro e w9 ⟨rfl, b9⟩; have HB9 := Lib.hid b9; have EC := fun (o : Nat) => b9.cell (p := ⟨w.heap.size, o, none⟩) (by simp); clear b9) | (go_at_call 71; refine (isEarlier_any _ _ _).mono ?_; rintro e w9 ⟨rfl, rfl⟩))
      go_ret
      exact ⟨ret_bool (by first | exact HE.out.symm | (rw [HE.out]; simp; omega)), (below_box w _).trans (HB9.out.mono (by simp))⟩
  · have HE := Lib.hid (show r = false by rw [hr]; simp [zb])
    clear hr
    go_wp2_with (first | (go_at_call 70; refine (costs_any _ _ _ _ _ _).mono ?_; rintro e w9 ⟨rfl, b9⟩; have HB9 := Lib.hid b9; have EC := fun (o : Nat) => b9.cell (p := ⟨w.heap.size, o, none⟩) (by simp); clear b9) | (go_at_call 71; refine (isEarlier_any _ _ _).mono ?_; rintro e w9 ⟨rfl, rfl⟩))
    go_ret
    exact ⟨ret_bool (by first | exact HE.out.symm | (rw [HE.out]; simp; omega)), below_box _ _⟩

end Go.Proofs.Ytlcdmjcikbgnpaa
