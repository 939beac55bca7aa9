/- Contracts of math/bits.Mul of 1 and a small number, of slices.Repeat[[]int,int] of one element, and of impl.missing. Conditions: at most 120 entries. -/
import Derived.Test.YtdgihkmiolnglaaGreatDoorMem
import Derived.Laws.CopyOwn
namespace Go.Proofs.YtdgihkmiolnglaaGreatDoor
open Go.RowKit Go.Deep

theorem and_small : ∀ n : Fin 121, bits BinOp.and IntKind.u64 ((n.val : Nat) : Int) 4294967295 = ((n.val : Nat) : Int) := by decide +kernel
theorem u64_small : ∀ n : Fin 121, IntKind.u64.wrap ((n.val : Nat) : Int) = ((n.val : Nat) : Int) := by decide +kernel

set_option maxRecDepth 100000 in
/-- math/bits.Mul64 of 1 and n. -/
theorem mul64_any (n : Nat) (w : World) (hn : n ≤ 120) :
    Calls Tryz.prog 151 #[.int .u64 1, .int .u64 (n : Int)] w fun e w' => e = .returned (.tuple #[.int .u64 0, .int .u64 (n : Int)]) ∧ w = w' := by
  have h1 : bits BinOp.and IntKind.u64 1 4294967295 = 1 := and_small ⟨1, by omega⟩
  have h0 : bits BinOp.and IntKind.u64 0 4294967295 = 0 := and_small ⟨0, by omega⟩
  have h2 : bits BinOp.and IntKind.u64 (n : Int) 4294967295 = n := and_small ⟨n, by omega⟩
  have h3 : IntKind.u64.wrap (n : Int) = n := u64_small ⟨n, by omega⟩
  have h4 : IntKind.u64.wrap (0 : Int) = 0 := u64_small ⟨0, by omega⟩
  have h5 : (n : Int) / 4294967296 = 0 := by omega
  go_enter Tryz.func151, Tryz.ntmps151
  go_wp2
  go_ret2
  exact ⟨rfl, rfl⟩

set_option maxRecDepth 100000 in
/-- math/bits.Mul of 1 and n. -/
theorem mul_any (n : Nat) (w : World) (hn : n ≤ 120) :
    Calls Tryz.prog 130 #[.int .u64 1, .int .u64 (n : Int)] w fun e w' => e = .returned (.tuple #[.int .u64 0, .int .u64 (n : Int)]) ∧ w = w' := by
  go_enter Tryz.func130, Tryz.ntmps130
  go_wp2_with fail
  refine (mul64_any n w hn).mono ?_
  rintro e w1 ⟨rfl, rfl⟩
  go_wp2
  go_ret2
  exact ⟨rfl, rfl⟩

/-- c entries are laid, the others are still 0. -/
def rowL (n c : Nat) (x : Int) : List Value := List.replicate c (.int .i64 x) ++ List.replicate (n - c) (.int .i64 0)
theorem rowL_len {n c : Nat} (x : Int) (h : c ≤ n) : (rowL n c x).length = n := by simp [rowL]; omega
theorem rowL_zero (n : Nat) (x : Int) : (madeCells #[.int .i64 0] n) = (rowL n 0 x).toArray := by
  apply Array.ext'
  simp only [rowL, madeCells, Array.toList_map, Array.toList_range, List.replicate_zero, List.nil_append, Nat.sub_zero]
  rw [List.eq_replicate_iff]
  refine ⟨by simp, fun b hb => ?_⟩
  obtain ⟨k, _, rfl⟩ := List.mem_map.1 hb
  simp [Nat.mod_one]
theorem rowL_splice {n c m : Nat} (x : Int) (h : c + m ≤ n) : splice (rowL n c x) c (List.replicate m (.int .i64 x)) = rowL n (c + m) x := by
  unfold splice rowL
  rw [List.take_left' (by simp), List.length_replicate, List.drop_append, List.length_replicate, List.drop_eq_nil_of_le (by simp), List.nil_append, ← List.append_assoc, List.replicate_append_replicate, List.drop_replicate]
  congr 2
  omega
theorem rowL_at {n c j : Nat} (x : Int) (h : j < c) : (rowL n c x)[j]? = some (.int .i64 x) := by
  unfold rowL
  rw [List.getElem?_append_left (by simpa using h)]
  simp [h]
theorem rowL_vals (n : Nat) (x : Int) : rowL n n x = vals (fun _ => x) n := by
  simp [rowL, vals, List.map_const']

theorem goInt_nat (k : Nat) : goInt k = .int .i64 (k : Int) := rfl
/-- The first entry goes over. -/
theorem copy_first (n b : Nat) (x : Int) (w : World) (hn : 1 ≤ n) (hb : w.cell? ⟨b, 0, none⟩ = some (.int .i64 x)) :
    ∃ W, (Builtin.copy_ #[52, 52] 3 #[.slice (some ⟨w.heap.size, 0, none⟩) n n, .slice (some ⟨b, 0, none⟩) 1 1]).run Tryz.prog (w.alloc (.cells (madeCells #[.int .i64 0] n) 3)) = .ok (.int .i64 1) W ∧
      W.heap[w.heap.size]? = some (.cells (rowL n 1 x).toArray 3 (0, 0)) ∧ Below w.heap.size w W := by
  have hlt := World.block_lt_of_cell? w ⟨b, 0, none⟩ hb
  have hg : (w.alloc (.cells (madeCells #[.int .i64 0] n) 3)).heap[w.heap.size]? = some (.cells (rowL n 0 x).toArray 3 (0, 0)) := by rw [← rowL_zero]; exact heap_alloc_new _ _
  have hr := run_copy_row (P := Tryz.prog) (w.alloc (.cells (madeCells #[.int .i64 0] n) 3)) 52 52 3 3 w.heap.size 0 n n ⟨b, 0, none⟩ 1 1 (rowL n 0 x).toArray 3 [.int .i64 x] Tryz.underlying52 (by kernel_rfl) hg
    (by simp [Nat.min_eq_left hn]) (fun j v hj => by
      match j, hj with
      | 0, hj => simp at hj; subst hj; exact ((below_box w _).cell (p := ⟨b, 0, none⟩) hlt).trans hb
      | j + 1, hj => simp at hj) (by simp [rowL_len x (Nat.zero_le n)]; omega) (one1 x)
  refine ⟨_, hr, ?_, below_setRow (below_box _ _) (Nat.le_refl _) _⟩
  rw [setRow_heap _ _ _ _ _ _ hg]
  have := rowL_splice (n := n) (c := 0) (m := 1) x (by omega)
  simp only [splice, List.replicate_one, List.length_singleton, Nat.zero_add, List.append_assoc] at this ⊢
  rw [this]
/-- What is there already goes over once more. -/
theorem copy_more (n c g : Nat) (x : Int) (w0 w : World) (hc : 1 ≤ c) (hcn : c < n) (hg : w.heap[g]? = some (.cells (rowL n c x).toArray 3 (0, 0))) (hb : Below w0.heap.size w0 w) (h0 : w0.heap.size ≤ g) (dc sc : Nat) :
    ∃ (m : Nat) (W : World), (Builtin.copy_ #[52, 52] 3 #[.slice (some ⟨g, c, none⟩) (n - c) dc, .slice (some ⟨g, 0, none⟩) c sc]).run Tryz.prog w = .ok (.int .i64 (m : Int)) W ∧
      W.heap[g]? = some (.cells (rowL n (c + m) x).toArray 3 (0, 0)) ∧ Below w0.heap.size w0 W ∧ 1 ≤ m ∧ c + m ≤ n := by
  obtain ⟨m, hm⟩ : ∃ m, m = Nat.min c (n - c) := ⟨_, rfl⟩
  have hm1 : m ≤ c := by rw [hm]; exact Nat.min_le_left _ _
  have hm2 : m ≤ n - c := by rw [hm]; exact Nat.min_le_right _ _
  have hm3 : 1 ≤ m := by rw [hm]; exact Nat.le_min.2 ⟨hc, by omega⟩
  have hr := run_copy_row (P := Tryz.prog) w 52 52 3 3 g c (n - c) dc ⟨g, 0, none⟩ c sc (rowL n c x).toArray 3 (List.replicate m (.int .i64 x)) Tryz.underlying52 (by kernel_rfl) hg
    (by rw [List.length_replicate, hm]) (fun j v hj => by
      have hj' := (List.getElem?_eq_some_iff.1 hj).1
      rw [List.length_replicate] at hj'
      have hv : v = .int .i64 x := List.eq_of_mem_replicate (List.mem_of_getElem? hj)
      have hjc : j < c := by omega
      have := rowL_at (n := n) x hjc
      subst hv
      by_cases hj0 : j = 0
      · subst hj0; simp [World.cell?, Addr.add, hg, this]
      · simp [World.cell?, Addr.add, hg, this, hj0]) (by simp [rowL_len x (Nat.le_of_lt hcn)]; omega) (fun v hv => by rw [List.eq_of_mem_replicate hv]; rfl)
  have hsp := rowL_splice (n := n) (c := c) (m := m) x (by omega)
  simp only [splice, List.length_replicate] at hsp
  rw [List.length_replicate, List.append_assoc, hsp] at hr
  exact ⟨m, _, hr, setRow_heap _ _ _ _ _ _ hg, below_setRow hb h0 _, hm3, by omega⟩
theorem rowL_own {n g : Nat} {x : Int} {w w0 : World} (hg : w.heap[g]? = some (.cells (rowL n n x).toArray 3 (0, 0))) (h0 : w0.heap.size ≤ g) (hn : n ≤ 120) : OwnI w w0.heap.size (.slice (some ⟨g, 0, none⟩) n n) n (fun _ => x) :=
  ⟨by rw [vals_len, Nat.mul_one], .inr ⟨g, n, _, rfl, h0, hg, Nat.le_refl _, by unfold maxLen; omega, by simp [rowL_len x (Nat.le_refl n)], by rw [rowL_vals]; exact List.take_of_length_le (by rw [vals_len]; omega)⟩⟩

set_option maxRecDepth 100000 in
set_option maxHeartbeats 1000000 in
/-- slices.Repeat of one element. -/
theorem repeat_any (n b : Nat) (x : Int) (w : World) (hn : n ≤ 120) (hb : w.cell? ⟨b, 0, none⟩ = some (.int .i64 x)) :
    Calls Tryz.prog 109 #[.slice (some ⟨b, 0, none⟩) 1 1, .int .i64 (n : Int)] w fun e w' =>
      ∃ v, e = .returned v ∧ OwnI w' w.heap.size v n (fun _ => x) ∧ Below w.heap.size w w' := by
  have h3 : IntKind.u64.wrap (n : Int) = n := u64_small ⟨n, by omega⟩
  have hmk := run_make_ints n (by omega)
  have hn0 : (0 : Int) ≤ n := by omega
  have hn1 : (n : Int) ≤ 9223372036854775807 := by omega
  by_cases h1 : 1 ≤ n
  · obtain ⟨W, hcp, hrow, hbl⟩ := copy_first n b x w h1 hb
    have HR := Lib.hid (And.intro hrow hbl)
    clear hrow hbl hb
    go_enter Tryz.func109, Tryz.ntmps109
    go_wp2_with fail
    refine (mul_any n w hn).mono ?_
    rintro e w1 ⟨rfl, rfl⟩
    go_wp2
    clear hcp
    go_loopg [8] (n - 1) (fun q s wr => ∃ c : Nat, q + c = n ∧ 1 ≤ c ∧ s = .int .i64 c ∧ wr.heap[w.heap.size]? = some (.cells (rowL n c x).toArray 3 (0, 0)) ∧ Below w.heap.size w wr)
    case atStart => exact ⟨1, by omega, by omega, rfl, HR.out.1, HR.out.2⟩
    case round =>
      obtain ⟨c, hq, hc, rfl, hrow, hbl⟩ := hrel
      have HQ := Lib.hid hq
      have hcn : c ≤ n := by omega
      clear hq
      by_cases hlt : c < n
      · obtain ⟨m, W2, hcp, hrow2, hbl2, hm, hcm⟩ := copy_more n c w.heap.size x w wr.drew hc hlt hrow hbl.drew (Nat.le_refl _) (n - c) n
        have HR2 := Lib.hid (And.intro hrow2 hbl2)
        clear hrow2 hbl2 hrow hbl
        have hc0 : (0 : Int) ≤ c := by omega
        have hc1 : (c : Int) < n := by omega
        go_wp2
        go_region
        clear hcp
        go_wp2
        go_roundg (n - (c + m))
        case measure => have := HQ.out; omega
        case rel => exact ⟨c + m, by omega, by omega, by go_num, HR2.out.1, HR2.out.2⟩
      · obtain rfl : c = n := by omega
        have HR2 := Lib.hid (And.intro hrow hbl)
        clear hrow hbl
        go_wp2
        go_ret
        exact ⟨_, rfl, rowL_own HR2.out.1 (Nat.le_refl _) hn, HR2.out.2⟩
  · obtain rfl : n = 0 := by omega
    have hmk0 : ∀ w : World, (Instr.makeSlice 52 (.int .i64 0) (.int .i64 0)).run Tryz.prog w = .ok (.slice (some ⟨w.heap.size, 0, none⟩) 0 0) (w.alloc (.cells (madeCells #[.int .i64 0] 0) 3)) := hmk
    clear hmk h3 hn0 hn1
    have hcp := run_copy_none (P := Tryz.prog) (w.alloc (.cells (madeCells #[.int .i64 0] 0) 3)) 52 52 3 3 (some ⟨w.heap.size, 0, none⟩) (some ⟨b, 0, none⟩) 0 0 1 1 Tryz.underlying52 (by kernel_rfl) rfl
    have hr := Lib.hid (show (w.alloc (.cells (madeCells #[.int .i64 0] 0) 3)).heap[w.heap.size]? = some (.cells (rowL 0 0 x).toArray 3 (0, 0)) by rw [← rowL_zero]; exact heap_alloc_new _ _)
    clear hb
    go_enter Tryz.func109, Tryz.ntmps109
    go_wp2_with fail
    refine (mul_any 0 w hn).mono ?_
    rintro e w1 ⟨rfl, rfl⟩
    go_wp2
    go_loopg [8] 0 (fun q s wr => s = .int .i64 0 ∧ wr = w.alloc (.cells (madeCells #[.int .i64 0] 0) 3))
    case atStart => exact ⟨rfl, rfl⟩
    case round =>
      obtain ⟨rfl, rfl⟩ := hrel
      go_wp2
      go_ret
      exact ⟨_, rfl, rowL_own hr.out (Nat.le_refl _) hn, below_box _ _⟩

set_option maxRecDepth 100000 in
/-- impl.missing. -/
theorem missing_any (n : Nat) (w : World) (hn : n ≤ 120) :
    Calls Tryz.prog 84 #[.int .i64 (n : Int)] w fun e w' =>
      ∃ v, e = .returned v ∧ OwnI w' w.heap.size v n (fun _ => -1) ∧ Below w.heap.size w w' := by
  go_enter Tryz.func84, Tryz.ntmps84
  go_wp2_with fail
  refine (repeat_any n _ (-1) _ hn (by simp [go_sem])).mono ?_
  rintro e w1 ⟨v, rfl, ho, hb⟩
  have HO := Lib.hid (And.intro (ho.mono (show w.heap.size ≤ _ by simp)) ((below_box w _).trans (hb.mono (by simp))))
  clear ho hb
  go_wp2
  go_ret
  exact ⟨_, rfl, HO.out.1, HO.out.2⟩

end Go.Proofs.YtdgihkmiolnglaaGreatDoor
