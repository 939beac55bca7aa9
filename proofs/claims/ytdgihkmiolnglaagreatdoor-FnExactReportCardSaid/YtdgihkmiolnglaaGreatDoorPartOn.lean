/- Contracts of the program's functions of chapter 7 that hold no range over a function: coresValid, AssignmentValid, assignment.tasks, CoreTasks, AssignmentFeasible. Conditions: the slices hold what is said; their lengths are at most 2^40; what each theorem names. -/
import Derived.Test.YtdgihkmiolnglaaGreatDoorPartMin
import Derived.Test.YtdgihkmiolnglaaGreatDoorDemImpl
namespace Go.Proofs.YtdgihkmiolnglaaGreatDoor
open Go.RowKit Go.Deep

/-- impl.coresValid. -/
theorem coresValid_any (n : Int) (w : World) : Calls Tryz.prog 72 #[.int .i64 n] w fun e w' => e = .returned (.bool (decide (1 ≤ n ∧ n ≤ 5))) ∧ w = w' := by
  go_enter Tryz.func72, Tryz.ntmps72
  by_cases h1 : 1 ≤ n
  · by_cases h2 : n ≤ 5
    · go_wp2
      go_ret
      exact ⟨ret_bool (decide_eq_true ⟨h1, h2⟩).symm, rfl⟩
    · go_wp2
      go_ret
      exact ⟨ret_bool (by rw [eq_comm]; simp; omega), rfl⟩
  · go_wp2
    go_ret
    exact ⟨ret_bool (by rw [eq_comm]; simp; omega), rfl⟩

set_option maxRecDepth 100000 in
set_option maxHeartbeats 2000000 in
/-- impl.assignment.tasks: those of the first m tasks that are on processor c. -/
theorem tasks_any (a oa : Option Addr) (cap ocap m : Nat) (ts : List T3) (f : Nat → Int) (c : Int) (w : World) (hr : Row w a ts) (ho : IntF w oa m f) (hm : m ≤ ts.length) (hn : ts.length ≤ 1000) :
    Calls Tryz.prog 123 #[.slice oa m ocap, .slice a ts.length cap, .int .i64 c] w fun e w' => ∃ v, e = .returned v ∧ Own w' w.heap.size v (onN ts f c m) ∧ Below w.heap.size w w' := by
  obtain ⟨i0, hi, hz, hsz, hby⟩ := info_parts taskInfo
  have HI := Lib.hid (And.intro hi (And.intro hz (And.intro hsz hby)))
  have HR := Lib.hid hr
  have HO := Lib.hid ho
  clear hr ho hi hz hsz hby
  go_enter Tryz.func123, Tryz.ntmps123
  go_wp2
  go_loopg [7, 12] m (fun q s z wr => ∃ k : Nat, q + k = m ∧ z = .int .i64 k ∧ Own wr w.heap.size s (onN ts f c k) ∧ Below w.heap.size w wr)
  case atStart => exact ⟨0, rfl, rfl, ⟨rfl, .inl ⟨rfl, rfl⟩⟩, Below.refl _ _⟩
  case round =>
    obtain ⟨k, hk, rfl, hown, B⟩ := hrel
    have HK := Lib.hid hk
    have HW := Lib.hid hown
    have HB := Lib.hid B
    have hkk : k ≤ m := by omega
    have hlen := onN_len ts f c k
    clear hk hown
    by_cases hlt : k < m
    · obtain ⟨b, off, rfl, hbs, x0⟩ := (HO.out.below B) k hlt
      obtain ⟨bt, ot, rfl, hbt, e0, e1, e2⟩ := (HR.out.below B).at (show k < ts.length by omega)
      obtain ⟨y, hy⟩ : ∃ y, y = f k := ⟨_, rfl⟩
      rw [← hy] at x0
      have hk0 : (0 : Int) ≤ k := by omega
      have hk1 : (k : Int) < m := by omega
      have hk2 : (k : Int) < ts.length := by omega
      clear B
      by_cases he : y = c
      · subst he
        have HS := Lib.hid (show onN ts f y (k + 1) = onN ts f y k ++ [tk ts k] from if_pos hy.symm)
        obtain ⟨⟨C, D, Q⟩, ht⟩ : ∃ t, t = tk ts k := ⟨_, rfl⟩
        rw [← ht] at e0 e1 e2 HS
        simp only at e0 e1 e2
        clear hy ht
        go_wp2_with (at_builtin; refine wpList_append_own _ rfl (.tmp 20) (.tmp 25) 27 rfl w.heap.size 29 i0 _ 3 24 Tryz.underlying27 HI.out.1 HI.out.2.1 HI.out.2.2.1 HI.out.2.2.2 rfl (by decide) _ (onN ts f y k).length (flat (onN ts f y k)) rfl (World.ownsRow.alloc HW.out _) ⟨wr.heap.size, 0, none⟩ 1 1 [.int .i64 C, .int .i64 D, .int .i64 Q] rfl rfl (news3 _ _ _ _ _) (one3 _ _ _) (by unfold maxLen; omega) (by omega) (Nat.le_trans HB.out.size (below_box _ _).size) ?_; intro v' w' hown' hgrow hnil)
        have B1 := Lib.hid (show Below w.heap.size w w' from (HB.out.trans ((below_box wr _).mono HB.out.size)).grown hgrow (Nat.le_trans HB.out.size (below_box _ _).size) (fun k hk => (World.ownsRow.lt HW.out k hk).1))
        have HO1 := Lib.hid (show Own w' w.heap.size v' (onN ts f y (k + 1)) by unfold Own; rw [HS.out, flat_snoc, List.length_append]; exact hown')
        clear hown' hgrow hnil
        go_roundg (gk - 1)
        case measure => have := HK.out; omega
        case rel => exact ⟨k + 1, by have := HK.out; omega, by go_num, HO1.out, B1.out⟩
      · have HS := Lib.hid (show onN ts f c (k + 1) = onN ts f c k from if_neg (by rw [← hy]; exact he))
        have he' : (y == c) = false := by simpa using he
        clear hy he
        go_wp2
        go_roundg (gk - 1)
        case measure => have := HK.out; omega
        case rel => exact ⟨k + 1, by have := HK.out; omega, by go_num, by rw [HS.out]; exact HW.out, HB.out⟩
    · obtain rfl : k = m := by omega
      go_wp2
      go_ret
      exact ⟨_, rfl, HW.out, HB.out⟩

end Go.Proofs.YtdgihkmiolnglaaGreatDoor
