/- Contracts of the exact laws' helpers on schedules: laws.szIntS, szSchedule, toIntS, toSchedule. Conditions: the slices hold what is said; their lengths are at most 2^40. -/
import Derived.Test.YtdhdodmpfbgliaaDoorMem
import Derived.Test.YtdhdodmpfbgliaaDoorSame
namespace Go.Proofs.YtdhdodmpfbgliaaDoor
open Go.RowKit Go.Deep

set_option maxHeartbeats 1000000 in
/-- laws.toIntS. -/
theorem toIntS_any (a : Option Addr) (cap n : Nat) (f : Nat → Int) (w : World) (h : IntF w a n f) (hn : n ≤ 1099511627776) :
    Calls Tryd.prog 23 #[.slice a n cap] w fun e w' =>
      e = .returned (.slice (some ⟨w.heap.size, 0, none⟩) n n) ∧ OwnI w' w.heap.size (.slice (some ⟨w.heap.size, 0, none⟩) n n) n f ∧ Below w.heap.size w w' := by
  have hmk := run_make_ints n hn
  have HF := Lib.hid h
  clear h
  go_enter Tryd.func23, Tryd.ntmps23
  go_wp2
  clear hmk
  go_loopg [4] n (fun m i wr => ∃ k : Nat, m + k = n ∧ i = .int .i64 k ∧ wr.rowIs w.heap.size 3 n (fun j => .int .i64 (if j < k then f j else 0)) ∧ Below w.heap.size w wr)
  case atStart => exact ⟨0, rfl, rfl, (World.rowIs_made w (.int .i64 0) n 3).congr fun j _ => by rw [if_neg (Nat.not_lt_zero _)], below_box _ _⟩
  case round =>
    obtain ⟨k, hk, rfl, hr, B⟩ := hrel
    have HK := Lib.hid hk
    have HW := Lib.hid hr
    have hkk : k ≤ n := by omega
    clear hk hr
    by_cases hlt : k < n
    · obtain ⟨bf, of, rfl, hbf, y0⟩ := HF.out.below B k hlt
      have z0 := HW.out.cell hlt
      have z1 := HW.out.frozen k
      have hk0 : (0 : Int) ≤ k := by omega
      have hk1 : (k : Int) < n := by omega
      go_wp2
      go_roundg (gk - 1)
      case measure => have := HK.out; omega
      case rel => exact ⟨k + 1, by have := HK.out; omega, by go_num, (HW.out.set k (.int .i64 (f k))).congr fun j _ => by
          by_cases e : j = k
          · subst e; rw [if_pos rfl, if_pos (by omega)]
          · rw [if_neg e]
            by_cases e2 : j < k
            · rw [if_pos e2, if_pos (by omega)]
            · rw [if_neg e2, if_neg (by omega)], B.setCell (Nat.le_refl _) _⟩
    · obtain rfl : k = n := by omega
      go_wp2
      go_ret
      exact ⟨rfl, rowIs_ownI (HW.out.congr fun j hj => by rw [if_pos hj]) (Nat.le_refl _) (by unfold maxLen; omega), B⟩

end Go.Proofs.YtdhdodmpfbgliaaDoor
