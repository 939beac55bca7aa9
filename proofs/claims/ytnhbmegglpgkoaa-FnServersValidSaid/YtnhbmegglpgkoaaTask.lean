/- Contracts of the functions that look at one task: impl.TaskValid, impl.Task.valid, spec.TaskValid, spec.l1In, laws.toTask, laws.eqTask, laws.alive. Conditions: none beyond the kind of the arguments. -/
import Derived.Test.YtnhbmegglpgkoaaProg
import Derived.Test.YtnhbmegglpgkoaaPlain
import Derived.WalkKit
import Derived.WalkSpells
import Derived.Below
import Derived.Lib.Hide
namespace Go.Proofs.Ytnhbmegglpgkoaa
open Go.RowKit

def inB (n lo hi : Int) : Bool := decide (lo ≤ n ∧ n ≤ hi)

theorem ret_bool {a b : Bool} (h : a = b) : Ending.returned (.bool a) = .returned (.bool b) := by rw [h]
theorem below_box (w : World) (o : Obj) : Below w.heap.size w (w.alloc o) := (Below.refl _ _).alloc (Nat.le_refl _) _

/-- What lay below reads as it did. -/
theorem bcell {W w1 : World} (hb : Below W.heap.size W w1) : (∀ b o, b < W.heap.size → w1.cell? ⟨b, o, none⟩ = W.cell? ⟨b, o, none⟩) ∧ (∀ b o, b < W.heap.size → w1.frozen? ⟨b, o, none⟩ = W.frozen? ⟨b, o, none⟩) :=
  ⟨fun b o h => hb.cell (p := ⟨b, o, none⟩) h, fun b o h => hb.frozen (p := ⟨b, o, none⟩) h⟩

/-- impl.Task.valid. -/
theorem valid_any (c d p : Int) (w : World) :
    Calls Try.prog 49 #[.agg #[.int .i64 c, .int .i64 d, .int .i64 p]] w fun e w' =>
      e = .returned (.bool (tvB c d p)) ∧ Below w.heap.size w w' := by
  go_enter Try.func49, Try.ntmps49
  go_wp2
  all_goals (go_ret; exact ⟨ret_bool (by simp only [tvB]; rw [eq_comm]; first | (apply decide_eq_decide.2; omega) | (apply decide_eq_false; omega)), below_box _ _⟩)

/-- spec.l1In. -/
theorem l1In_any (n lo hi : Int) (w : World) :
    Calls Try.prog 22 #[.int .i64 n, .int .i64 lo, .int .i64 hi] w fun e w' =>
      e = .returned (.bool (inB n lo hi)) ∧ w = w' := by
  go_enter Try.func22, Try.ntmps22
  go_wp2
  all_goals (go_ret; exact ⟨ret_bool (by simp only [inB]; rw [eq_comm]; first | (apply decide_eq_decide.2; omega) | (apply decide_eq_false; omega)), rfl⟩)

/-- impl.TaskValid. -/
theorem taskValid_any (c d p : Int) (w : World) :
    Calls Try.prog 23 #[.agg #[.int .i64 c, .int .i64 d, .int .i64 p]] w fun e w' =>
      e = .returned (.bool (tvB c d p)) ∧ Below w.heap.size w w' := by
  go_enter Try.func23, Try.ntmps23
  go_wp2_with (go_at_call 49; refine (valid_any _ _ _ _).mono ?_; rintro e w' ⟨rfl, hb⟩)
  go_ret
  exact ⟨rfl, (below_box _ _).trans (hb.mono (by simp))⟩

/-- spec.TaskValid. -/
theorem specTaskValid_any (c d p : Int) (w : World) :
    Calls Try.prog 52 #[.agg #[.int .i64 c, .int .i64 d, .int .i64 p]] w fun e w' =>
      e = .returned (.bool (tvB c d p)) ∧ Below w.heap.size w w' := by
  go_enter Try.func52, Try.ntmps52
  go_wp2_with (go_at_call 22; refine (l1In_any _ _ _ _).mono ?_; rintro e w' ⟨rfl, rfl⟩)
  all_goals (go_ret; refine ⟨ret_bool ?_, below_box _ _⟩; simp only [inB, decide_eq_true_eq] at *; simp only [tvB]; rw [eq_comm]; first | (apply decide_eq_decide.2; omega) | (apply decide_eq_false; omega))

/-- laws.alive. -/
theorem alive_any (w : World) :
    Calls Try.prog 9 #[] w fun e w' => e = .returned (.bool true) ∧ Below w.heap.size w w' := by
  go_enter Try.func9, Try.ntmps9
  go_wp2_with (go_at_call 23; refine (taskValid_any _ _ _ _).mono ?_; rintro e w' ⟨rfl, hb⟩)
  go_ret
  exact ⟨rfl, hb⟩

end Go.Proofs.Ytnhbmegglpgkoaa
