/- Contract of spec.DeadlineMonotonic. Condition: the slice holds tasks, at most 2^40 of them. -/
import Derived.Test.YtlagghoohloklaaMem
import Derived.Test.YtlagghoohloklaaPlain
namespace Go.Proofs.Ytlagghoohloklaa
open Go.RowKit Go.Deep

/-- What DeadlineMonotonic returns. -/
def dmB' (ts : List T3) : List Int := if svB ts = true then dmO ts else []
/-- A list of integers was returned, in memory of its own. -/
def GotInts (base : Nat) (l : List Int) (e : Ending) (w' : World) : Prop := ∃ v, e = .returned v ∧ OwnI w' base v l.length (fun k => l.getD k 0)
theorem dmI_len (ts : List T3) (d : Nat) : ∀ i, (dmI ts d i).length ≤ i
  | 0 => Nat.le_refl _
  | i + 1 => by
    have := dmI_len ts d i
    simp only [dmI]
    split
    · simp; omega
    · omega
theorem dmD_len (ts : List T3) : ∀ d, (dmD ts d).length ≤ d * ts.length
  | 0 => by simp [dmD]
  | d + 1 => by
    have h1 := dmD_len ts d
    have h2 := dmI_len ts (d + 1) ts.length
    simp only [dmD, List.length_append]
    rw [Nat.succ_mul]
    omega
theorem vals_app' (l : List Int) (x : Int) : vals (fun k => (l ++ [x]).getD k 0) (l.length + 1) = vals (fun k => l.getD k 0) l.length ++ [.int .i64 x] := by
  rw [vals_succ]
  congr 1
  · simp only [vals]
    refine List.map_congr_left fun k hk => ?_
    have := List.mem_range.1 hk
    rw [List.getD_eq_getElem?_getD, List.getElem?_append_left this, ← List.getD_eq_getElem?_getD]
  · rw [List.getD_eq_getElem?_getD, List.getElem?_append_right (Nat.le_refl _), Nat.sub_self]
    rfl

end Go.Proofs.Ytlagghoohloklaa
