/- Contracts of spec.l3Missed and spec.Missed. Conditions: the slices hold what is said, at most 2^20 jobs. -/
import Derived.Test.YtdhdodmpfbgliaaDoorRunAll
namespace Go.Proofs.YtdhdodmpfbgliaaDoor
open Go.RowKit Go.Deep

/-- Job k is late: its deadline lies within the simulated time, and it is not finished by then. -/
def lateB (js : List J4) (f : Nat → Int) (k : Nat) : Bool := decide ((jb js k).2.2.1 ≤ 120) && (decide (f k < 0) || decide ((jb js k).2.2.1 < f k))
/-- The late ones among the first n jobs. -/
def lateL (js : List J4) (f : Nat → Int) : Nat → List Int
  | 0 => []
  | n + 1 => if lateB js f n then lateL js f n ++ [(n : Int)] else lateL js f n
theorem lateL_len (js : List J4) (f : Nat → Int) : ∀ n, (lateL js f n).length ≤ n
  | 0 => Nat.le_refl _
  | n + 1 => by
    simp only [lateL]
    have := lateL_len js f n
    split
    · simp; omega
    · omega
/-- A slice of its own that holds this list. -/
def OwnL (w : World) (base : Nat) (v : Value) (l : List Int) : Prop := OwnI w base v l.length (fun k => l.getD k 0)
theorem OwnL.push {w' : World} {base : Nat} {v' : Value} {l : List Int} {x : Int} (ho : w'.ownsRow base 3 1 v' (l.length + 1) (vals (fun k => l.getD k 0) l.length ++ [.int .i64 x])) : OwnL w' base v' (l ++ [x]) := by
  unfold OwnL OwnI
  have e : (l ++ [x]).length = l.length + 1 := by simp
  rw [e, vals_succ]
  have e1 : vals (fun k => (l ++ [x]).getD k 0) l.length = vals (fun k => l.getD k 0) l.length := by
    simp only [vals]
    refine List.map_congr_left fun k hk => ?_
    have hk' := List.mem_range.1 hk
    simp [List.getD, List.getElem?_append_left hk']
  have e2 : (l ++ [x]).getD l.length 0 = x := by simp [List.getD]
  rw [e1, e2]
  exact ho

theorem World.ownsRow_drewN {w : World} {base e size n : Nat} {v : Value} {xs : List Value} (h : w.ownsRow base e size v n xs) (m : Nat) : (w.drewN m).ownsRow base e size v n xs := h
theorem news1N (w : World) (c : Int) (t : TypeId) (m : Nat) : ∀ (j : Nat) (u : Value), [Value.int .i64 c][j]? = some u → ((w.drewN m).alloc (.cells #[.int .i64 c] t)).cell? ((⟨w.heap.size, 0, none⟩ : Addr).add j) = some u := news1 (w.drewN m) c t

end Go.Proofs.YtdhdodmpfbgliaaDoor
