/- Slices of integers that a function has grown by itself; contract of spec.l3Deadlines. Conditions: the slice holds what is said, at most 60 jobs. -/
import Derived.Test.YtocppoobcanhiaaJobs
import Derived.Test.YtocppoobcanhiaaDrawSet
namespace Go.Proofs.Ytocppoobcanhiaa
open Go.RowKit Go.Deep

theorem intInfo : (Try.prog.info? 3).map (fun i => (i.zero, i.size, i.bytes)) = some (some (.int .i64 0), 1, 8) := by kernel_rfl
def vals (f : Nat → Int) (n : Nat) : List Value := (List.range n).map fun k => .int .i64 (f k)
theorem vals_len (f : Nat → Int) (n : Nat) : (vals f n).length = n := by simp [vals]
theorem vals_succ (f : Nat → Int) (n : Nat) : vals f (n + 1) = vals f n ++ [.int .i64 (f n)] := by simp [vals, List.range_succ]
theorem vals_at (f : Nat → Int) {n k : Nat} (h : k < n) : (vals f n)[k]? = some (.int .i64 (f k)) := by simp [vals, h]
/-- From block base on: a slice of its own that holds the first n values of f. -/
def OwnI (w : World) (base : Nat) (v : Value) (n : Nat) (f : Nat → Int) : Prop := w.ownsRow base 3 1 v n (vals f n)
theorem OwnI.intF {w : World} {base : Nat} {v : Value} {n : Nat} {f : Nat → Int} (h : OwnI w base v n f) : ∃ a cap, v = .slice a n cap ∧ IntF w a n f ∧ n ≤ cap ∧ cap ≤ maxLen := by
  obtain ⟨_, ⟨rfl, hn⟩ | ⟨g, cap, cur, rfl, _, hb, hnc, hcm, hsz, hx⟩⟩ := h
  · exact ⟨none, 0, by rw [hn], fun k hk => by omega, by omega, by simp [maxLen]⟩
  · refine ⟨some ⟨g, 0, none⟩, cap, rfl, fun k hk => ?_, hnc, hcm⟩
    have hg : g < w.heap.size := (Array.getElem?_eq_some_iff.1 hb).1
    refine ⟨g, 0, rfl, hg, ?_⟩
    rw [Nat.zero_add, ← vals_at f hk, ← hx, List.getElem?_take_of_lt (by omega), Array.getElem?_toList]
    simp [World.cell?, hb]
theorem OwnI.from {w : World} {base : Nat} {v : Value} {n : Nat} {f : Nat → Int} (h : OwnI w base v n f) : ∀ k, v.ownBlock = some k → base ≤ k := by
  intro k hk
  obtain ⟨_, ⟨rfl, _⟩ | ⟨g, cap, cur, rfl, hb, _⟩⟩ := h
  · simp [Value.ownBlock] at hk
  · simp only [Value.ownBlock, Option.some.injEq] at hk
    omega
theorem OwnI.empty (w : World) (f : Nat → Int) : OwnI (w.alloc (.cells #[] 3)) w.heap.size (.slice (some ⟨w.heap.size, 0, none⟩) 0 0) 0 f :=
  ⟨rfl, .inr ⟨w.heap.size, 0, #[], rfl, Nat.le_refl _, blk_alloc_new _ _, Nat.le_refl _, by simp [maxLen], rfl, rfl⟩⟩
theorem OwnI.nil (w : World) (base : Nat) (f : Nat → Int) : OwnI w base (.slice none 0 0) 0 f := ⟨rfl, .inl ⟨rfl, rfl⟩⟩
theorem OwnI.congr {w : World} {base : Nat} {v : Value} {n : Nat} {f f' : Nat → Int} (h : OwnI w base v n f) (e : ∀ k, k < n → f k = f' k) : OwnI w base v n f' := by
  have : vals f n = vals f' n := by
    simp only [vals]
    exact List.map_congr_left fun k hk => by rw [e k (List.mem_range.1 hk)]
  unfold OwnI at h ⊢
  rwa [← this]
theorem news1 (w : World) (c : Int) (t : TypeId) : ∀ (j : Nat) (u : Value), [Value.int .i64 c][j]? = some u → (w.alloc (.cells #[.int .i64 c] t)).cell? ((⟨w.heap.size, 0, none⟩ : Addr).add j) = some u := by
  intro j u hj
  match j, hj with
  | 0, hj => simp at hj; subst hj; simp [Addr.add, go_sem]
  | j + 1, hj => simp at hj
theorem one1 (c : Int) : ∀ u ∈ [Value.int .i64 c], u.oneCell' = true := by
  intro u hu
  simp at hu
  subst hu
  rfl

end Go.Proofs.Ytocppoobcanhiaa
