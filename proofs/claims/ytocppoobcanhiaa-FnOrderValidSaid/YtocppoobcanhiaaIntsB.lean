/- More on slices of integers that a function has grown by itself: stores, several of them side by side. -/
import Derived.Test.YtocppoobcanhiaaInts
import Derived.Test.YtocppoobcanhiaaAppendAt
import Derived.OneCell
namespace Go.Proofs.Ytocppoobcanhiaa
open Go.RowKit Go.Deep

/-- Two values do not lie in the same block. -/
def Apart (u v : Value) : Prop := ∀ k, u.ownBlock = some k → v.ownBlock ≠ some k
theorem Apart.symm {u v : Value} (h : Apart u v) : Apart v u := fun k hv hu => h k hu hv
theorem Apart.nil (v : Value) : Apart (.slice none 0 0) v := fun k h => by simp [Value.ownBlock] at h
theorem gb_of_below {w w' : World} (hb : Below w.heap.size w w') (r : Option Nat) : w.grownBy w' r := ⟨hb.os, hb.tape, hb.output, hb.size, fun k hk _ => hb.block k hk⟩
theorem OwnI.lt {w : World} {base : Nat} {v : Value} {n : Nat} {f : Nat → Int} (h : OwnI w base v n f) : ∀ k, v.ownBlock = some k → base ≤ k ∧ k < w.heap.size := World.ownsRow.lt h
theorem OwnI.below {w w' : World} {base : Nat} {v : Value} {n : Nat} {f : Nat → Int} (h : OwnI w base v n f) (hb : Below w.heap.size w w') : OwnI w' base v n f :=
  World.ownsRow.kept h (gb_of_below hb none) (by cases e : v.ownBlock with
    | none => exact .inl rfl
    | some k => exact .inr (by simp))
theorem OwnI.alloc {w : World} {base : Nat} {v : Value} {n : Nat} {f : Nat → Int} (h : OwnI w base v n f) (o : Obj) : OwnI (w.alloc o) base v n f := h.below (below_box _ _)
theorem OwnI.drew {w : World} {base : Nat} {v : Value} {n : Nat} {f : Nat → Int} (h : OwnI w base v n f) : OwnI w.drew base v n f := h.below (Below.refl _ _).drew
theorem OwnI.grown {w w' : World} {base : Nat} {u v : Value} {n : Nat} {f : Nat → Int} (h : OwnI w base v n f) (hg : w.grownBy w' u.ownBlock) (ha : Apart v u) : OwnI w' base v n f :=
  World.ownsRow.kept h hg (by cases e : v.ownBlock with
    | none => exact .inl rfl
    | some k => exact .inr (fun h => ha k e h.symm))
theorem OwnI.other {w : World} {base : Nat} {v x : Value} {n : Nat} {f : Nat → Int} {a : Addr} (h : OwnI w base v n f) (ha : v.ownBlock ≠ some a.block) : OwnI (w.setCell a x) base v n f :=
  ownsRow_setCell_other h ha x
theorem OwnI.mono {w : World} {base base' : Nat} {v : Value} {n : Nat} {f : Nat → Int} (h : OwnI w base v n f) (hb : base' ≤ base) : OwnI w base' v n f := by
  obtain ⟨h1, h2 | ⟨g, cap, cur, h2, h3, h4⟩⟩ := h
  · exact ⟨h1, .inl h2⟩
  · exact ⟨h1, .inr ⟨g, cap, cur, h2, Nat.le_trans hb h3, h4⟩⟩
/-- Where it is not empty it has a block. -/
theorem OwnI.at {w : World} {base : Nat} {v : Value} {n : Nat} {f : Nat → Int} (h : OwnI w base v n f) (hn : 0 < n) : ∃ g cap, v = .slice (some ⟨g, 0, none⟩) n cap ∧ base ≤ g ∧ g < w.heap.size ∧ n ≤ cap ∧ (∀ k, w.frozen? ⟨g, k, none⟩ = false) ∧
    ∀ k, k < n → w.cell? ⟨g, k, none⟩ = some (.int .i64 (f k)) := by
  obtain ⟨_, ⟨_, rfl⟩ | ⟨g, cap, cur, rfl, h3, hb, hnc, hcm, hsz, hx⟩⟩ := h
  · omega
  · have hg : g < w.heap.size := (Array.getElem?_eq_some_iff.1 hb).1
    refine ⟨g, cap, rfl, h3, hg, hnc, fun k => by simp [World.frozen?, hb], fun k hk => ?_⟩
    rw [← vals_at f hk, ← hx, List.getElem?_take_of_lt (by omega), Array.getElem?_toList]
    simp [World.cell?, hb]
theorem vals_set (f : Nat → Int) (n k : Nat) (x : Int) (hk : k < n) : (vals f n).set k (.int .i64 x) = vals (fun j => if j = k then x else f j) n := by
  apply List.ext_getElem?
  intro j
  rw [List.getElem?_set, vals_len]
  by_cases hj : j < n
  · rw [vals_at _ hj, vals_at _ hj]
    by_cases e : k = j
    · subst e
      simp [hk]
    · simp [e, show ¬ j = k from fun h => e h.symm]
  · have h1 : (vals f n)[j]? = none := by rw [List.getElem?_eq_none_iff, vals_len]; omega
    have h2 : (vals (fun j => if j = k then x else f j) n)[j]? = none := by rw [List.getElem?_eq_none_iff, vals_len]; omega
    rw [h1, h2, if_neg (by omega)]
/-- A store into it. -/
theorem OwnI.set {w : World} {base g n cap k : Nat} {f : Nat → Int} (h : OwnI w base (.slice (some ⟨g, 0, none⟩) n cap) n f) (hk : k < n) (x : Int) :
    OwnI (w.setCell ⟨g, k, none⟩ (.int .i64 x)) base (.slice (some ⟨g, 0, none⟩) n cap) n (fun j => if j = k then x else f j) := by
  obtain ⟨h1, ⟨e, _⟩ | ⟨g', cap', cur, e, h3, hb, hnc, hcm, hsz, hx⟩⟩ := h
  · simp at e
  · simp only [Value.slice.injEq, Option.some.injEq, Addr.mk.injEq, and_true, true_and] at e
    obtain ⟨rfl, rfl⟩ := e
    refine ⟨by rw [vals_len, Nat.mul_one], .inr ⟨g, cap, cur.setIfInBounds k (.int .i64 x), rfl, h3, ?_, hnc, hcm, by simpa using hsz, ?_⟩⟩
    · simp [World.setCell, Array.getElem?_modify, hb]
    · rw [← vals_set f n k x hk, ← hx, Array.toList_setIfInBounds, List.take_set]

end Go.Proofs.Ytocppoobcanhiaa
