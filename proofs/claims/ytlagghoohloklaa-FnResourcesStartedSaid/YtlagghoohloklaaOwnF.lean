/- Slices of one's own whose cells are told by a function: reading, storing, appending, surviving. No function is walked. No condition beyond those that each theorem names. -/
import Derived.Test.YtlagghoohloklaaMem
namespace Go.Proofs.Ytlagghoohloklaa
open Go.RowKit Go.Deep

/-- The first m cells as F tells them. -/
def vF (F : Nat → Value) (m : Nat) : List Value := (List.range m).map F
theorem vF_len (F : Nat → Value) (m : Nat) : (vF F m).length = m := by simp [vF]
theorem vF_at (F : Nat → Value) {m k : Nat} (h : k < m) : (vF F m)[k]? = some (F k) := by simp [vF, h]
theorem vF_congr {F G : Nat → Value} {m : Nat} (e : ∀ k, k < m → F k = G k) : vF F m = vF G m := List.map_congr_left fun k hk => e k (List.mem_range.1 hk)
theorem vF_add (F : Nat → Value) (m s : Nat) : vF F (m + s) = vF F m ++ (List.range s).map fun c => F (m + c) := by
  unfold vF
  rw [List.range_add, List.map_append, List.map_map]
  rfl
/-- From block base on: a slice of its own, n entries of size cells each, of elements of type t. -/
def OwnF (t : TypeId) (size : Nat) (w : World) (base : Nat) (v : Value) (n : Nat) (F : Nat → Value) : Prop := w.ownsRow base t size v n (vF F (n * size))
variable {t : TypeId} {size : Nat} {w w' : World} {base base' : Nat} {v v' u x : Value} {n g cap k m : Nat} {F G : Nat → Value}
theorem OwnF.lt (h : OwnF t size w base v n F) : ∀ k, v.ownBlock = some k → base ≤ k ∧ k < w.heap.size := World.ownsRow.lt h
theorem OwnF.congr (h : OwnF t size w base v n F) (e : ∀ k, k < n * size → F k = G k) : OwnF t size w base v n G := by
  unfold OwnF at h ⊢
  rw [← vF_congr e]
  exact h
theorem OwnF.mono (h : OwnF t size w base v n F) (hb : base' ≤ base) : OwnF t size w base' v n F := by
  obtain ⟨h1, h2 | ⟨g, cap, cur, h2, h3, h4⟩⟩ := h
  · exact ⟨h1, .inl h2⟩
  · exact ⟨h1, .inr ⟨g, cap, cur, h2, Nat.le_trans hb h3, h4⟩⟩
theorem OwnF.below (h : OwnF t size w base v n F) (hb : Below w.heap.size w w') : OwnF t size w' base v n F :=
  World.ownsRow.kept h (gb_of_below hb none) (by cases e : v.ownBlock with
    | none => exact .inl rfl
    | some k => exact .inr (by simp))
theorem OwnF.grown (h : OwnF t size w base v n F) (hg : w.grownBy w' u.ownBlock) (ha : Apart v u) : OwnF t size w' base v n F :=
  World.ownsRow.kept h hg (by cases e : v.ownBlock with
    | none => exact .inl rfl
    | some k => exact .inr (fun h => ha k e h.symm))
theorem OwnF.other {a : Addr} (h : OwnF t size w base v n F) (ha : v.ownBlock ≠ some a.block) (x : Value) : OwnF t size (w.setCell a x) base v n F := ownsRow_setCell_other h ha x
theorem OwnF.empty (t : TypeId) (size : Nat) (w : World) (F : Nat → Value) : OwnF t size (w.alloc (.cells #[] t)) w.heap.size (.slice (some ⟨w.heap.size, 0, none⟩) 0 0) 0 F :=
  ⟨by simp [vF], .inr ⟨w.heap.size, 0, #[], rfl, Nat.le_refl _, blk_alloc_new _ _, Nat.le_refl _, by simp [maxLen], by simp, by simp [vF]⟩⟩
theorem OwnF.nil (t : TypeId) (size : Nat) (w : World) (base : Nat) (F : Nat → Value) : OwnF t size w base (.slice none 0 0) 0 F := ⟨by simp [vF], .inl ⟨rfl, rfl⟩⟩
theorem OwnF.push (ho : w'.ownsRow base t size v' (n + 1) (vF F (n * size) ++ (List.range size).map fun c => G (n * size + c))) (e : ∀ k, k < n * size → F k = G k) : OwnF t size w' base v' (n + 1) G := by
  unfold OwnF
  rw [Nat.add_mul, Nat.one_mul, vF_add, ← vF_congr e]
  exact ho
theorem OwnF.at (h : OwnF t size w base (.slice (some ⟨g, 0, none⟩) n cap) n F) : g < w.heap.size ∧ base ≤ g ∧ n ≤ cap ∧ (∀ k, w.frozen? ⟨g, k, none⟩ = false) ∧ ∀ k, k < n * size → w.cell? ⟨g, k, none⟩ = some (F k) := by
  obtain ⟨_, ⟨e, _⟩ | ⟨g', cap', cur, e, h3, hb, hnc, hcm, hsz, hx⟩⟩ := h
  · simp at e
  · simp only [Value.slice.injEq, Option.some.injEq, Addr.mk.injEq, and_true, true_and] at e
    obtain ⟨rfl, rfl⟩ := e
    have hg : g < w.heap.size := (Array.getElem?_eq_some_iff.1 hb).1
    refine ⟨hg, h3, hnc, fun k => by simp [World.frozen?, hb], fun k hk => ?_⟩
    rw [← vF_at F hk, ← hx, List.getElem?_take_of_lt (by omega), Array.getElem?_toList]
    simp [World.cell?, hb]
theorem OwnF.has (h : OwnF t size w base v n F) (hn : 0 < n) : ∃ g cap, v = .slice (some ⟨g, 0, none⟩) n cap := by
  obtain ⟨_, ⟨rfl, e⟩ | ⟨g, cap, cur, rfl, _⟩⟩ := h
  · omega
  · exact ⟨_, _, rfl⟩
theorem OwnF.set (h : OwnF t size w base (.slice (some ⟨g, 0, none⟩) n cap) n F) (hm : m < n * size) (x : Value) : OwnF t size (w.setCell ⟨g, m, none⟩ x) base (.slice (some ⟨g, 0, none⟩) n cap) n (fun j => if j = m then x else F j) := by
  obtain ⟨h1, ⟨e, _⟩ | ⟨g', cap', cur, e, h3, hb, hnc, hcm, hsz, hx⟩⟩ := h
  · simp at e
  · simp only [Value.slice.injEq, Option.some.injEq, Addr.mk.injEq, and_true, true_and] at e
    obtain ⟨rfl, rfl⟩ := e
    refine ⟨by rw [vF_len], .inr ⟨g, cap, cur.setIfInBounds m x, rfl, h3, ?_, hnc, hcm, by simpa using hsz, ?_⟩⟩
    · simp [World.setCell, Array.getElem?_modify, hb]
    · rw [Array.toList_setIfInBounds, List.take_set, hx]
      apply List.ext_getElem?
      intro j
      rw [List.getElem?_set, vF_len]
      by_cases hj : j < n * size
      · rw [vF_at _ hj, vF_at _ hj]
        by_cases e : m = j
        · subst e
          simp [hm]
        · simp [e, show ¬ j = m from fun h => e h.symm]
      · have z1 : (vF F (n * size))[j]? = none := by rw [List.getElem?_eq_none_iff, vF_len]; omega
        have z2 : (vF (fun j => if j = m then x else F j) (n * size))[j]? = none := by rw [List.getElem?_eq_none_iff, vF_len]; omega
        rw [z1, z2, if_neg (by omega)]

end Go.Proofs.Ytlagghoohloklaa
