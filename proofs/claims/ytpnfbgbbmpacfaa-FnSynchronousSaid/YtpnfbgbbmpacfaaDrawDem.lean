/- Contract of spec.DrawDemand: a task set and an interval length are drawn. What is drawn is not told, only its bounds. Condition: the argument is a slice of bytes. -/
import Derived.Test.YtpnfbgbbmpacfaaDrawSet
namespace Go.Proofs.Ytpnfbgbbmpacfaa
open Go.RowKit

/-- Block b holds these numbers, and it is not the reader. -/
def Blk (w : World) (rb b : Nat) (vs : List Int) : Prop :=
  b ≠ rb ∧ b < w.heap.size ∧ ∀ (j : Nat) (v : Int), vs[j]? = some v → w.cell? ⟨b, j, none⟩ = some (.int .i64 v)
theorem Blk.grow {w w' : World} {rb b : Nat} {vs : List Int} (h : Blk w rb b vs) (hg : w.grownBy w' (some rb)) : Blk w' rb b vs :=
  ⟨h.1, Nat.lt_of_lt_of_le h.2.1 hg.size, fun j v hj => (gb_cell hg (p := ⟨b, j, none⟩) h.2.1 h.1).trans (h.2.2 j v hj)⟩
theorem Blk.new6 {w w' : World} {rb t : Nat} {a b c d e f : Int} (h : w.alloc (.cells #[.int .i64 a, .int .i64 b, .int .i64 c, .int .i64 d, .int .i64 e, .int .i64 f] t) = w') (hr : rb < w.heap.size) : Blk w' rb w.heap.size [a, b, c, d, e, f] := by
  subst h
  refine ⟨by omega, by simp, fun j v hj => ?_⟩
  have : j < 6 := by simpa using (List.getElem?_eq_some_iff.mp hj).1
  rcases (by omega : j = 0 ∨ j = 1 ∨ j = 2 ∨ j = 3 ∨ j = 4 ∨ j = 5) with rfl | rfl | rfl | rfl | rfl | rfl <;> simp at hj <;> subst hj <;> simp [go_sem]
theorem Blk.new3 {w w' : World} {rb t : Nat} {a b c : Int} (h : w.alloc (.cells #[.int .i64 a, .int .i64 b, .int .i64 c] t) = w') (hr : rb < w.heap.size) : Blk w' rb w.heap.size [a, b, c] := by
  subst h
  refine ⟨by omega, by simp, fun j v hj => ?_⟩
  have : j < 3 := by simpa using (List.getElem?_eq_some_iff.mp hj).1
  rcases (by omega : j = 0 ∨ j = 1 ∨ j = 2) with rfl | rfl | rfl <;> simp at hj <;> subst hj <;> simp [go_sem]
theorem gb_alloc' {a w w' : World} {rb : Nat} {o : Obj} (h : a.grownBy w (some rb)) (e : w.alloc o = w') : a.grownBy w' (some rb) := e ▸ gb_alloc h o
theorem gb_drew' {w w' : World} {rb : Nat} (e : w.drew = w') : w.grownBy w' (some rb) := e ▸ gb_drew (gb_refl _ _)
theorem Rd.alloc' {w w' : World} {rb p : Nat} {o : Obj} (h : Rd w rb p) (e : w.alloc o = w') : Rd w' rb p := e ▸ h.alloc o
theorem Rd.drew' {w w' : World} {rb p : Nat} (h : Rd w rb p) (e : w.drew = w') : Rd w' rb p := e ▸ h.drew
def sel6 (u : Int) : Int := if u = 4 then 1 else if u = 5 then 2 else 0
theorem sel6_lo (u : Int) : 0 ≤ sel6 u := by unfold sel6; split; omega; split <;> omega
theorem sel6_hi (u : Int) : sel6 u < 3 := by unfold sel6; split; omega; split <;> omega
theorem Blk.at6 {w : World} {rb b : Nat} (h : Blk w rb b [0, 0, 0, 0, 1, 2]) (u : Int) (h0 : 0 ≤ u) (h1 : u < 6) : w.cell? ⟨b, u.toNat, none⟩ = some (.int .i64 (sel6 u)) := by
  refine h.2.2 _ _ ?_
  rcases (by omega : u = 0 ∨ u = 1 ∨ u = 2 ∨ u = 3 ∨ u = 4 ∨ u = 5) with rfl | rfl | rfl | rfl | rfl | rfl <;> simp [sel6]
theorem Blk.at3 {w : World} {rb b : Nat} {x y z : Int} (h : Blk w rb b [x, y, z]) (u : Int) (h0 : 0 ≤ u) (h1 : u < 3) : w.cell? ⟨b, u.toNat, none⟩ = some (.int .i64 (sel3 u x y z)) := by
  refine h.2.2 _ _ ?_
  rcases (by omega : u = 0 ∨ u = 1 ∨ u = 2) with rfl | rfl | rfl <;> simp [sel3]
theorem sel3_in {u x y z lo hi : Int} (a1 : lo ≤ x) (a2 : x ≤ hi) (b1 : lo ≤ y) (b2 : y ≤ hi) (c1 : lo ≤ z) (c2 : z ≤ hi) : lo ≤ sel3 u x y z ∧ sel3 u x y z ≤ hi := by
  unfold sel3
  split
  · exact ⟨a1, a2⟩
  · split
    · exact ⟨b1, b2⟩
    · exact ⟨c1, c2⟩
/-- The drawn row is not the reader's block, whose first cell is a slice. -/
theorem Row.gb {w w' : World} {rb p g : Nat} {ts : List (Int × Int × Int)} (h : Row w (some ⟨g, 0, none⟩) ts) (hr : Rd w rb p) (hg : w.grownBy w' (some rb)) : Row w' (some ⟨g, 0, none⟩) ts := by
  cases ts with
  | nil => intro k t hk; simp at hk
  | cons t0 tl =>
    have hne : g ≠ rb := by
      rintro rfl
      obtain ⟨b, off, hbo, _, h0, _⟩ := h 0 t0 rfl
      obtain ⟨rfl, rfl⟩ : g = b ∧ 0 = off := by simpa using hbo
      obtain ⟨a, len, cap, q, _, _, _, _, h5, _⟩ := hr
      have := h0.symm.trans h5
      simp at this
    intro k t hk
    obtain ⟨b, off, hbo, hlt, h0, h1, h2⟩ := h k t hk
    obtain ⟨rfl, rfl⟩ : g = b ∧ 0 = off := by simpa using hbo
    exact ⟨g, 0, rfl, Nat.lt_of_lt_of_le hlt hg.size, (gb_cell hg (p := ⟨g, 0 + k * 3, none⟩) hlt hne).trans h0, (gb_cell hg (p := ⟨g, 0 + k * 3 + 1, none⟩) hlt hne).trans h1, (gb_cell hg (p := ⟨g, 0 + k * 3 + 2, none⟩) hlt hne).trans h2⟩

/-- A task set was drawn, not nil, and a length. -/
def GotAt (w : World) (e : Ending) (w' : World) : Prop :=
  ∃ (g cap : Nat) (ts : List (Int × Int × Int)) (x : Int), e = .returned (.tuple #[.slice (some ⟨g, 0, none⟩) ts.length cap, .int .i64 x]) ∧ -1 ≤ x ∧ x ≤ 1785 ∧ ts.length ≤ 12 ∧ ts.length ≤ cap ∧ cap ≤ maxLen ∧ Row w' (some ⟨g, 0, none⟩) ts ∧ Below w.heap.size w w'

end Go.Proofs.Ytpnfbgbbmpacfaa
