/- Slices of jobs and of integers in memory; contract of spec.l3Best. Conditions: the slices hold what is said, at most 60 jobs. -/
import Derived.Test.YtdgihkmiolnglaaGreatDoorPlain
import Derived.Test.YtdgihkmiolnglaaGreatDoorDraw
import Derived.Deep.RegionHeld3
import Derived.Deep.LoopGhost
namespace Go.Proofs.YtdgihkmiolnglaaGreatDoor
open Go.RowKit

/-- A slice that holds these jobs. -/
def RowJ (w : World) (a : Option Addr) (js : List J4) : Prop :=
  ∀ k, k < js.length → ∃ b off, a = some ⟨b, off, none⟩ ∧ b < w.heap.size ∧
    w.cell? ⟨b, off + k * 4, none⟩ = some (.int .i64 (jb js k).1) ∧ w.cell? ⟨b, off + k * 4 + 1, none⟩ = some (.int .i64 (jb js k).2.1) ∧
    w.cell? ⟨b, off + k * 4 + 2, none⟩ = some (.int .i64 (jb js k).2.2.1) ∧ w.cell? ⟨b, off + k * 4 + 3, none⟩ = some (.int .i64 (jb js k).2.2.2)
/-- A slice that holds the first n values of f. -/
def IntF (w : World) (a : Option Addr) (n : Nat) (f : Nat → Int) : Prop :=
  ∀ k, k < n → ∃ b off, a = some ⟨b, off, none⟩ ∧ b < w.heap.size ∧ w.cell? ⟨b, off + k, none⟩ = some (.int .i64 (f k))
theorem RowJ.below {w w' : World} {a : Option Addr} {js : List J4} (h : RowJ w a js) (hb : Below w.heap.size w w') : RowJ w' a js := by
  intro k hk
  obtain ⟨b, off, ha, hlt, h0, h1, h2, h3⟩ := h k hk
  have hk := hb.block b hlt
  exact ⟨b, off, ha, Nat.lt_of_lt_of_le hlt hb.size, (World.cell?_of_block (w := w) (a := ⟨b, off + k * 4, none⟩) hk).trans h0, (World.cell?_of_block (w := w) (a := ⟨b, off + k * 4 + 1, none⟩) hk).trans h1,
    (World.cell?_of_block (w := w) (a := ⟨b, off + k * 4 + 2, none⟩) hk).trans h2, (World.cell?_of_block (w := w) (a := ⟨b, off + k * 4 + 3, none⟩) hk).trans h3⟩
theorem IntF.below {w w' : World} {a : Option Addr} {n : Nat} {f : Nat → Int} (h : IntF w a n f) (hb : Below w.heap.size w w') : IntF w' a n f := by
  intro k hk
  obtain ⟨b, off, ha, hlt, h0⟩ := h k hk
  exact ⟨b, off, ha, Nat.lt_of_lt_of_le hlt hb.size, (World.cell?_of_block (w := w) (a := ⟨b, off + k, none⟩) (hb.block b hlt)).trans h0⟩
/-- The index of the best job, or -1. -/
def optI : Option Nat → Int
  | none => -1
  | some b => b
theorem best_skip {rel left key : Nat → Nat} {now k : Nat} (h : ¬ (rel k ≤ now ∧ 0 < left k)) : best rel left key now (k + 1) = best rel left key now k := by
  simp only [best]
  cases best rel left key now k with
  | none => simp only; rw [if_neg h]
  | some b => simp only; rw [if_neg (by rintro ⟨h1, h2, _⟩; exact h ⟨h1, h2⟩)]
theorem best_first {rel left key : Nat → Nat} {now k : Nat} (h : best rel left key now k = none) (h1 : rel k ≤ now) (h2 : 0 < left k) : best rel left key now (k + 1) = some k := by
  simp only [best]
  rw [h]
  simp only
  rw [if_pos ⟨h1, h2⟩]
theorem best_yes {rel left key : Nat → Nat} {now k b : Nat} (h : best rel left key now k = some b) (h1 : rel k ≤ now) (h2 : 0 < left k) (h3 : key k < key b) : best rel left key now (k + 1) = some k := by
  simp only [best]
  rw [h]
  simp only
  rw [if_pos ⟨h1, h2, h3⟩]
theorem best_no {rel left key : Nat → Nat} {now k b : Nat} (h : best rel left key now k = some b) (h3 : ¬ key k < key b) : best rel left key now (k + 1) = some b := by
  simp only [best]
  rw [h]
  simp only
  rw [if_neg (by rintro ⟨_, _, h⟩; exact h3 h)]

end Go.Proofs.YtdgihkmiolnglaaGreatDoor
