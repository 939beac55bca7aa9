/- What the exact walks keep: the reference's answer and the program's, two slices of integers in memory. -/
import Derived.Test.YtlcdmjcikbgnpaaMarkI
import Derived.Test.YtlcdmjcikbgnpaaMarkT
import Derived.Test.YtlcdmjcikbgnpaaCopyI
import Derived.Test.YtlcdmjcikbgnpaaCopy
namespace Go.Proofs.Ytlcdmjcikbgnpaa
open Go.RowKit Go.Deep

theorem OwnI.keep {w w' : World} {base : Nat} {v : Value} {n : Nat} {f : Nat → Int} (h : OwnI w base v n f) (e : ∀ k, v.ownBlock = some k → w'.heap[k]? = w.heap[k]?) : OwnI w' base v n f := by
  obtain ⟨h1, h2 | ⟨g, cap, cur, rfl, h3, h4, h5⟩⟩ := h
  · exact ⟨h1, .inl h2⟩
  · exact ⟨h1, .inr ⟨g, cap, cur, rfl, h3, (e g rfl).trans h4, h5⟩⟩
/-- The reference's answer v0 lies below block b0, the program's answer vg from block bg on; the copies of the arguments lie between. -/
structure XA (w W : World) (b0 bg n : Nat) (v0 vg : Value) (g h : Nat → Int) : Prop where
  o0 : OwnI W w.heap.size v0 n g
  l0 : ∀ k, v0.ownBlock = some k → k < b0
  og : OwnI W bg vg n h
  bl : Below w.heap.size w W
  e0 : w.heap.size ≤ b0
  e1 : b0 ≤ bg
variable {w W W' : World} {b0 bg n : Nat} {v0 vg : Value} {g h : Nat → Int}
theorem XA.below (x : XA w W b0 bg n v0 vg g h) (hb : Below W.heap.size W W') : XA w W' b0 bg n v0 vg g h :=
  ⟨x.o0.below hb, x.l0, x.og.below hb, x.bl.trans (hb.mono x.bl.size), x.e0, x.e1⟩
theorem XA.mark {row : Option Nat} (x : XA w W b0 bg n v0 vg g h) (hg : W.grownBy W' row) (hr : ∀ k, row = some k → b0 ≤ k ∧ k < bg) : XA w W' b0 bg n v0 vg g h :=
  ⟨x.o0.keep fun k hk => hg.block k (x.o0.lt k hk).2 (fun e => by have := hr k e.symm; have := x.l0 k hk; omega), x.l0, x.og.keep fun k hk => hg.block k (x.og.lt k hk).2 (fun e => by have := hr k e.symm; have := (x.og.lt k hk).1; omega),
    x.bl.grown hg x.bl.size fun k hk => by have := hr k hk; have := x.e0; omega, x.e0, x.e1⟩
theorem XA.own {h' : Nat → Int} (x : XA w W b0 bg n v0 vg g h) (hg : W.grownBy W' vg.ownBlock) (o : OwnI W' bg vg n h') : XA w W' b0 bg n v0 vg g h' :=
  ⟨x.o0.keep fun k hk => hg.block k (x.o0.lt k hk).2 (fun e => by have := (x.og.lt k e.symm).1; have := x.l0 k hk; have := x.e1; omega), x.l0, o,
    x.bl.grown hg x.bl.size fun k hk => by have := (x.og.lt k hk).1; have := x.e0; have := x.e1; omega, x.e0, x.e1⟩

end Go.Proofs.Ytlcdmjcikbgnpaa
