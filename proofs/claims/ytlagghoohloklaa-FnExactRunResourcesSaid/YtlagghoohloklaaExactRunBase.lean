/- What the walk of laws.FnExactRunEdf keeps: the model's schedule and the program's, in memory. -/
import Derived.Test.YtlagghoohloklaaEdfImpl
import Derived.Test.YtlagghoohloklaaMark
import Derived.Test.YtlagghoohloklaaMarkI
import Derived.Test.YtlagghoohloklaaCopy
import Derived.Test.YtlagghoohloklaaExactThreeWalks
namespace Go.Proofs.Ytlagghoohloklaa
open Go.RowKit Go.Deep

/-- What the walk keeps: the model's schedule (its variable in block s0), the program's schedule (in block sg). -/
structure XR (w W : World) (s0 sg n m : Nat) (fr ff gr gf : Nat → Int) (r0 f0 rg fg : Option Addr) (c1 c2 c3 c4 b0 bg : Nat) : Prop where
  z0 : W.cell? ⟨s0, 0, none⟩ = some (.slice r0 n c1)
  z1 : W.cell? ⟨s0, 1, none⟩ = some (.slice f0 m c2)
  y0 : W.cell? ⟨sg, 0, none⟩ = some (.slice rg n c3)
  y1 : W.cell? ⟨sg, 1, none⟩ = some (.slice fg m c4)
  l0 : s0 < W.heap.size
  lg : sg < W.heap.size
  o1 : OwnI W b0 (.slice r0 n c1) n fr
  o2 : OwnI W b0 (.slice f0 m c2) m ff
  g1 : OwnI W bg (.slice rg n c3) n gr
  g2 : OwnI W bg (.slice fg m c4) m gf
  bl : Below w.heap.size w W
variable {w W W' : World} {s0 sg n m : Nat} {fr ff gr gf : Nat → Int} {r0 f0 rg fg : Option Addr} {c1 c2 c3 c4 b0 bg : Nat}
theorem XR.below (h : XR w W s0 sg n m fr ff gr gf r0 f0 rg fg c1 c2 c3 c4 b0 bg) (hb : Below W.heap.size W W') : XR w W' s0 sg n m fr ff gr gf r0 f0 rg fg c1 c2 c3 c4 b0 bg :=
  ⟨(hb.cell (p := ⟨s0, 0, none⟩) h.l0).trans h.z0, (hb.cell (p := ⟨s0, 1, none⟩) h.l0).trans h.z1, (hb.cell (p := ⟨sg, 0, none⟩) h.lg).trans h.y0, (hb.cell (p := ⟨sg, 1, none⟩) h.lg).trans h.y1,
    Nat.lt_of_lt_of_le h.l0 hb.size, Nat.lt_of_lt_of_le h.lg hb.size, h.o1.below hb, h.o2.below hb, h.g1.below hb, h.g2.below hb, h.bl.trans (hb.mono h.bl.size)⟩
theorem XR.mark {row : Option Nat} (h : XR w W s0 sg n m fr ff gr gf r0 f0 rg fg c1 c2 c3 c4 b0 bg) (hg : W.grownBy W' row) (hr : ∀ k, row = some k → s0 < k ∧ k < bg ∧ k ≠ sg ∧ w.heap.size ≤ k)
    (hlo : ∀ k, (Value.slice r0 n c1).ownBlock = some k ∨ (Value.slice f0 m c2).ownBlock = some k → k < s0) : XR w W' s0 sg n m fr ff gr gf r0 f0 rg fg c1 c2 c3 c4 b0 bg := by
  have hn0 : ∀ j, some (⟨s0, j, none⟩ : Addr).block ≠ row := fun j e => by have := hr s0 e.symm; omega
  have hng : ∀ j, some (⟨sg, j, none⟩ : Addr).block ≠ row := fun j e => (hr sg e.symm).2.2.1 rfl
  have kept : ∀ {v : Value} {k : Nat} {b : Nat} {f : Nat → Int}, OwnI W b v k f → (∀ i, v.ownBlock = some i → row ≠ some i) → OwnI W' b v k f := fun {v} {k} {b} {f} ho hne =>
    World.ownsRow.kept ho hg (by cases e : v.ownBlock with
      | none => exact .inl rfl
      | some i => exact .inr (fun h2 => hne i e h2.symm))
  exact ⟨hg.cell h.z0 (hn0 0), hg.cell h.z1 (hn0 1), hg.cell h.y0 (hng 0), hg.cell h.y1 (hng 1), Nat.lt_of_lt_of_le h.l0 hg.size, Nat.lt_of_lt_of_le h.lg hg.size,
    kept h.o1 fun i e e2 => by have := hlo i (.inl e); have := hr i e2; omega,
    kept h.o2 fun i e e2 => by have := hlo i (.inr e); have := hr i e2; omega,
    kept h.g1 fun i e e2 => by have := (h.g1.lt i e).1; have := hr i e2; omega,
    kept h.g2 fun i e e2 => by have := (h.g2.lt i e).1; have := hr i e2; omega,
    h.bl.grown hg h.bl.size fun k hk => (hr k hk).2.2.2⟩

end Go.Proofs.Ytlagghoohloklaa
