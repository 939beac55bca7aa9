/- A world in which a block holds a fraction and a slice holds tasks. -/
import Derived.Test.YtnpgndeoakignaaHyper
namespace Go.Proofs.Ytnpgndeoakignaa
open Go.RowKit

/-- Block ub holds the fraction N/D; the slice a holds the tasks ts; since w only new memory has turned. -/
structure Ut (w : World) (a : Option Addr) (ts : List (Int × Int × Int)) (ub N D : Nat) (wr : World) : Prop where
  b : Below w.heap.size w wr
  r : Row wr a ts
  lt : ub < wr.heap.size
  c0 : wr.cell? ⟨ub, 0, none⟩ = some (.int .i64 N)
  c1 : wr.cell? ⟨ub, 1, none⟩ = some (.int .i64 D)
theorem Ut.below {w wr w' : World} {a : Option Addr} {ts : List (Int × Int × Int)} {ub N D : Nat} (h : Ut w a ts ub N D wr) (hb : Below wr.heap.size wr w') : Ut w a ts ub N D w' :=
  ⟨h.b.trans (hb.mono h.b.size), h.r.below hb, Nat.lt_of_lt_of_le h.lt hb.size, (hb.cell (p := ⟨ub, 0, none⟩) h.lt).trans h.c0, (hb.cell (p := ⟨ub, 1, none⟩) h.lt).trans h.c1⟩
theorem Ut.drewN {w wr : World} {a : Option Addr} {ts : List (Int × Int × Int)} {ub N D : Nat} (h : Ut w a ts ub N D wr) (n : Nat) : Ut w a ts ub N D (wr.drewN n) := h.below (below_drewN _ _)
end Go.Proofs.Ytnpgndeoakignaa
