/- Contract of spec.Synchronous. Conditions: the slice's cells hold tasks; its length is at most 2^40. -/
import Derived.Test.YtdhdodmpfbgliaaDoorMem
import Derived.Test.YtdhdodmpfbgliaaDoorRunAll
namespace Go.Proofs.YtdhdodmpfbgliaaDoor
open Go.RowKit Go.Deep

/-- The synchronous pattern up to L; none for invalid arguments. -/
def syB (ts : List T3) (L : Int) : List J4 := if svB ts = true ∧ 0 ≤ L ∧ L ≤ 120 then sy ts L.toNat L.toNat else []
theorem news4D (w : World) (i r d e : Int) (t : TypeId) : ∀ (j : Nat) (u : Value), [Value.int .i64 i, .int .i64 r, .int .i64 d, .int .i64 e][j]? = some u → (w.alloc (.cells #[.int .i64 i, .int .i64 r, .int .i64 d, .int .i64 e] t)).drew.cell? ((⟨w.heap.size, 0, none⟩ : Addr).add j) = some u := news4 w i r d e t

end Go.Proofs.YtdhdodmpfbgliaaDoor
