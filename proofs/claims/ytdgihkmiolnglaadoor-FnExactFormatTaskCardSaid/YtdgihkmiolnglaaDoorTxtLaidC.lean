/- The door's own world meets the condition on the tables alone. No condition. -/
import Derived.Test.YtdgihkmiolnglaaDoorTxtLaidB
namespace Go.Proofs.YtdgihkmiolnglaaDoor
open Go.RowKit Go.ChangeShapes

theorem metW_met3 (os : Os) (args : Array Value) : laidMetH Tryd.prog [("math/bits.deBruijn32tab", Rows.laid_math_bits_deBruijn32tab), ("math/bits.deBruijn64tab", Rows.laid_math_bits_deBruijn64tab), ("internal/strconv.uint64pow10", Rows.laid_internal_strconv_uint64pow10)] ((World.doorLaid Tryd.prog 400 os).forCall (fun _ _ => 0) ⟨#[], args, []⟩).memory :=
  laidMetH_of_parts3 (fuel := 8) (laidMet_of_run' 8 (by kernel_rfl) (by kernel_rfl)) (by kernel_rfl) (by kernel_rfl)

end Go.Proofs.YtdgihkmiolnglaaDoor
