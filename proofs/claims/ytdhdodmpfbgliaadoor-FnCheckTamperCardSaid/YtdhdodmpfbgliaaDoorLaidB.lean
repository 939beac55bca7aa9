/- What the rows' condition on errors.errorType gives a walk, and a world that meets it. No condition. -/
import Derived.Test.YtdhdodmpfbgliaaDoorRows
import Derived.Test.YtdhdodmpfbgliaaDoorErrF
import Derived.ChangeSame
import Derived.ChangeVars
import Derived.JoinedOf
import Derived.LaidLaws
import Derived.LaidHandle
import Derived.Stop.Joined
import Derived.SevenTiedAt
namespace Go.Proofs.YtdhdodmpfbgliaaDoor
open Go.RowKit

theorem la_et : Tryd.prog.globalNamed "errors.errorType" = some 0 := by kernel_rfl

theorem la_rt : (Tryd.prog.cutTypes.find? (·.1 == "internal/reflectlite.rtype")).map (·.2) = some 128 := by kernel_rfl

theorem la_one : ((List.range Tryd.prog.types.size).filter fun t => Tryd.prog.rowNamed t [101, 114, 114, 111, 114]) = [65] := by kernel_rfl

theorem la_hdl : typeHandle Tryd.prog 65 = .pointer (some ⟨1, 65, none⟩) := by kernel_rfl

/-- The rows' condition gives the variable's cell. -/
theorem errG_of {W : World} (h : laidMetH Tryd.prog [("errors.errorType", Rows.laid_errors_errorType)] W) : ErrG W := by
  have hh : handlesMet Tryd.prog [("errors.errorType", Rows.laid_errors_errorType)] W := (show laidMet Tryd.prog [] W ∧ handlesMet Tryd.prog [("errors.errorType", Rows.laid_errors_errorType)] W from h).2
  obtain ⟨nm, u, t, h1, h2, h3, h4, h5⟩ := hh _ (List.mem_singleton.2 rfl)
  have hn : nm = [101, 114, 114, 111, 114] := (Option.some.inj h1).symm
  rw [hn] at h4
  have ht : t ∈ [65] := by rw [← la_one]; exact List.mem_filter.2 ⟨List.mem_range.2 h3, h4⟩
  rw [List.mem_singleton] at ht
  have hu : u = 128 := (Option.some.inj (la_rt.symm.trans h2)).symm
  rw [ht, hu, la_hdl] at h5
  have := World.var?_cell la_et h5 0
  unfold ErrG
  simpa using this

/-- A world that meets the condition: the settled one, the variable's cell laid. -/
noncomputable def metW (os : Os) : World :=
  { World.holding Tryd.prog os ⟨#[], #[], []⟩ with heap := (World.holding Tryd.prog os ⟨#[], #[], []⟩).heap.modify 0 fun
      | .cells _ t z => .cells #[.iface 128 (.agg #[.pointer (some ⟨1, 65, none⟩)])] t z
      | o => o }

theorem metW_met (os : Os) (args : Array Value) : laidMetH Tryd.prog [("errors.errorType", Rows.laid_errors_errorType)] ((metW os).forCall (fun _ _ => 0) ⟨#[], args, []⟩).memory :=
  laidMetH_of_parts (laidMet_nil _ _) (by kernel_rfl)

end Go.Proofs.YtdhdodmpfbgliaaDoor
