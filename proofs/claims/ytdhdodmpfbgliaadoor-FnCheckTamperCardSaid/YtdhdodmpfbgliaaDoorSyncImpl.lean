/- Contract of impl.Synchronous. Conditions: the slice's cells hold tasks; its length is at most 2^40. -/
import Derived.Test.YtdhdodmpfbgliaaDoorSyncSpec
namespace Go.Proofs.YtdhdodmpfbgliaaDoor
open Go.RowKit Go.Deep

end Go.Proofs.YtdhdodmpfbgliaaDoor
