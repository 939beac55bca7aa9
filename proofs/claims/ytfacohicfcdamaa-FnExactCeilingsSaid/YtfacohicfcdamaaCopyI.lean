/- Contracts of the exact laws' helpers on schedules: laws.szIntS, szSchedule, toIntS, toSchedule. Conditions: the slices hold what is said; their lengths are at most 2^40. -/
import Derived.Test.YtfacohicfcdamaaMem
import Derived.Test.YtfacohicfcdamaaSame
namespace Go.Proofs.Ytfacohicfcdamaa
open Go.RowKit Go.Deep

end Go.Proofs.Ytfacohicfcdamaa
