/- Contracts of the small functions of the laws of chapter 3: laws.sameInts, sameJobs, sameSchedule (of equal arguments), ticks, contains. Conditions: the slices hold what is said; at most 2^20 elements. -/
import Derived.Test.YtilfmfhbdafogaaMem
import Derived.Test.YtilfmfhbdafogaaBase
namespace Go.Proofs.Ytilfmfhbdafogaa
open Go.RowKit Go.Deep

end Go.Proofs.Ytilfmfhbdafogaa
