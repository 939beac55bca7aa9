/- Contract of laws.markTaskS: writing marks in a slice of one's own. Conditions: at most 2^20 tasks. -/
import Derived.Test.YtlcdmjcikbgnpaaCopy
import Derived.Test.YtlcdmjcikbgnpaaRead
import Derived.Deep.OwnRows
namespace Go.Proofs.Ytlcdmjcikbgnpaa
open Go.RowKit Go.Deep

end Go.Proofs.Ytlcdmjcikbgnpaa
