/- The contract of impl.Utilization. Conditions: the slice's cells hold tasks; its length is at most 2^40. -/
import Derived.Test.YtlagghoohloklaaUtil
import Derived.Deep.RegionLaw
import Derived.Deep.RegionHeld3
namespace Go.Proofs.Ytlagghoohloklaa
open Go.RowKit

theorem frac_step {ts : List (Int × Int × Int)} {k H N D c q : Nat} {t : Int × Int × Int} (hlt : k < ts.length) (ht : t = ts[k]) (hc : c = cst t) (hq : q = per t) (hH : H = hyp ts) (hp : 1 ≤ q) (h : Frac N D (wrk H (ts.take k)) H) :
    Frac (rn (N * rd c q + rn c q * D) (D * rd c q)) (rd (N * rd c q + rn c q * D) (D * rd c q)) (wrk H (ts.take (k + 1))) H := by
  rw [take_succ hlt ht, wrk_snoc, ← hc, ← hq]
  exact h.step hp (by rw [hq, hH, ht]; exact per_dvd_hyp (List.getElem_mem hlt))

end Go.Proofs.Ytlagghoohloklaa
