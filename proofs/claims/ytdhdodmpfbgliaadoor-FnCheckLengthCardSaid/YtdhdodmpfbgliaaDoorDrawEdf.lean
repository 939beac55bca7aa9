/- Contracts of spec.DrawRunEdf and spec.DrawJobsLegal: a task set and a release pattern are drawn. What is drawn is not told, only its bounds. Condition: the argument is a slice of bytes. -/
import Derived.Test.YtdhdodmpfbgliaaDoorDrawJobs
import Derived.Test.YtdhdodmpfbgliaaDoorDrawSet
namespace Go.Proofs.YtdhdodmpfbgliaaDoor
open Go.RowKit Go.Deep

/-- A task set was drawn, not nil, and jobs. -/
def GotJobs (w : World) (e : Ending) (w' : World) : Prop :=
  ∃ (g cap jcap : Nat) (ja : Option Addr) (ts : List T3) (js : List J4), e = .returned (.tuple #[.slice (some ⟨g, 0, none⟩) ts.length cap, .slice ja js.length jcap]) ∧ ts.length ≤ 12 ∧ ts.length ≤ cap ∧ cap ≤ maxLen ∧ js.length ≤ 61 ∧
    Row w' (some ⟨g, 0, none⟩) ts ∧ OwnJ w' w.heap.size (.slice ja js.length jcap) js ∧ Below w.heap.size w w'

/-- spec.DrawRunEdf. -/
theorem drawRunEdf_any (a : Option Addr) (len cap : Nat) (w : World) (hb : Byts w a len cap) :
    Calls Tryd.prog 8 #[.slice a len cap] w (GotJobs w) := by
  obtain ⟨hb, hc, hm⟩ := hb
  have HB := Lib.hid hb
  clear hb
  go_enter Tryd.func8, Tryd.ntmps8
  go_wp2_with fail
  refine (l20Open_any _ _ _ _ HB.out hc hm).mono ?_
  rintro e w1 ⟨rfl, hr, hb1, hs1⟩
  have HR := Lib.hid hr
  clear hr
  go_wp2_with fail
  refine (l20Set_full w.heap.size 0 20 _ HR.out (by omega)).mono ?_
  rintro e w2 ⟨a2, cap2, ts, rfl, hlen, hlc, hcm, hrow, hg, hr2, ⟨g, rfl, hgg⟩, _⟩
  have HW := Lib.hid hrow
  have HR2 := Lib.hid hr2
  have hrl := hr2.lt
  have B2 : Below w.heap.size w w2 := hb1.trans (gb_to_below hg (Nat.le_refl _) hb1.size)
  clear hrow hr2
  have hgne : g ≠ w.heap.size := by have := HR.out.lt; omega
  by_cases hv : svB ts = true
  · go_wp2_with fail
    refine (specSetValid_any _ _ _ _ HW.out (by omega)).mono ?_
    rintro e w3 ⟨rfl, b3⟩
    have HW3 := Lib.hid (HW.out.below b3)
    have HR3 := Lib.hid (HR2.out.below b3)
    have hs2 := B2.size
    go_wp2_with fail
    refine (l20Jobs_any w.heap.size 200 g 0 cap2 16 ts _ HR3.out (by omega) HW3.out hgne hv).mono ?_
    rintro e w4 ⟨s, o, rfl, hjt, hol, _⟩
    have HT := Lib.hid hjt
    clear hjt
    obtain ⟨ja, jcap, rfl⟩ := HT.out.ow.shape
    go_wp2
    go_ret2
    have B3 : Below w.heap.size w w3 := B2.trans (b3.mono hs2)
    exact ⟨g, cap2, jcap, ja, ts, o, rfl, hlen, hlc, hcm, hol, HT.out.row HW3.out hgne, HT.out.ow.mono (by have := b3.size; omega), B3.trans (gb_to_below HT.out.gb (Nat.le_refl _) (by have := b3.size; omega))⟩
  · have hv' : svB ts = false := by simpa using hv
    go_wp2_with fail
    refine (specSetValid_any _ _ _ _ HW.out (by omega)).mono ?_
    rintro e w3 ⟨rfl, b3⟩
    have HW3 := Lib.hid (HW.out.below b3)
    rw [hv']
    clear hv hv'
    have hs2 := B2.size
    go_wp2
    go_ret2
    have B3 : Below w.heap.size w w3 := B2.trans (b3.mono hs2)
    exact ⟨g, cap2, 0, some ⟨w3.heap.size, 0, none⟩, ts, [], rfl, hlen, hlc, hcm, by simp, HW3.out.below (below_box _ _), (OwnJ.empty w3).mono (by have := b3.size; omega), B3.alloc (by have := b3.size; omega) _⟩

end Go.Proofs.YtdhdodmpfbgliaaDoor
