/- Contract of spec.DrawRunFixed: a task set, an order and a release pattern are drawn. What is drawn is not told, only its bounds. Condition: the argument is a slice of bytes. -/
import Derived.Test.YtlkibehieekceaaDrawJobs
import Derived.Test.YtlkibehieekceaaDrawOrd
import Derived.Test.YtlkibehieekceaaDrawSet
namespace Go.Proofs.Ytlkibehieekceaa
open Go.RowKit Go.Deep

/-- A task set was drawn, not nil, an order and jobs. -/
def GotFix (w : World) (e : Ending) (w' : World) : Prop :=
  ∃ (g cap og ocap jcap : Nat) (ja : Option Addr) (ts : List T3) (os : List Int) (js : List J4), e = .returned (.tuple #[.slice (some ⟨g, 0, none⟩) ts.length cap, .slice (some ⟨og, 0, none⟩) os.length ocap, .slice ja js.length jcap]) ∧ ts.length ≤ 12 ∧ ts.length ≤ cap ∧ cap ≤ maxLen ∧ os.length ≤ 13 ∧ os.length ≤ ocap ∧ js.length ≤ 61 ∧
    Row w' (some ⟨g, 0, none⟩) ts ∧ OwnI w' w.heap.size (.slice (some ⟨og, 0, none⟩) os.length ocap) os.length (fun k => os.getD k 0) ∧ OwnJ w' w.heap.size (.slice ja js.length jcap) js ∧ Below w.heap.size w w'

/-- spec.DrawRunFixed. -/
theorem drawRunFixed_any (a : Option Addr) (len cap : Nat) (w : World) (hb : Byts w a len cap) :
    Calls Try.prog 38 #[.slice a len cap] w (GotFix w) := by
  obtain ⟨hb, hc, hm⟩ := hb
  have HB := Lib.hid hb
  clear hb
  go_enter Try.func38, Try.ntmps38
  go_wp2_with fail
  refine (l20Open_any _ _ _ _ HB.out hc hm).mono ?_
  rintro e w1 ⟨rfl, hr, hb1, hs1⟩
  have HR := Lib.hid hr
  clear hr
  go_wp2_with fail
  refine (l20Set_full w.heap.size 0 24 _ HR.out (by omega)).mono ?_
  rintro e w2 ⟨a2, cap2, ts, rfl, hlen, hlc, hcm, hrow, hg, hr2, ⟨g, rfl, hgg⟩, -⟩
  have HW := Lib.hid hrow
  have HR2 := Lib.hid hr2
  have hrl := hr2.lt
  have B2 : Below w.heap.size w w2 := hb1.trans (gb_to_below hg (Nat.le_refl _) hb1.size)
  clear hrow hr2
  have hgne : g ≠ w.heap.size := by have := HR.out.lt; omega
  go_wp2_with fail
  refine (l20Order_any w.heap.size 200 ts.length 16 _ HR2.out (by omega) hlen).mono ?_
  rintro e w3 ⟨og, n, ocap, rfl, hot, hn', hnc⟩
  obtain ⟨f, hf⟩ := hot.ow
  have OL := Lib.hid (own_list hf)
  have HT := Lib.hid hot
  have hs2 := B2.size
  have hs3 := hot.gb.size
  have B3 : Below w.heap.size w w3 := B2.trans (gb_to_below hot.gb (Nat.le_refl _) hs2)
  have HW3 := Lib.hid (row_grown HW.out hot.gb hgne)
  clear hot hf
  have hll : ((List.range n).map f).length = n := by simp
  obtain ⟨os, hos⟩ : ∃ os, os = (List.range n).map f := ⟨_, rfl⟩
  rw [← hos] at hll OL
  clear hos
  subst hll
  by_cases hv : svB ts = true
  · go_wp2_with fail
    refine (specSetValid_any _ _ _ _ HW3.out (by omega)).mono ?_
    rintro e w4 ⟨rfl, b4⟩
    have HW4 := Lib.hid (HW3.out.below b4)
    have HR4 := Lib.hid (HT.out.rd.below b4)
    have hs4 := b4.size
    go_wp2_with fail
    refine (l20Jobs_any w.heap.size (200 + 50) g 0 cap2 16 ts _ HR4.out (by omega) HW4.out hgne hv).mono ?_
    rintro e w5 ⟨s, o, rfl, hjt, hol, -⟩
    have HJ := Lib.hid hjt
    clear hjt
    obtain ⟨ja, jcap, rfl⟩ := HJ.out.ow.shape
    go_wp2
    go_ret3
    have B4 : Below w.heap.size w w4 := B3.trans (b4.mono (by omega))
    refine ⟨g, cap2, og, ocap, jcap, ja, ts, os, o, rfl, hlen, hlc, hcm, by omega, hnc, hol, HJ.out.row HW4.out hgne, ?_, HJ.out.ow.mono (by omega), B4.trans (gb_to_below HJ.out.gb (Nat.le_refl _) (by omega))⟩
    have h1 := OL.out.below b4
    have h2 := h1.lt og rfl
    exact OwnI.mono (World.ownsRow.kept h1 HJ.out.gb (.inr (by simp only [Value.ownBlock, ne_eq, Option.some.injEq]; omega))) hs2
  · have hv' : svB ts = false := by simpa using hv
    go_wp2_with fail
    refine (specSetValid_any _ _ _ _ HW3.out (by omega)).mono ?_
    rintro e w4 ⟨rfl, b4⟩
    have HW4 := Lib.hid (HW3.out.below b4)
    rw [hv']
    clear hv hv'
    have hs4 := b4.size
    go_wp2
    go_ret3
    have B4 : Below w.heap.size w w4 := B3.trans (b4.mono (by omega))
    exact ⟨g, cap2, og, ocap, 0, some ⟨w4.heap.size, 0, none⟩, ts, os, [], rfl, hlen, hlc, hcm, by omega, hnc, by simp, HW4.out.below (below_box _ _), ((OL.out.below b4).alloc _).mono hs2, (OwnJ.empty w4).mono (by omega), B4.alloc (by omega) _⟩

end Go.Proofs.Ytlkibehieekceaa
