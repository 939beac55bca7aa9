/- Contracts of spec.Partition and spec.MinCores. Conditions: the slices hold what is said; at most 2^40 tasks. -/
import Derived.Test.YtdgihkmiolnglaaGreatDoorPartSearch
namespace Go.Proofs.YtdgihkmiolnglaaGreatDoor
open Go.RowKit Go.Deep

/-- A search from nothing. -/
theorem search_any (a : Option Addr) (cap n : Nat) (ts : List T3) (hv : svB ts = true) (hn : n ≤ 5) (w : World) (hr : Row w a ts) :
    Calls Tryz.prog 63 #[.slice a ts.length cap, .int .i64 (n : Int), .slice (some ⟨w.heap.size, 0, none⟩) 0 0] (w.alloc (.cells #[] 3)) fun e w' => GotSr (part ts n) e w' ∧ Below w.heap.size w w' :=
  (l7Search_any a cap n ts hv hn ts.length [] w.heap.size 0 0 (w.alloc (.cells #[] 3)) (hr.below (below_box _ _)) (intF_none _ _ _) (by simp) (by simp) (by simp) (fun _ hk => absurd hk (by simp))).mono fun _ _ ⟨h1, h2⟩ => ⟨h1, (below_box w _).trans (h2.mono (by simp))⟩

/-- What spec.MinCores answers. -/
def mcO (ts : List T3) : Nat := if svB ts = true then mcN ts else 0
theorem mcN_is {ts : List T3} (hv : svB ts = true) {c : Nat} (h1 : 1 ≤ c) (_ : c ≤ 5) (hno : ∀ d, 1 ≤ d → d < c → part ts d = none) (hc : c = 5 ∨ (part ts c).isSome = true) : mcN ts = c := by
  obtain ⟨m1, m2, ⟨r, hr⟩, m4⟩ := mcN_part hv
  rcases Nat.lt_trichotomy (mcN ts) c with h | h | h
  · have := hno _ m1 h
    rw [hr] at this
    simp at this
  · exact h
  · have := m4 c h1 h
    rcases hc with e | e
    · omega
    · rw [this] at e
      simp at e

set_option maxRecDepth 100000 in
set_option maxHeartbeats 2000000 in
/-- spec.MinCores. -/
theorem specMinCores_any (a : Option Addr) (cap : Nat) (ts : List T3) (w : World) (hr : Row w a ts) (hn : ts.length ≤ 1099511627776) :
    Calls Tryz.prog 36 #[.slice a ts.length cap] w fun e w' => e = .returned (.int .i64 (mcO ts : Nat)) ∧ Below w.heap.size w w' := by
  have HR := Lib.hid hr
  clear hr
  go_enter Tryz.func36, Tryz.ntmps36
  go_wp2_with fail
  refine (specSetValid_any _ _ ts _ HR.out hn).mono ?_
  rintro e w1 ⟨rfl, b1⟩
  have B1 := Lib.hid b1
  have HR1 := Lib.hid (HR.out.below b1)
  clear b1
  cases hs : svB ts with
  | false =>
    have HN := Lib.hid (show mcO ts = 0 from if_neg (by rw [hs]; simp))
    clear hs
    go_wp2
    go_ret
    exact ⟨by rw [HN.out]; rfl, B1.out⟩
  | true =>
    have HS := Lib.hid hs
    have HM := Lib.hid (show mcO ts = mcN ts from if_pos hs)
    clear hs
    go_wp2
    go_loopg [3] 4 (fun q z wr => ∃ c : Nat, q + c = 5 ∧ 1 ≤ c ∧ z = .int .i64 c ∧ (∀ d, 1 ≤ d → d < c → part ts d = none) ∧ Below w.heap.size w wr)
    case atStart => exact ⟨1, rfl, by omega, rfl, fun d h1 h2 => by omega, B1.out⟩
    case round =>
      obtain ⟨c, hq, hc1, rfl, hall, B⟩ := hrel
      have HQ := Lib.hid hq
      have HA := Lib.hid hall
      have HB := Lib.hid B
      have hc5 : c ≤ 5 := by omega
      clear hq hall B
      by_cases hlt : c < 5
      · have hlt' : (c : Int) < 5 := by omega
        have HC := Lib.hid (search_any a cap c ts HS.out (by omega) wr (HR.out.below HB.out))
        go_wp2_with fail
        refine HC.out.mono ?_
        rintro e w2 ⟨⟨va, vc, rfl, -⟩, b2⟩
        have HB2 := Lib.hid (HB.out.trans (b2.mono HB.out.size))
        clear b2 HC
        cases hp : part ts c with
        | none =>
          have HP := Lib.hid hp
          simp only [Option.getD_none, List.length_nil, Option.isSome_none]
          clear hp
          go_wp2
          go_roundg (gk - 1)
          case measure => have := HQ.out; omega
          case rel => exact ⟨c + 1, by have := HQ.out; omega, by omega, by go_num, fun d h1 h2 => by
              by_cases e : d = c
              · subst e; exact HP.out
              · exact HA.out d h1 (by omega), HB2.out⟩
        | some r =>
          have HMC := Lib.hid (mcN_is HS.out hc1 hc5 HA.out (.inr (by rw [hp]; rfl)))
          simp only [Option.getD_some, Option.isSome_some]
          clear hp
          go_wp2
          go_ret
          exact ⟨by rw [HM.out, HMC.out]; rfl, HB2.out⟩
      · obtain rfl : c = 5 := by omega
        have HMC := Lib.hid (mcN_is HS.out hc1 hc5 HA.out (.inl rfl))
        go_wp2
        go_ret
        exact ⟨by rw [HM.out, HMC.out]; rfl, HB.out⟩

end Go.Proofs.YtdgihkmiolnglaaGreatDoor
