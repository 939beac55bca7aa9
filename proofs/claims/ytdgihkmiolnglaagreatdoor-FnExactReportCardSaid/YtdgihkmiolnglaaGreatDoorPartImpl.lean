/- Contracts of the program's FirstFit, Partition and MinCores. Conditions: the slices hold what is said; at most 2^40 tasks. -/
import Derived.Test.YtdgihkmiolnglaaGreatDoorPartComp
namespace Go.Proofs.YtdgihkmiolnglaaGreatDoor
open Go.RowKit Go.Deep

set_option maxRecDepth 100000 in
set_option maxHeartbeats 2000000 in
/-- impl.Partition. -/
theorem partition_any (a : Option Addr) (cap : Nat) (ts : List T3) (n : Int) (w : World) (hr : Row w a ts) (hn : ts.length ≤ 1099511627776) :
    Calls Tryz.prog 44 #[.slice a ts.length cap, .int .i64 n] w fun e w' => GotAsg w.heap.size (prO ts n) e w' ∧ Below w.heap.size w w' := by
  have HR := Lib.hid hr
  clear hr
  go_enter Tryz.func44, Tryz.ntmps44
  go_wp2_with fail
  refine (setValid_any _ _ ts _ HR.out hn).mono ?_
  rintro e w1 ⟨rfl, b1⟩
  have B1 := Lib.hid b1
  have HR1 := Lib.hid (HR.out.below b1)
  clear b1
  cases hs : svB ts with
  | false =>
    have HN := Lib.hid (show prO ts n = none from if_neg (by rw [hs]; simp))
    clear hs
    go_wp2
    go_ret2
    exact ⟨⟨_, by rw [HN.out]; rfl, by rw [HN.out]; exact OwnI.nil _ _ _⟩, B1.out⟩
  | true =>
    have HS := Lib.hid hs
    clear hs
    go_wp2_with fail
    refine (coresValid_any n _).mono ?_
    rintro e w' ⟨rfl, rfl⟩
    by_cases hc : 1 ≤ n ∧ n ≤ 5
    · rw [decide_eq_true hc]
      obtain ⟨N, hN⟩ : ∃ N : Nat, n = (N : Int) := ⟨n.toNat, by omega⟩
      subst hN
      have HF := Lib.hid (show prO ts (N : Int) = fstC ts N ts.length [] by rw [fst_part]; exact if_pos ⟨HS.out, hc⟩)
      have hN5 : N ≤ 5 := by omega
      clear hc
      go_wp2_with fail
      refine (completions_any (some ⟨w1.heap.size, 0, none⟩) a 0 0 ts.length cap (N : Int) (w1.alloc (.cells #[] 3))).mono ?_
      rintro e w2 ⟨rfl, hw2⟩
      have HX := Lib.hid (by have := box3_at (w1.alloc (.cells #[] 3)) (.slice (some ⟨w1.heap.size, 0, none⟩) 0 0) (.slice a ts.length cap) (N : Int); rw [← hw2] at this; exact this)
      have HB2 := Lib.hid (show Below w.heap.size w w2 from B1.out.trans (((below_box w1 _).trans (HX.out.2.2.2.1.mono (by simp))).mono B1.out.size))
      have HO2 := Lib.hid (show OwnI w2 w.heap.size (.slice (some ⟨w1.heap.size, 0, none⟩) 0 0) 0 (nz []) from ((OwnI.empty w1 (nz [])).below HX.out.2.2.2.1).mono B1.out.size)
      have HG := Lib.hid (comp_all ts N w.heap.size cap a HS.out hN5 ts.length [] _ _ _ (some ⟨w1.heap.size, 0, none⟩) 0 w2 (by simp) HX.out.1.cell HX.out.2.1.cell HX.out.2.2.1.cell (HR.out.below HB2.out) HO2.out HB2.out.size)
      have HG2 := Lib.hid (show GivesC ts N w.heap.size ts.length [] (w1.heap.size + 1) (w1.heap.size + 1 + 1) (w1.heap.size + 1 + 2) w2 by have := HG.out; rw [World.size_alloc] at this; exact this)
      clear hw2 HG
      go_wp2_with fail
      refine (firstA_any ts N w.heap.size ts.length [] (w1.heap.size + 1) (w1.heap.size + 1 + 1) (w1.heap.size + 1 + 2) w2 HG2.out HB2.out.size).mono ?_
      rintro e w3 ⟨⟨v, rfl, ho3⟩, b3⟩
      have HO3 := Lib.hid ho3
      have HB3 := Lib.hid (HB2.out.trans (b3.mono HB2.out.size))
      clear ho3 b3
      go_wp2
      go_ret2
      exact ⟨⟨v, by rw [HF.out]; rfl, by rw [HF.out]; exact HO3.out⟩, HB3.out⟩
    · rw [decide_eq_false hc]
      have HN := Lib.hid (show prO ts n = none from if_neg (fun h => hc h.2))
      clear hc
      go_wp2
      go_ret2
      exact ⟨⟨_, by rw [HN.out]; rfl, by rw [HN.out]; exact OwnI.nil _ _ _⟩, B1.out⟩

theorem prO_nat {ts : List T3} (hv : svB ts = true) {c : Nat} (h1 : 1 ≤ c) (h5 : c ≤ 5) : prO ts (c : Int) = part ts c := if_pos ⟨hv, by omega, by omega⟩
theorem mcO_here {ts : List T3} {c : Nat} (h1 : 1 ≤ c) (h5 : c ≤ 5) (hno : ∀ d : Nat, 1 ≤ d → d < c → prO ts (d : Int) = none) {r : List Nat} (hr : prO ts (c : Int) = some r) : mcO ts = c := by
  have hv : svB ts = true := by
    unfold prO at hr
    split at hr
    · rename_i h; exact h.1
    · simp at hr
  rw [show mcO ts = mcN ts from if_pos hv]
  exact mcN_is hv h1 h5 (fun d d1 d2 => by rw [← prO_nat hv d1 (by omega)]; exact hno d d1 d2) (.inr (by rw [← prO_nat hv h1 h5, hr]; rfl))
theorem mcO_zero {ts : List T3} (hno : ∀ d : Nat, 1 ≤ d → d < 6 → prO ts (d : Int) = none) : mcO ts = 0 := by
  by_cases hv : svB ts = true
  · obtain ⟨m1, m2, ⟨r, hr⟩, _⟩ := mcN_part hv
    have := hno _ m1 (by omega)
    rw [prO_nat hv m1 m2, hr] at this
    simp at this
  · exact if_neg hv

set_option maxRecDepth 100000 in
set_option maxHeartbeats 2000000 in
/-- impl.MinCores. -/
theorem minCores_any (a : Option Addr) (cap : Nat) (ts : List T3) (w : World) (hr : Row w a ts) (hn : ts.length ≤ 1099511627776) :
    Calls Tryz.prog 12 #[.slice a ts.length cap] w fun e w' => e = .returned (.int .i64 (mcO ts : Nat)) ∧ Below w.heap.size w w' := by
  have HR := Lib.hid hr
  clear hr
  go_enter Tryz.func12, Tryz.ntmps12
  go_wp2
  go_loopg [3] 5 (fun q z wr => ∃ c : Nat, q + c = 6 ∧ 1 ≤ c ∧ z = .int .i64 c ∧ (∀ d : Nat, 1 ≤ d → d < c → prO ts (d : Int) = none) ∧ Below w.heap.size w wr)
  case atStart => exact ⟨1, rfl, by omega, rfl, fun d h1 h2 => by omega, Below.refl _ _⟩
  case round =>
    obtain ⟨c, hq, hc1, rfl, hall, B⟩ := hrel
    have HQ := Lib.hid hq
    have HA := Lib.hid hall
    have HB := Lib.hid B
    have hc6 : c ≤ 6 := by omega
    clear hq hall B
    by_cases hlt : c ≤ 5
    · have hlt' : (c : Int) ≤ 5 := by omega
      go_wp2_with fail
      refine (partition_any a cap ts (c : Int) wr (HR.out.below HB.out) hn).mono ?_
      rintro e w2 ⟨⟨v, rfl, -⟩, b2⟩
      have HB2 := Lib.hid (HB.out.trans (b2.mono HB.out.size))
      clear b2
      cases hp : prO ts (c : Int) with
      | none =>
        have HP := Lib.hid hp
        simp only [Option.isSome_none]
        clear hp
        go_wp2
        go_roundg (gk - 1)
        case measure => have := HQ.out; omega
        case rel => exact ⟨c + 1, by have := HQ.out; omega, by omega, by go_num, fun d h1 h2 => by
            by_cases e : d = c
            · subst e; exact HP.out
            · exact HA.out d h1 (by omega), HB2.out⟩
      | some r =>
        have HM := Lib.hid (mcO_here hc1 hlt HA.out hp)
        simp only [Option.isSome_some]
        clear hp
        go_wp2
        go_ret
        exact ⟨by rw [HM.out]; rfl, HB2.out⟩
    · obtain rfl : c = 6 := by omega
      have HM := Lib.hid (mcO_zero HA.out)
      go_wp2
      go_ret
      exact ⟨by rw [HM.out]; rfl, HB.out⟩

end Go.Proofs.YtdgihkmiolnglaaGreatDoor
