/- Contracts of the reference's ProgramValid, Wcet and Bcet. Conditions: the slice holds what is said; at most 2^40 nodes. -/
import Derived.Test.YtlcdmjcikbgnpaaPrgSpec
namespace Go.Proofs.Ytlcdmjcikbgnpaa
open Go.RowKit Go.Deep

set_option maxRecDepth 100000 in
set_option maxHeartbeats 2000000 in
/-- spec.ProgramValid. -/
theorem specProgramValid_any (a : Option Addr) (cap : Nat) (ps : List N5) (w : World) (hr : RowN w a ps) (hn : ps.length ≤ 1099511627776) :
    Calls Try.prog 15 #[.slice a ps.length cap] w fun e w' => e = .returned (.bool (pvB ps)) ∧ Below w.heap.size w w' := by
  have HR := Lib.hid hr
  clear hr
  go_enter Try.func15, Try.ntmps15
  go_wp2_with fail
  refine (l1In_any (ps.length : Int) 1 12 w).mono ?_
  rintro e w' ⟨rfl, rfl⟩
  by_cases hl : 1 ≤ ps.length ∧ ps.length ≤ 12
  · rw [show inB (ps.length : Int) 1 12 = true from decide_eq_true (by omega)]
    obtain ⟨hl1, hl2⟩ := hl
    have HP := Lib.hid (show pvB ps = true ↔ PV ps ∧ cp8 true ps (ps.length - 1) ≤ 600 from ⟨fun h => (pv_iff.1 h).2, fun h => pv_iff.2 ⟨⟨hl1, hl2⟩, h⟩⟩)
    go_wp2
    go_loopg [3] ps.length (fun q z wr => ∃ k : Nat, q + k = ps.length ∧ z = .int .i64 k ∧ (∀ j, j < k → nvB (nd8 ps j) j = true) ∧ Below w.heap.size w wr)
    case atStart => exact ⟨0, by simp, rfl, fun j hj => absurd hj (Nat.not_lt_zero _), Below.refl _ _⟩
    case round =>
      obtain ⟨k, hq, rfl, hall, B⟩ := hrel
      have HQ := Lib.hid hq
      have HA := Lib.hid hall
      have HB := Lib.hid B
      have hkl : k ≤ ps.length := by omega
      clear hq hall B
      by_cases hlt : k < ps.length
      · have hk0 : (0 : Int) ≤ k := by omega
        have hk1 : (k : Int) < ps.length := by omega
        obtain ⟨q, c, x, y, m, hnd⟩ : ∃ q c x y m, nd8 ps k = (q, c, x, y, m) := ⟨_, _, _, _, _, rfl⟩
        obtain ⟨b, off, rfl, hb, n0, n1, n2, n3, n4⟩ := rowN_at (HR.out.below HB.out) hlt hnd
        have HC := Lib.hid (l8Node_any (q, c, x, y, m) k (by omega) wr)
        have HN := Lib.hid hnd
        clear hnd
        go_wp2_with fail
        refine HC.out.mono ?_
        rintro e w2 ⟨rfl, b2⟩
        have HB2 := Lib.hid (HB.out.trans (b2.mono HB.out.size))
        clear b2 HC
        cases hv : nvB (q, c, x, y, m) k with
        | true =>
          have HV := Lib.hid hv
          clear hv
          go_wp2
          go_roundg (gk - 1)
          case measure => have := HQ.out; omega
          case rel => exact ⟨k + 1, by have := HQ.out; omega, by go_num, fun j hj => by
              by_cases e : j = k
              · subst e; rw [HN.out]; exact HV.out
              · exact HA.out j (by omega), HB2.out⟩
        | false =>
          have HF := Lib.hid (show pvB ps = false by
            rw [← Bool.not_eq_true, HP.out]
            intro h
            have := h.1 k hlt
            rw [HN.out, hv] at this
            simp at this)
          clear hv
          go_wp2
          go_ret
          exact ⟨ret_bool HF.out.symm, HB2.out⟩
      · obtain rfl : k = ps.length := by omega
        have HV := Lib.hid (show PV ps from fun j hj => HA.out j hj)
        go_wp2_with fail
        refine (l8Costs_any a cap ps true wr (HR.out.below HB.out) HV.out (by omega)).mono ?_
        rintro e w2 ⟨v, rfl, ho, b2⟩
        have HB2 := Lib.hid (HB.out.trans (b2.mono HB.out.size))
        obtain ⟨g, oc, rfl, -, -, -⟩ := ho.at (by omega)
        have e1 := (ho.cellAt (show ps.length - 1 < ps.length by omega)).1
        rw [show ((ps.length - 1 : Nat)) = ps.length - 1 from rfl] at e1
        obtain ⟨L, hL⟩ : ∃ L : Nat, L + 1 = ps.length := ⟨ps.length - 1, by omega⟩
        obtain ⟨V, hV⟩ : ∃ V : Nat, V = cp8 true ps (ps.length - 1) := ⟨_, rfl⟩
        have HVV := Lib.hid (show pvB ps = decide (V ≤ 600) by
          rw [Bool.eq_iff_iff, HP.out, decide_eq_true_eq, hV]
          exact ⟨fun h => h.2, fun h => ⟨HV.out, h⟩⟩)
        (try simp only at e1)
        rw [← hV, show ps.length - 1 = L by omega] at e1
        have hw : IntKind.i64.wrap ((ps.length : Int) - 1) = (L : Int) := by rw [IntWalk.i64_in _ (by omega)]; omega
        have hL0 : (0 : Int) ≤ L := by omega
        have hL1 : (L : Int) < ps.length := by omega
        clear hV hL ho b2
        go_wp2
        go_ret
        exact ⟨ret_bool (by rw [HVV.out]; apply decide_eq_decide.2; omega), HB2.out⟩
  · rw [show inB (ps.length : Int) 1 12 = false from decide_eq_false (by omega)]
    have HF := Lib.hid (show pvB ps = false by
      rw [← Bool.not_eq_true, pv_iff]
      exact fun h => hl h.1)
    clear hl
    go_wp2
    go_ret
    exact ⟨ret_bool HF.out.symm, Below.refl _ _⟩

set_option maxRecDepth 100000 in
set_option maxHeartbeats 2000000 in
/-- spec.Wcet. -/
theorem specWcet_any (a : Option Addr) (cap : Nat) (ps : List N5) (w : World) (hr : RowN w a ps) (hn : ps.length ≤ 1099511627776) :
    Calls Try.prog 26 #[.slice a ps.length cap] w fun e w' => e = .returned (.int .i64 (bd8 true ps)) ∧ Below w.heap.size w w' := by
  have HR := Lib.hid hr
  clear hr
  go_enter Try.func26, Try.ntmps26
  go_wp2_with fail
  refine (specProgramValid_any a cap ps w HR.out hn).mono ?_
  rintro e w1 ⟨rfl, b1⟩
  have B1 := Lib.hid b1
  have HR1 := Lib.hid (HR.out.below b1)
  clear b1
  cases hv : pvB ps with
  | false =>
    have HF := Lib.hid (show bd8 true ps = -1 from if_neg (by rw [hv]; simp))
    clear hv
    go_wp2
    go_ret
    exact ⟨by rw [HF.out]; rfl, B1.out⟩
  | true =>
    obtain ⟨⟨hl1, hl2⟩, hpv, -⟩ := pv_iff.1 hv
    have HPV := Lib.hid hpv
    obtain ⟨V, hV⟩ : ∃ V : Nat, V = cp8 true ps (ps.length - 1) := ⟨_, rfl⟩
    have HF := Lib.hid (show bd8 true ps = (V : Int) by rw [hV]; exact if_pos hv)
    clear hv hpv
    go_wp2_with fail
    refine (l8Costs_any a cap ps true w1 HR1.out HPV.out (by omega)).mono ?_
    rintro e w2 ⟨v, rfl, ho, b2⟩
    have HB2 := Lib.hid (B1.out.trans (b2.mono B1.out.size))
    obtain ⟨g, oc, rfl, -, -, -⟩ := ho.at (by omega)
    have e1 := (ho.cellAt (show ps.length - 1 < ps.length by omega)).1
    obtain ⟨L, hL⟩ : ∃ L : Nat, L + 1 = ps.length := ⟨ps.length - 1, by omega⟩
    (try simp only at e1)
    rw [← hV, show ps.length - 1 = L by omega] at e1
    have hw : IntKind.i64.wrap ((ps.length : Int) - 1) = (L : Int) := by rw [IntWalk.i64_in _ (by omega)]; omega
    have hL0 : (0 : Int) ≤ L := by omega
    have hL1 : (L : Int) < ps.length := by omega
    clear hV hL ho b2
    go_wp2
    go_ret
    exact ⟨by rw [HF.out]; rfl, HB2.out⟩

set_option maxRecDepth 100000 in
set_option maxHeartbeats 2000000 in
/-- spec.Bcet. -/
theorem specBcet_any (a : Option Addr) (cap : Nat) (ps : List N5) (w : World) (hr : RowN w a ps) (hn : ps.length ≤ 1099511627776) :
    Calls Try.prog 27 #[.slice a ps.length cap] w fun e w' => e = .returned (.int .i64 (bd8 false ps)) ∧ Below w.heap.size w w' := by
  have HR := Lib.hid hr
  clear hr
  go_enter Try.func27, Try.ntmps27
  go_wp2_with fail
  refine (specProgramValid_any a cap ps w HR.out hn).mono ?_
  rintro e w1 ⟨rfl, b1⟩
  have B1 := Lib.hid b1
  have HR1 := Lib.hid (HR.out.below b1)
  clear b1
  cases hv : pvB ps with
  | false =>
    have HF := Lib.hid (show bd8 false ps = -1 from if_neg (by rw [hv]; simp))
    clear hv
    go_wp2
    go_ret
    exact ⟨by rw [HF.out]; rfl, B1.out⟩
  | true =>
    obtain ⟨⟨hl1, hl2⟩, hpv, -⟩ := pv_iff.1 hv
    have HPV := Lib.hid hpv
    obtain ⟨V, hV⟩ : ∃ V : Nat, V = cp8 false ps (ps.length - 1) := ⟨_, rfl⟩
    have HF := Lib.hid (show bd8 false ps = (V : Int) by rw [hV]; exact if_pos hv)
    clear hv hpv
    go_wp2_with fail
    refine (l8Costs_any a cap ps false w1 HR1.out HPV.out (by omega)).mono ?_
    rintro e w2 ⟨v, rfl, ho, b2⟩
    have HB2 := Lib.hid (B1.out.trans (b2.mono B1.out.size))
    obtain ⟨g, oc, rfl, -, -, -⟩ := ho.at (by omega)
    have e1 := (ho.cellAt (show ps.length - 1 < ps.length by omega)).1
    obtain ⟨L, hL⟩ : ∃ L : Nat, L + 1 = ps.length := ⟨ps.length - 1, by omega⟩
    (try simp only at e1)
    rw [← hV, show ps.length - 1 = L by omega] at e1
    have hw : IntKind.i64.wrap ((ps.length : Int) - 1) = (L : Int) := by rw [IntWalk.i64_in _ (by omega)]; omega
    have hL0 : (0 : Int) ≤ L := by omega
    have hL1 : (L : Int) < ps.length := by omega
    clear hV hL ho b2
    go_wp2
    go_ret
    exact ⟨by rw [HF.out]; rfl, HB2.out⟩

end Go.Proofs.Ytlcdmjcikbgnpaa
