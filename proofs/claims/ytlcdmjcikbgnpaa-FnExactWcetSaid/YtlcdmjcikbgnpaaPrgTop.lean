/- Contracts of the program's ProgramValid, Wcet, Bcet. Conditions: the slice holds what is said; at most 2^40 nodes. -/
import Derived.Test.YtlcdmjcikbgnpaaPrgMeas
namespace Go.Proofs.Ytlcdmjcikbgnpaa
open Go.RowKit Go.Deep

set_option maxRecDepth 100000 in
set_option maxHeartbeats 2000000 in
/-- impl.ProgramValid. -/
theorem implProgramValid_any (a : Option Addr) (cap : Nat) (ps : List N5) (w : World) (hr : RowN w a ps) (hn : ps.length ≤ 1099511627776) :
    Calls Try.prog 14 #[.slice a ps.length cap] w fun e w' => e = .returned (.bool (pvB ps)) ∧ Below w.heap.size w w' := by
  have HR := Lib.hid hr
  clear hr
  go_enter Try.func14, Try.ntmps14
  go_wp2_with fail
  refine (measured_any a cap ps w HR.out hn).mono ?_
  rintro e w1 ⟨v, rfl, -, -, b1⟩
  have B1 := Lib.hid b1
  obtain ⟨r, hr⟩ : ∃ r, r = pvB ps := ⟨_, rfl⟩
  rw [← hr]
  have HV := Lib.hid hr
  clear b1 hr
  go_wp2
  go_ret
  exact ⟨ret_bool HV.out, B1.out⟩

set_option maxRecDepth 100000 in
set_option maxHeartbeats 2000000 in
/-- impl.Wcet. -/
theorem implWcet_any (a : Option Addr) (cap : Nat) (ps : List N5) (w : World) (hr : RowN w a ps) (hn : ps.length ≤ 1099511627776) :
    Calls Try.prog 20 #[.slice a ps.length cap] w fun e w' => e = .returned (.int .i64 (bd8 true ps)) ∧ Below w.heap.size w w' := by
  have HR := Lib.hid hr
  clear hr
  go_enter Try.func20, Try.ntmps20
  go_wp2_with fail
  refine (measured_any a cap ps w HR.out hn).mono ?_
  rintro e w1 ⟨v, rfl, ho, -, b1⟩
  have B1 := Lib.hid b1
  clear b1
  cases hv : pvB ps with
  | false =>
    have HF := Lib.hid (show bd8 true ps = -1 from if_neg (by rw [hv]; simp))
    clear hv ho
    go_wp2
    go_ret
    exact ⟨by rw [HF.out]; rfl, B1.out⟩
  | true =>
    have HF := Lib.hid (bd8_is (w := true) hv)
    have hl := (pv_iff.1 hv).1
    replace ho := ho hv
    obtain ⟨sa, scap, e⟩ := ho.shape
    rw [sps8_len] at e
    subst e
    obtain ⟨L, hL⟩ : ∃ L : Nat, L + 1 = ps.length := ⟨ps.length - 1, by omega⟩
    rw [show ps.length - 1 = L by omega] at HF
    obtain ⟨b, off, rfl, -, c0, -, -⟩ := (ho.row).at (show L < (sps8 ps ps.length).length by rw [sps8_len]; omega)
    rw [sps8_at ps (show L < ps.length by omega)] at c0
    unfold sp8 at c0
    simp only at c0
    obtain ⟨X, hX⟩ : ∃ X, X = wc8 true ps L := ⟨_, rfl⟩
    rw [← hX] at c0 HF
    have hw : IntKind.i64.wrap ((ps.length : Int) - 1) = (L : Int) := by rw [IntWalk.i64_in _ (by omega)]; omega
    have hL0 : (0 : Int) ≤ L := by omega
    have hL1 : (L : Int) < ps.length := by omega
    clear hX hL hl hv ho
    go_wp2
    go_ret
    exact ⟨by rw [HF.out]; rfl, B1.out⟩

set_option maxRecDepth 100000 in
set_option maxHeartbeats 2000000 in
/-- impl.Bcet. -/
theorem implBcet_any (a : Option Addr) (cap : Nat) (ps : List N5) (w : World) (hr : RowN w a ps) (hn : ps.length ≤ 1099511627776) :
    Calls Try.prog 21 #[.slice a ps.length cap] w fun e w' => e = .returned (.int .i64 (bd8 false ps)) ∧ Below w.heap.size w w' := by
  have HR := Lib.hid hr
  clear hr
  go_enter Try.func21, Try.ntmps21
  go_wp2_with fail
  refine (measured_any a cap ps w HR.out hn).mono ?_
  rintro e w1 ⟨v, rfl, ho, -, b1⟩
  have B1 := Lib.hid b1
  clear b1
  cases hv : pvB ps with
  | false =>
    have HF := Lib.hid (show bd8 false ps = -1 from if_neg (by rw [hv]; simp))
    clear hv ho
    go_wp2
    go_ret
    exact ⟨by rw [HF.out]; rfl, B1.out⟩
  | true =>
    have HF := Lib.hid (bd8_is (w := false) hv)
    have hl := (pv_iff.1 hv).1
    replace ho := ho hv
    obtain ⟨sa, scap, e⟩ := ho.shape
    rw [sps8_len] at e
    subst e
    obtain ⟨L, hL⟩ : ∃ L : Nat, L + 1 = ps.length := ⟨ps.length - 1, by omega⟩
    rw [show ps.length - 1 = L by omega] at HF
    obtain ⟨b, off, rfl, -, -, c0, -⟩ := (ho.row).at (show L < (sps8 ps ps.length).length by rw [sps8_len]; omega)
    rw [sps8_at ps (show L < ps.length by omega)] at c0
    unfold sp8 at c0
    simp only at c0
    obtain ⟨X, hX⟩ : ∃ X, X = wc8 false ps L := ⟨_, rfl⟩
    rw [← hX] at c0 HF
    have hw : IntKind.i64.wrap ((ps.length : Int) - 1) = (L : Int) := by rw [IntWalk.i64_in _ (by omega)]; omega
    have hL0 : (0 : Int) ≤ L := by omega
    have hL1 : (L : Int) < ps.length := by omega
    clear hX hL hl hv ho
    go_wp2
    go_ret
    exact ⟨by rw [HF.out]; rfl, B1.out⟩

end Go.Proofs.Ytlcdmjcikbgnpaa
