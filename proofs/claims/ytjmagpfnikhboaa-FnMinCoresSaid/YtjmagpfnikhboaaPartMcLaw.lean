/- The walk of laws.FnMinCores, for whatever code. Condition: the argument is a slice of bytes. -/
import Derived.Test.YtjmagpfnikhboaaPartImpl
import Derived.Test.YtjmagpfnikhboaaPartDraws
import Derived.Test.YtjmagpfnikhboaaDemImpl
namespace Go.Proofs.Ytjmagpfnikhboaa
open Go.RowKit Go.Deep

set_option maxRecDepth 100000 in
set_option maxHeartbeats 4000000 in
/-- laws.FnMinCores. -/
theorem fnMinCores_walk (a : Option Addr) (len cap : Nat) (w : World) (hb : Byts w a len cap) :
    Calls Try.prog 8 #[.slice a len cap] w fun e w' => e = .returned (.bool true) ∧ Below w.heap.size w w' := by
  have hm : cap ≤ maxLen := hb.2.2
  have hlc : len ≤ cap := hb.2.1
  unfold maxLen at hm
  have HB := Lib.hid hb
  clear hb
  by_cases hl : 1048576 < len
  · have hl' : (1048576 : Int) < len := by omega
    go_enter Try.func8, Try.ntmps8
    go_wp2
    go_ret
    exact ⟨rfl, Below.refl _ _⟩
  have hl' : ¬ (1048576 : Int) < len := by omega
  go_enter Try.func8, Try.ntmps8
  go_wp2_with fail
  refine (drawMinCores_any _ _ _ _ HB.out).mono ?_
  rintro e w1 ⟨a1, cap1, ts, rfl, hn, hlc1, hcm1, hr1, b1⟩
  have R1 := Lib.hid hr1
  clear hr1
  clear HB
  go_wp2_with fail
  refine (minCores_any _ _ ts _ R1.out (by omega)).mono ?_
  rintro e w2 ⟨rfl, b2⟩
  have B2 := b1.trans (b2.mono b1.size)
  have R2 := Lib.hid (R1.out.below b2)
  clear b1 b2 R1
  go_wp2_with fail
  refine (specMinCores_any _ _ ts _ R2.out (by omega)).mono ?_
  rintro e w3 ⟨rfl, b3⟩
  have B3 := B2.trans (b3.mono B2.size)
  have R3 := Lib.hid (R2.out.below b3)
  clear b3 R2 B2
  go_wp2_with fail
  refine (specSetValid_any _ _ ts _ R3.out (by omega)).mono ?_
  rintro e w4 ⟨rfl, b4⟩
  have B4 := B3.trans (b4.mono B3.size)
  have R4 := Lib.hid (R3.out.below b4)
  clear b4 R3 B3
  cases hs : svB ts with
  | false =>
    rw [show mcO ts = 0 from if_neg (by rw [hs]; simp)]
    clear hs
    go_wp2_with fail
    refine (alive_any _).mono ?_
    rintro e w5 ⟨rfl, b5⟩
    go_wp2
    go_ret
    exact ⟨rfl, B4.trans (b5.mono B4.size)⟩
  | true =>
    have HV := Lib.hid hs
    rw [show mcO ts = mcN ts from if_pos hs]
    obtain ⟨m1, m5, hpr, hless⟩ := mcN_part hs
    have hlen := mcN_len hs
    have hone := mcN_one hs
    have hut : utN ts ≤ mcN ts * utD ts := by obtain ⟨r, hr⟩ := hpr; exact ut_part hs hr
    have hbd := ut_bd hs
    obtain ⟨M, hM⟩ : ∃ M, M = mcN ts := ⟨_, rfl⟩
    rw [← hM] at m1 m5 hpr hless hlen hone hut ⊢
    have HPR := Lib.hid (show (prO ts (M : Int)).isSome = true by
      rw [show prO ts (M : Int) = part ts M from if_pos ⟨hs, by omega⟩]
      obtain ⟨r, hr⟩ := hpr
      rw [hr]
      rfl)
    have HLS := Lib.hid (show M ≠ 1 → (prO ts ((M : Int) - 1)).isSome = false from fun h => by
      rw [show prO ts ((M : Int) - 1) = part ts (M - 1) from by
        unfold prO
        rw [if_pos ⟨hs, by omega⟩]
        congr 1
        omega, hless (M - 1) (by omega) (by omega)]
      rfl)
    have HO := Lib.hid hone
    clear hs hpr hless hM hone
    go_wp2_with fail
    refine (utilization_any _ _ ts _ R4.out (by omega)).mono ?_
    rintro e w5 ⟨rfl, b5⟩
    have B5 := Lib.hid (B4.trans (b5.mono B4.size))
    have R5 := Lib.hid (R4.out.below b5)
    clear b5 R4 B4
    obtain ⟨N, hN⟩ : ∃ N, N = utN ts := ⟨_, rfl⟩
    obtain ⟨D, hD⟩ : ∃ D, D = utD ts := ⟨_, rfl⟩
    rw [← hN, ← hD] at hut hbd
    rw [← hN, ← hD]
    obtain ⟨P, hP⟩ : ∃ P, P = M * D := ⟨_, rfl⟩
    rw [← hP] at hut
    have hPb : P ≤ 5 * 27720 := by rw [hP]; exact Nat.mul_le_mul m5 hbd.2.1
    have HPI := Lib.hid (show (M : Int) * (D : Int) = (P : Int) by rw [hP]; simp)
    clear hN hD hP
    obtain ⟨v0, hv0⟩ : ∃ v0, v0 = w5.alloc (.cells #[.int .i64 (N : Int), .int .i64 (D : Int)] 46) := ⟨_, rfl⟩
    have B6 := Lib.hid (show Below w.heap.size w v0 by rw [hv0]; exact B5.out.alloc B5.out.size _)
    have R6 := Lib.hid (show Row v0 a1 ts by rw [hv0]; exact R5.out.below (below_box _ _))
    have x0 : v0.cell? ⟨w5.heap.size, 0, none⟩ = some (.int .i64 (N : Int)) := by rw [hv0]; go_simp
    have x1 : v0.cell? ⟨w5.heap.size, 1, none⟩ = some (.int .i64 (D : Int)) := by rw [hv0]; go_simp
    have hsz : w5.heap.size < v0.heap.size := by rw [hv0]; simp
    have HV0 := Lib.hid hv0
    clear hv0 R5
    go_wp2_with fail
    rw [← HV0.out]
    refine (partition_any _ _ ts (M : Int) _ R6.out (by omega)).mono ?_
    rintro e w7 ⟨⟨v, rfl, ho7⟩, b7⟩
    obtain ⟨sa7, sc7, rfl⟩ := own_shape ho7
    rw [HPR.out]
    have B7 := Lib.hid (B6.out.trans (b7.mono B6.out.size))
    have R7 := Lib.hid (R6.out.below b7)
    have y0 := (b7.cell (p := ⟨w5.heap.size, 0, none⟩) hsz).trans x0
    have y1 := (b7.cell (p := ⟨w5.heap.size, 1, none⟩) hsz).trans x1
    clear ho7 b7 x0 x1 R6
    have hm1 : ¬ (M : Int) < 1 := by omega
    have hwP : IntKind.i64.wrap ((M : Int) * (D : Int)) = (P : Int) := by rw [HPI.out]; exact IntWalk.i64_in _ (by omega)
    have hNP : ¬ (P : Int) < (N : Int) := by omega
    by_cases hM1 : M = 1
    · have hE := Lib.hid (HO.out.1 hM1)
      have hMb : ((M : Int) == 1) = true := beq_iff_eq.2 (by omega)
      clear hM1
      go_wp2_with fail
      refine (edfFeasible_any _ _ ts _ R7.out (by omega)).mono ?_
      rintro e w8 ⟨rfl, b8⟩
      rw [hE.out]
      go_wp2
      go_ret
      exact ⟨rfl, B7.out.trans (b8.mono B7.out.size)⟩
    · have hE := Lib.hid (show edf ts = false by
        cases h : edf ts with
        | false => rfl
        | true => exact absurd (HO.out.2 h) hM1)
      have hMb : ((M : Int) == 1) = false := beq_eq_false_iff_ne.2 (by omega)
      have HL1 := Lib.hid (HLS.out hM1)
      have hwm : IntKind.i64.wrap ((M : Int) - 1) = (M : Int) - 1 := IntWalk.i64_in _ (by omega)
      clear hM1
      go_wp2_with fail
      refine (edfFeasible_any _ _ ts _ R7.out (by omega)).mono ?_
      rintro e w8 ⟨rfl, b8⟩
      rw [hE.out]
      have B8 := Lib.hid (B7.out.trans (b8.mono B7.out.size))
      have R8 := Lib.hid (R7.out.below b8)
      clear b8
      go_wp2_with fail
      refine (partition_any _ _ ts ((M : Int) - 1) _ R8.out (by omega)).mono ?_
      rintro e w9 ⟨⟨v, rfl, ho9⟩, b9⟩
      obtain ⟨sa9, sc9, rfl⟩ := own_shape ho9
      rw [HL1.out]
      have B9 := Lib.hid (B8.out.trans (b9.mono B8.out.size))
      clear ho9 b9
      have hmx := mx_rule
      have hmb : decide ((M : Int) ≤ mx 1 (ts.length : Int)) = true := decide_eq_true (by unfold mx; split <;> omega)
      go_wp2
      go_ret
      exact ⟨rfl, B9.out⟩

end Go.Proofs.Ytjmagpfnikhboaa
