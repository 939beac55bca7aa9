/- The walk of laws.FnAssignmentValid, for whatever code. Condition: the argument is a slice of bytes. -/
import Derived.Test.YtjmagpfnikhboaaPartImpl
import Derived.Test.YtjmagpfnikhboaaPartDraws
namespace Go.Proofs.Ytjmagpfnikhboaa
open Go.RowKit Go.Deep

theorem av_zero (ts : List T3) : avB ts 1 (List.replicate ts.length 0) = svB ts := by
  cases h : svB ts with
  | false => exact av_no1 h
  | true =>
    refine avB_iff.2 ⟨h, by omega, by simp, fun k hk => ?_⟩
    rw [List.length_replicate] at hk
    simp [List.getD_eq_getElem?_getD, hk]
theorem av_more {ts : List T3} {n : Int} {os : List Int} (h : avB ts n os = true) : avB ts 5 os = true := by
  obtain ⟨h1, h2, h3, h4⟩ := avB_iff.1 h
  exact avB_iff.2 ⟨h1, by omega, h3, fun k hk => by have := h4 k hk; omega⟩
theorem made_zeros (w : World) (n : Nat) (_ : n ≤ maxLen) : IntF (w.alloc (.cells (madeCells #[.int .i64 0] n) 3)) (some ⟨w.heap.size, 0, none⟩) (List.replicate n (0 : Int)).length fun k => (List.replicate n (0 : Int)).getD k 0 := by
  intro k hk
  rw [List.length_replicate] at hk
  refine ⟨w.heap.size, 0, rfl, by simp, ?_⟩
  simp [go_sem, madeCells, hk, List.getD_eq_getElem?_getD, Nat.mod_one]

set_option maxRecDepth 100000 in
set_option maxHeartbeats 2000000 in
/-- laws.FnAssignmentValid. -/
theorem fnAssignmentValid_walk (a : Option Addr) (len cap : Nat) (w : World) (hb : Byts w a len cap) :
    Calls Try.prog 3 #[.slice a len cap] w fun e w' => e = .returned (.bool true) ∧ Below w.heap.size w w' := by
  have hm : cap ≤ maxLen := hb.2.2
  have hlc : len ≤ cap := hb.2.1
  unfold maxLen at hm
  have HB := Lib.hid hb
  clear hb
  by_cases hl : 1048576 < len
  · have hl' : (1048576 : Int) < len := by omega
    go_enter Try.func3, Try.ntmps3
    go_wp2
    go_ret
    exact ⟨rfl, Below.refl _ _⟩
  have hl' : ¬ (1048576 : Int) < len := by omega
  go_enter Try.func3, Try.ntmps3
  go_wp2_with fail
  refine (drawAssignmentValid_any _ _ _ _ HB.out).mono ?_
  rintro e w1 ⟨g, cap1, ts, c, va, ocap, os, rfl, hn, hlc1, hcm1, hcb, hos, hr1, ho1, b1⟩
  have R1 := Lib.hid hr1
  have O1 := Lib.hid ho1.intF'
  clear hr1 ho1 HB
  go_wp2_with fail
  refine (assignmentValid_any _ _ _ _ ts c os _ R1.out O1.out (by omega) (by omega)).mono ?_
  rintro e w2 ⟨rfl, b2⟩
  have B2 := b1.trans (b2.mono b1.size)
  have R2 := Lib.hid (R1.out.below b2)
  have O2 := Lib.hid (O1.out.below b2)
  clear b1 b2 R1 O1
  go_wp2_with fail
  refine (specAssignmentValid_any _ _ _ _ ts c os _ R2.out O2.out (by omega) (by omega)).mono ?_
  rintro e w3 ⟨rfl, b3⟩
  have B3 := B2.trans (b3.mono B2.size)
  have R3 := Lib.hid (R2.out.below b3)
  have O3 := Lib.hid (O2.out.below b3)
  clear b3 R2 O2 B2
  have hmk := run_make_ints ts.length (by omega)
  have hc := assignmentValid_any (some ⟨g, 0, none⟩) (some ⟨w3.heap.size, 0, none⟩) cap1 ts.length ts 1 (List.replicate ts.length 0) (w3.alloc (.cells (madeCells #[.int .i64 0] ts.length) 3)) (R3.out.below (below_box _ _)) (made_zeros w3 ts.length (by unfold maxLen; omega)) (by omega) (by simp; omega)
  rw [List.length_replicate, av_zero] at hc
  have HC := Lib.hid hc
  have B3A := Lib.hid (B3.alloc B3.size (.cells (madeCells #[.int .i64 0] ts.length) 3))
  have R3A := Lib.hid (R3.out.below (below_box w3 (.cells (madeCells #[.int .i64 0] ts.length) 3)))
  have O3A := Lib.hid (O3.out.below (below_box w3 (.cells (madeCells #[.int .i64 0] ts.length) 3)))
  clear hc B3
  have key : ∀ av : Bool, av = avB ts c os → True := fun _ _ => trivial
  clear key
  obtain ⟨av, hav⟩ : ∃ av, av = avB ts c os := ⟨_, rfl⟩
  rw [← hav]
  have HAV := Lib.hid hav
  clear hav
  cases av with
  | true =>
    go_wp2_with fail
    refine HC.out.mono ?_
    rintro e w4 ⟨rfl, b4⟩
    have B4 := B3A.out.trans (b4.mono B3A.out.size)
    have R4 := Lib.hid (R3A.out.below b4)
    have O4 := Lib.hid (O3A.out.below b4)
    clear b4
    go_wp2_with fail
    refine (specSetValid_any _ _ ts _ R4.out (by omega)).mono ?_
    rintro e w5 ⟨rfl, b5⟩
    have B5 := B4.trans (b5.mono B4.size)
    have R5 := Lib.hid (R4.out.below b5)
    have O5 := Lib.hid (O4.out.below b5)
    clear b5 B4
    rw [(avB_iff.1 HAV.out.symm).1]
    go_wp2_with fail
    refine (assignmentValid_any _ _ _ _ ts 5 os _ R5.out O5.out (by omega) (by omega)).mono ?_
    rintro e w6 ⟨rfl, b6⟩
    have B6 := B5.trans (b6.mono B5.size)
    rw [av_more HAV.out.symm]
    clear b6 B5
    go_wp2_with fail
    refine (alive_any _).mono ?_
    rintro e w7 ⟨rfl, b7⟩
    go_wp2
    go_ret
    exact ⟨rfl, B6.trans (b7.mono B6.size)⟩
  | false =>
    go_wp2_with fail
    refine HC.out.mono ?_
    rintro e w4 ⟨rfl, b4⟩
    have B4 := B3A.out.trans (b4.mono B3A.out.size)
    have R4 := Lib.hid (R3A.out.below b4)
    clear b4
    go_wp2_with fail
    refine (specSetValid_any _ _ ts _ R4.out (by omega)).mono ?_
    rintro e w5 ⟨rfl, b5⟩
    have B5 := Lib.hid (B4.trans (b5.mono B4.size))
    clear b5 B4
    cases svB ts with
    | true =>
      go_wp2_with fail
      refine (alive_any _).mono ?_
      rintro e w7 ⟨rfl, b7⟩
      go_wp2
      go_ret
      exact ⟨rfl, B5.out.trans (b7.mono B5.out.size)⟩
    | false =>
      go_wp2_with fail
      refine (alive_any _).mono ?_
      rintro e w7 ⟨rfl, b7⟩
      go_wp2
      go_ret
      exact ⟨rfl, B5.out.trans (b7.mono B5.out.size)⟩

end Go.Proofs.Ytjmagpfnikhboaa
