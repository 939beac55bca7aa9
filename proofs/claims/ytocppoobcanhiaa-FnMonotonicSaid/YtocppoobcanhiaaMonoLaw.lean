/- The walk of laws.FnMonotonic, for whatever code. Condition: the argument is a slice of bytes. -/
import Derived.Test.YtocppoobcanhiaaSortImpl
import Derived.Test.YtocppoobcanhiaaAssignImpl
import Derived.Test.YtocppoobcanhiaaFixImpl
import Derived.Test.YtocppoobcanhiaaDrawOrd
import Derived.Test.YtocppoobcanhiaaSame
import Derived.StillTailTactics
namespace Go.Proofs.Ytocppoobcanhiaa
open Go.RowKit Go.Deep

theorem dm_sorted {ts : List T3} {i : Nat} (hi : i + 1 < (dmO ts).length) : dln (tk ts ((dmO ts).getD i 0).toNat) ≤ dln (tk ts ((dmO ts).getD (i + 1) 0).toNat) := by
  have hup : (dmO ts).Pairwise (DmLt ts) := dmD_up
  have h := List.pairwise_iff_getElem.1 hup i (i + 1) (by omega) hi (by omega)
  simp only [List.getD_eq_getElem?_getD, List.getElem?_eq_getElem hi, List.getElem?_eq_getElem (show i < (dmO ts).length by omega), Option.getD_some]
  simp only [DmLt, dmB, decide_eq_true_eq] at h
  omega
set_option maxRecDepth 100000 in
set_option maxHeartbeats 8000000 in
/-- laws.FnMonotonic. -/
theorem fnMonotonic_walk (a : Option Addr) (len cap : Nat) (w : World) (hb : Byts w a len cap) :
    Calls Try.prog 12 #[.slice a len cap] w fun e w' => e = .returned (.bool true) ∧ Below w.heap.size w w' := by
  have hm : cap ≤ maxLen := hb.2.2
  have hlc : len ≤ cap := hb.2.1
  unfold maxLen at hm
  have HB := Lib.hid hb
  clear hb
  by_cases hl : 1048576 < len
  · have hl' : (1048576 : Int) < len := by omega
    go_enter Try.func12, Try.ntmps12
    go_wp2
    go_ret
    exact ⟨rfl, Below.refl _ _⟩
  have hl' : ¬ (1048576 : Int) < len := by omega
  go_enter Try.func12, Try.ntmps12
  go_wp2_with fail
  refine (drawDeadlineMonotonic_any _ _ _ _ HB.out).mono ?_
  rintro e w1 ⟨a1, cap1, ts, rfl, hn, hlc1, hcm1, hr1, b1⟩
  have R1 := Lib.hid hr1
  clear hr1 HB
  go_wp2_with fail
  refine (deadlineMonotonic_any _ _ ts _ R1.out (by omega)).mono ?_
  rintro e w2 ⟨⟨v, rfl, ho⟩, b2⟩
  obtain ⟨va, vc, rfl⟩ := own_shape ho
  have O2 := Lib.hid ho
  have hvc : (dmB' ts).length ≤ vc := by obtain ⟨_, _, e, _, h, _⟩ := ho.intF; simp only [Value.slice.injEq, true_and] at e; omega
  have R2 := Lib.hid (R1.out.below b2)
  have B2 := b1.trans (b2.mono b1.size)
  have hdl : (dmB' ts).length ≤ 12 := by
    unfold dmB'
    split
    · rename_i hs
      have := (ordB_iff.1 (dm_ord hs)).2.1
      omega
    · exact Nat.zero_le _
  clear ho R1 b1 b2
  go_wp2_with fail
  refine (specDeadlineMonotonic_any _ _ ts _ R2.out (by omega)).mono ?_
  rintro e w3 ⟨⟨v, rfl, ho⟩, b3⟩
  obtain ⟨ua, uc, rfl⟩ := own_shape ho
  have I3 := Lib.hid ho.intF'
  have O3 := Lib.hid (O2.out.below b3)
  have R3 := Lib.hid (R2.out.below b3)
  have B3 := B2.trans (b3.mono B2.size)
  clear ho b3 B2 R2 O2
  go_wp2_with fail
  refine (sameInts_same _ _ _ _ _ _ _ O3.out.intF' I3.out (by omega)).mono ?_
  rintro e w4 ⟨rfl, n4, hw4⟩
  have b4 : Below w3.heap.size w3 w4 := by rw [hw4]; exact below_drewN _ _
  have O4 := Lib.hid (O3.out.below b4)
  have R4 := Lib.hid (R3.out.below b4)
  have B4 := B3.trans (b4.mono B3.size)
  clear hw4 b4 B3 R3 O3 I3
  go_wp2_with fail
  refine (specSetValid_any _ _ ts _ R4.out (by omega)).mono ?_
  rintro e w5 ⟨rfl, b5⟩
  have O5 := Lib.hid (O4.out.below b5)
  have R5 := Lib.hid (R4.out.below b5)
  have B5 := B4.trans (b5.mono B4.size)
  clear b5 B4 R4 O4
  cases hs : svB ts with
  | false =>
    have hz : dmB' ts = [] := by rw [dmB', hs]; rfl
    rw [hz] at O5
    simp only [hz]
    go_wp2_with fail
    refine (alive_any _).mono ?_
    rintro e w6 ⟨rfl, b6⟩
    go_wp2
    go_ret
    exact ⟨rfl, B5.trans (b6.mono B5.size)⟩
  | true =>
    have HS := Lib.hid hs
    have HZ := Lib.hid (show dmB' ts = dmO ts by rw [dmB', hs]; rfl)
    have hv := dm_ord hs
    have HV := Lib.hid hv
    have HLN := Lib.hid (ordB_iff.1 hv).2.1
    rw [HZ.out] at O5 hvc hdl ⊢
    clear hs hv
    go_wp2
    go_loopg [5] (dmO ts).length (fun m z wr => ∃ (i : Nat), (m + i = (dmO ts).length + 1) ∧ 1 ≤ i ∧ z = .int .i64 i ∧ Below w5.heap.size w5 wr)
    case atStart => exact ⟨1, by omega, Nat.le_refl _, rfl, Below.refl _ _⟩
    case round =>
      obtain ⟨i, hi, hi1, rfl, B⟩ := hrel
      have HK := Lib.hid hi
      have hib : i ≤ 13 := by omega
      clear hi
      have BB := B5.trans (B.mono B5.size)
      by_cases hlt : i < (dmO ts).length
      · obtain ⟨j, rfl⟩ : ∃ j, i = j + 1 := ⟨i - 1, by omega⟩
        have hlt' : (j : Int) + 1 < (dmO ts).length := by omega
        have hw1 : IntKind.i64.wrap ((j : Int) + 1 - 1) = (j : Int) := by rw [IntWalk.i64_in _ (by omega)]; omega
        have hw2 : IntKind.i64.wrap (j : Int) = (j : Int) := IntWalk.i64_in _ (by omega)
        have hj0 : (0 : Int) ≤ j := by omega
        have hj1 : (j : Int) < (dmO ts).length := by omega
        have hj2 : (0 : Int) ≤ (j : Int) + 1 := by omega
        have OI := (O5.out.below B).intF'
        obtain ⟨bo, oo, ea, _, x0⟩ := OI j (by omega)
        obtain ⟨bo', oo', e, _, y0⟩ := OI (j + 1) hlt
        rw [ea] at e
        simp only [Option.some.injEq, Addr.mk.injEq, and_true] at e
        obtain ⟨rfl, rfl⟩ := e
        subst ea
        have hx := ord_at HV.out (show j < (dmO ts).length by omega)
        have hy := ord_at HV.out hlt
        have hsrt := dm_sorted (ts := ts) hlt
        obtain ⟨x, hxe⟩ : ∃ x, x = ((dmO ts).getD j 0).toNat := ⟨_, rfl⟩
        obtain ⟨y, hye⟩ : ∃ y, y = ((dmO ts).getD (j + 1) 0).toNat := ⟨_, rfl⟩
        have hx' : (dmO ts).getD j 0 = (x : Int) := by omega
        have hy' : (dmO ts).getD (j + 1) 0 = (y : Int) := by omega
        simp only [hx'] at x0
        simp only [hy'] at y0
        rw [← hxe, ← hye] at hsrt
        have hxl : x < ts.length := by omega
        have hyl : y < ts.length := by omega
        have hx0 : (0 : Int) ≤ x := by omega
        have hx1 : (x : Int) < ts.length := by omega
        have hy0 : (0 : Int) ≤ y := by omega
        have hy1 : (y : Int) < ts.length := by omega
        obtain ⟨bt, ot, ea, _, _, e1, _⟩ := (R5.out.below B).at hxl
        obtain ⟨bt', ot', e, _, _, f1, _⟩ := (R5.out.below B).at hyl
        rw [ea] at e
        simp only [Option.some.injEq, Addr.mk.injEq, and_true] at e
        obtain ⟨rfl, rfl⟩ := e
        subst ea
        rw [← (tv_bd (tk_tv (sv_all HS.out).1 hxl)).2.2.2.2.2.2.1] at e1
        rw [← (tv_bd (tk_tv (sv_all HS.out).1 hyl)).2.2.2.2.2.2.1] at f1
        have hgt : ¬ ((dln (tk ts y) : Nat) : Int) < ((dln (tk ts x) : Nat) : Int) := by omega
        clear hx hy hsrt hxe hye hx' hy' OI
        go_wp2
        go_quiet (fail)
        go_wp2
        go_roundg (gk - 1)
        case measure => have := HK.out; omega
        case rel => exact ⟨j + 1 + 1, by have := HK.out; omega, by omega, by go_num, below_drewN' B _⟩
      · have OI := Lib.hid (O5.out.below B).intF'
        have R6 := Lib.hid (R5.out.below B)
        have hfin := dm_aud HS.out
        have HAB := Lib.hid (show audB ts = aud ts by rw [audB, HS.out]; rfl)
        go_wp2_with fail
        refine (assignPriorities_any _ _ ts _ R6.out (by omega)).mono ?_
        rintro e w7 ⟨⟨v7, rfl, o7⟩, b7⟩
        obtain ⟨pa, pc, rfl⟩ := own_shape o7
        have R7 := Lib.hid (R6.out.below b7)
        have I7 := Lib.hid (OI.out.below b7)
        have B7 := BB.trans (b7.mono BB.size)
        clear o7 b7 R6 OI
        go_wp2_with fail
        refine (orderValid_any _ _ _ _ ts (dmO ts) _ R7.out I7.out (by omega)).mono ?_
        rintro e w8 ⟨rfl, b8⟩
        rw [HV.out]
        have R8 := Lib.hid (R7.out.below b8)
        have I8 := Lib.hid (I7.out.below b8)
        have B8 := B7.trans (b8.mono B7.size)
        clear b8 R7 I7 B7
        go_wp2_with fail
        refine (fixedFeasible_any _ _ _ _ ts (dmO ts) _ R8.out I8.out (by omega) hvc).mono ?_
        rintro e w9 ⟨rfl, b9⟩
        rw [hfin, HAB.out]
        obtain ⟨c, hc⟩ : ∃ c, c = (aud ts).isSome := ⟨_, rfl⟩
        rw [← hc]
        clear hc hfin
        cases c with
        | true =>
          go_wp2
          go_ret
          exact ⟨rfl, B8.trans (b9.mono B8.size)⟩
        | false =>
          go_wp2
          go_ret
          exact ⟨rfl, B8.trans (b9.mono B8.size)⟩

end Go.Proofs.Ytocppoobcanhiaa
