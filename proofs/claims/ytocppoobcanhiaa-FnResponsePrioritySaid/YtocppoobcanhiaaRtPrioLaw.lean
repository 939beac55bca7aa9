/- The walk of laws.FnResponsePriority, for whatever code. Condition: the argument is a slice of bytes. -/
import Derived.Test.YtocppoobcanhiaaRtImpl
import Derived.Test.YtocppoobcanhiaaPermImpl
import Derived.Test.YtocppoobcanhiaaDrawOrd
import Derived.Test.YtocppoobcanhiaaSame
import Derived.BigQuiet
import Derived.StillTailTactics
namespace Go.Proofs.Ytocppoobcanhiaa
open Go.RowKit Go.Deep

theorem swp_eq (A C : List Int) (x y : Int) : (List.range (A ++ x :: y :: C).length).map (fun k => if k = A.length then y else if k = A.length + 1 then x else (A ++ x :: y :: C).getD k 0) = A ++ y :: x :: C := by
  apply List.ext_getElem (by simp)
  intro k h1 h2
  simp only [List.getElem_map, List.getElem_range]
  by_cases e1 : k = A.length
  · subst e1
    simp
  by_cases e2 : k = A.length + 1
  · subst e2
    simp [List.getElem_append_right]
  rw [if_neg e1, if_neg e2]
  by_cases e3 : k < A.length
  · rw [List.getD_eq_getElem?_getD, List.getElem?_append_left e3, List.getElem_append_left e3, List.getElem?_eq_getElem e3]
    rfl
  · obtain ⟨d, rfl⟩ : ∃ d, k = A.length + (d + 2) := ⟨k - A.length - 2, by omega⟩
    rw [List.getD_eq_getElem?_getD, List.getElem?_append_right (by omega), List.getElem_append_right (by omega)]
    simp only [Nat.add_sub_cancel_left, List.getElem_cons_succ, List.getElem?_cons_succ]
    simp at h2
    rw [List.getElem?_eq_getElem (by omega)]
    rfl
/-- The order with the places m and m + 1 exchanged. -/
def swpL (os : List Int) (m : Nat) (x y : Int) : List Int := (List.range os.length).map fun k => if k = m then y else if k = m + 1 then x else os.getD k 0
theorem swpL_len (os : List Int) (m : Nat) (x y : Int) : (swpL os m x y).length = os.length := by simp [swpL]
theorem split_two {os : List Int} {m : Nat} (h : m + 1 < os.length) : ∃ A C, A.length = m ∧ os = A ++ os.getD m 0 :: os.getD (m + 1) 0 :: C := by
  refine ⟨os.take m, os.drop (m + 2), by rw [List.length_take]; omega, ?_⟩
  have e0 : os.getD m 0 = os[m] := by simp [List.getD, List.getElem?_eq_getElem (show m < os.length by omega)]
  have e1 : os.getD (m + 1) 0 = os[m + 1] := by simp [List.getD, List.getElem?_eq_getElem h]
  rw [e0, e1, List.getElem_cons_drop, List.getElem_cons_drop, List.take_append_drop]
theorem swp_facts {ts : List T3} {os : List Int} {m : Nat} (h : ordB ts os = true) (hm : m + 1 < os.length) :
    ordB ts (swpL os m (os.getD m 0) (os.getD (m + 1) 0)) = true ∧ (swpL os m (os.getD m 0) (os.getD (m + 1) 0)).getD m 0 = os.getD (m + 1) 0 ∧ (swpL os m (os.getD m 0) (os.getD (m + 1) 0)).getD (m + 1) 0 = os.getD m 0 ∧
    (∀ r, rspO ts os (m + 1) = some r → ∃ q, rspO ts (swpL os m (os.getD m 0) (os.getD (m + 1) 0)) m = some q ∧ q ≤ r) ∧
    (∀ r, rspO ts (swpL os m (os.getD m 0) (os.getD (m + 1) 0)) (m + 1) = some r → ∃ q, rspO ts os m = some q ∧ q ≤ r) := by
  have hy0 := ord_at h (show m < os.length by omega)
  have hy1 := ord_at h hm
  obtain ⟨A, C, hA, hos⟩ := split_two hm
  generalize os.getD m 0 = x at *
  generalize os.getD (m + 1) 0 = y at *
  have es : swpL os m x y = A ++ y :: x :: C := by rw [swpL, ← hA]; have := swp_eq A C x y; rw [← hos] at this; exact this
  rw [es]
  have hs := ordB_iff.1 h
  have hall := (sv_all hs.1).1
  have hP : (A ++ y :: x :: C).Perm os := by rw [hos]; exact List.Perm.append_left A (List.Perm.swap x y C)
  have ho : ordB ts (A ++ y :: x :: C) = true := ordB_iff.2 ⟨hs.1, by rw [hP.length_eq]; exact hs.2.1, fun z hz => hs.2.2.1 z (hP.mem_iff.1 hz), hP.nodup_iff.2 hs.2.2.2⟩
  have g0 : (A ++ y :: x :: C).getD m 0 = y := by rw [← hA]; simp [List.getD]
  have g1 : (A ++ y :: x :: C).getD (m + 1) 0 = x := by rw [← hA]; simp [List.getD]
  have g2 : os.getD m 0 = x := by rw [hos, ← hA]; simp [List.getD]
  have g3 : os.getD (m + 1) 0 = y := by rw [hos, ← hA]; simp [List.getD]
  have t0 : (A ++ y :: x :: C).take m = A := by rw [← hA]; simp
  have t1 : os.take m = A := by rw [hos, ← hA]; simp
  have t2 : ∀ z, z ∈ A → z ∈ (A ++ y :: x :: C).take (m + 1) := fun z hz => by rw [← hA, List.take_append]; simp only [List.mem_append]; exact .inl (by rw [List.take_of_length_le (by omega)]; exact hz)
  have t3 : ∀ z, z ∈ A → z ∈ os.take (m + 1) := fun z hz => by rw [hos, ← hA, List.take_append]; simp only [List.mem_append]; exact .inl (by rw [List.take_of_length_le (by omega)]; exact hz)
  refine ⟨ho, g0, g1, fun r hr => ?_, fun r hr => ?_⟩
  · unfold rspO at hr ⊢
    rw [g0, t0]
    rw [g3] at hr
    exact resp_mono hall (by omega) (fun j _ hj => decide_eq_true (t3 _ (of_decide_eq_true hj))) hr
  · unfold rspO at hr ⊢
    rw [g2, t1]
    rw [g1] at hr
    exact resp_mono hall (by omega) (fun j _ hj => decide_eq_true (t2 _ (of_decide_eq_true hj))) hr
theorem opt_le {a b : Option Nat} (h : ∀ r, a = some r → ∃ q, b = some q ∧ q ≤ r) : optI a < 0 ∨ (0 ≤ optI b ∧ optI b ≤ optI a) := by
  cases a with
  | none => exact .inl (by simp [optI])
  | some r =>
    obtain ⟨q, e, hq⟩ := h r rfl
    subst e
    exact .inr ⟨by simp [optI], by simp [optI]; exact hq⟩
set_option maxRecDepth 100000 in
set_option maxHeartbeats 8000000 in
/-- laws.FnResponsePriority. -/
theorem fnResponsePriority_walk (a : Option Addr) (len cap : Nat) (w : World) (hb : Byts w a len cap) :
    Calls Try.prog 13 #[.slice a len cap] w fun e w' => e = .returned (.bool true) ∧ Below w.heap.size w w' := by
  have hm : cap ≤ maxLen := hb.2.2
  have hlc : len ≤ cap := hb.2.1
  unfold maxLen at hm
  have HB := Lib.hid hb
  clear hb
  by_cases hl : 1048576 < len
  · have hl' : (1048576 : Int) < len := by omega
    go_enter Try.func13, Try.ntmps13
    go_wp2
    go_ret
    exact ⟨rfl, Below.refl _ _⟩
  have hl' : ¬ (1048576 : Int) < len := by omega
  go_enter Try.func13, Try.ntmps13
  go_wp2_with fail
  refine (drawResponseTimes_any _ _ _ _ HB.out).mono ?_
  rintro e w1 ⟨g, cap1, og, ocap, ts, os, rfl, hn, hlc1, hcm1, hon, honc, hr1, ho1, b1⟩
  have R1 := Lib.hid hr1
  clear hr1 HB
  have O1 := Lib.hid ho1
  have I1 := Lib.hid ho1.intF'
  clear ho1
  go_wp2_with fail
  refine (responseTimes_any _ _ _ _ ts os _ R1.out I1.out (by omega) honc).mono ?_
  rintro e w2 ⟨⟨v, rfl, ho⟩, b2⟩
  obtain ⟨va, vc, rfl⟩ := own_shape ho
  have hrn : rtN ts os ≤ 12 := by unfold rtN; split <;> omega
  have V2 := Lib.hid ho.intF'
  have R2 := Lib.hid (R1.out.below b2)
  have I2 := Lib.hid (I1.out.below b2)
  have B2 := b1.trans (b2.mono b1.size)
  clear ho R1 I1 O1 b1 b2
  go_wp2_with fail
  refine (specResponseTimes_any _ _ _ _ ts os _ R2.out I2.out (by omega) honc).mono ?_
  rintro e w3 ⟨⟨v, rfl, ho⟩, b3⟩
  obtain ⟨ua, uc, rfl⟩ := own_shape ho
  have U3 := Lib.hid ho.intF'
  have V3 := Lib.hid (V2.out.below b3)
  have R3 := Lib.hid (R2.out.below b3)
  have I3 := Lib.hid (I2.out.below b3)
  have B3 := B2.trans (b3.mono B2.size)
  clear ho b3 R2 I2 V2 B2
  go_wp2_with fail
  refine (sameInts_same _ _ _ _ _ _ _ V3.out U3.out (by omega)).mono ?_
  rintro e w4 ⟨rfl, n4, hw4⟩
  have b4 : Below w3.heap.size w3 w4 := by rw [hw4]; exact below_drewN _ _
  have V4 := Lib.hid (V3.out.below b4)
  have R4 := Lib.hid (R3.out.below b4)
  have I4 := Lib.hid (I3.out.below b4)
  have B4 := B3.trans (b4.mono B3.size)
  clear hw4 b4 R3 I3 V3 B3 U3
  cases hv : ordB ts os with
  | false =>
    have hz := rtN_no hv
    rw [hz]
    go_wp2_with fail
    refine (alive_any _).mono ?_
    rintro e w6 ⟨rfl, b6⟩
    go_wp2
    go_ret
    exact ⟨rfl, B4.trans (b6.mono B4.size)⟩
  | true =>
    have HV := Lib.hid hv
    have hlen : os.length = ts.length := (ordB_iff.1 hv).2.1
    have hn5 : os.length ≤ 5 := by have h1 := ordB_iff.1 hv; have := (sv_all h1.1).2; omega
    have hz := rtN_yes hv
    rw [hz]
    rw [hz] at V4
    clear hz hv hrn
    by_cases hs2 : ts.length < 2
    · have hs2' : (ts.length : Int) < 2 := by omega
      clear hlen
      go_wp2_with fail
      refine (alive_any _).mono ?_
      rintro e w6 ⟨rfl, b6⟩
      go_wp2
      go_ret
      exact ⟨rfl, B4.trans (b6.mono B4.size)⟩
    · have hs2' : ¬ (ts.length : Int) < 2 := by omega
      obtain ⟨n1, hn1⟩ : ∃ n1, n1 + 1 = os.length := ⟨os.length - 1, by omega⟩
      have hw1 : IntKind.i64.wrap ((os.length : Int) - 1) = (n1 : Int) := by rw [IntWalk.i64_in _ (by omega)]; omega
      have hne0 : ((n1 : Int) == 0) = false := by simp; omega
      obtain ⟨m, hmm⟩ : ∃ m, m = len % n1 := ⟨_, rfl⟩
      have hmb : m < n1 := by rw [hmm]; exact Nat.mod_lt _ (by omega)
      have htm : (len : Int).tmod (n1 : Int) = (m : Int) := by rw [hmm]; rfl
      have hm1 : m + 1 < os.length := by omega
      have hml : m < os.length := by omega
      have HSW := Lib.hid (swp_facts HV.out hm1)
      have HLEN := Lib.hid hlen
      have hya := ord_at HV.out hm1
      have hyb := ord_at HV.out hml
      obtain ⟨i0, hi, hz, hsz, hby⟩ := info_parts intInfo
      have HI := Lib.hid (And.intro hi (And.intro hz (And.intro hsz hby)))
      clear hi hz hsz hby hmm hs2
      obtain ⟨x, hx⟩ : ∃ x, x = (os.getD m 0).toNat := ⟨_, rfl⟩
      obtain ⟨y, hy⟩ : ∃ y, y = (os.getD (m + 1) 0).toNat := ⟨_, rfl⟩
      have hx' : os.getD m 0 = (x : Int) := by omega
      have hy' : os.getD (m + 1) 0 = (y : Int) := by omega
      rw [hx', hy'] at HSW
      have hxl : x < ts.length := by omega
      have hyl : y < ts.length := by omega
      have hx0 : (0 : Int) ≤ x := by omega
      have hx1 : (x : Int) < ts.length := by omega
      have hy0 : (0 : Int) ≤ y := by omega
      have hy1 : (y : Int) < ts.length := by omega
      have HX := Lib.hid hx'
      have HY := Lib.hid hy'
      have hw2 : IntKind.i64.wrap ((1 : Int) + (m : Int)) = (m : Int) + 1 := by rw [IntWalk.i64_in _ (by omega)]; omega
      have hw3 : IntKind.i64.wrap ((m : Int) + 1 - 1) = (m : Int) := by rw [IntWalk.i64_in _ (by omega)]; omega
      have hc0 : (0 : Int) ≤ (m : Int) := by omega
      have hc1 : (m : Int) < os.length := by omega
      have hc2 : (0 : Int) ≤ (m : Int) + 1 := by omega
      have hc3 : (m : Int) + 1 < os.length := by omega
      clear hx hy hx' hy' hya hyb hlen
      have NEWS := Lib.hid (show ∀ o : Obj, ∀ (j : Nat) (u : Value), (vals (fun k => os.getD k 0) os.length)[j]? = some u → (w4.alloc o).cell? ((⟨og, 0, none⟩ : Addr).add j) = some u from fun o j u hj => by
        have := I4.out.news (below_box w4 o) 0 os.length (by omega) j u (by simpa using hj)
        simpa using this)
      go_wp2_with (
        at_builtin
        refine wpList_append_own _ rfl (.tmp 39) (.tmp 40) 23 rfl w4.heap.size 3 i0 _ 1 8 Try.underlying23 HI.out.1 HI.out.2.1 HI.out.2.2.1 HI.out.2.2.2 rfl (by decide) _ 0 (vals (fun k => os.getD k 0) 0) rfl (OwnI.empty w4 _) ⟨og, 0, none⟩ os.length ocap (vals (fun k => os.getD k 0) os.length) rfl (by rw [vals_len, Nat.mul_one]) (NEWS.out _) (vals_one _ _) (by unfold maxLen; omega) (by omega) (below_box _ _).size ?_
        intro v' w' hown' hgrow hnil
        have BX : Below w4.heap.size w4 w' := (below_box w4 _).grown hgrow (below_box w4 _).size (fun k hk => (OwnI.empty w4 (fun _ => 0)).from k hk)
        have O3 := (show OwnI w' w4.heap.size v' os.length (fun k => os.getD k 0) by unfold OwnI; simpa [vals] using hown')
        obtain ⟨g', c', e, hg1, -, hcc, -, -⟩ := O3.at (by omega)
        subst e
        have z0 := (O3.cellAt (k := m + 1) hm1).1
        have z1 := (O3.cellAt (k := m + 1) hm1).2.1
        obtain ⟨bo, oo, ea, hbo, x0⟩ := (I4.out.below BX) m hml
        obtain ⟨bo', oo', ea', hbo', x1⟩ := (I4.out.below BX) (m + 1) hm1
        simp only [Option.some.injEq, Addr.mk.injEq, and_true] at ea ea'
        obtain ⟨rfl, rfl⟩ := ea
        obtain ⟨-, rfl⟩ := ea'
        simp only [HX.out, HY.out, Nat.zero_add] at x0 x1 z0
        have O4 := O3.set hm1 (x : Int)
        have z2 := (O4.cellAt (k := m) hml).1
        have z3 := (O4.cellAt (k := m) hml).2.1
        have BX1 := (BX.setCell (p := ⟨g', m + 1, none⟩) hg1 (.int .i64 (x : Int)))
        have x2 : (w'.setCell ⟨g', m + 1, none⟩ (.int .i64 (x : Int))).cell? ⟨og, m + 1, none⟩ = some (.int .i64 (y : Int)) := by
          obtain ⟨bo', oo', ea', _, x1'⟩ := (I4.out.below BX1) (m + 1) hm1
          simp only [Option.some.injEq, Addr.mk.injEq, and_true] at ea'
          obtain ⟨rfl, rfl⟩ := ea'
          simpa only [HY.out, Nat.zero_add] using x1'
        have OS := Lib.hid (own_list (O4.set hml (y : Int)))
        have BX2 := Lib.hid (BX1.setCell (p := ⟨g', m, none⟩) hg1 (.int .i64 (y : Int)))
        rw [show (List.range os.length).map (fun k => if k = m then (y : Int) else if k = m + 1 then (x : Int) else os.getD k 0) = swpL os m (x : Int) (y : Int) from rfl] at OS
        generalize hql : swpL os m (x : Int) (y : Int) = ql at OS HSW
        have hqn : ql.length = os.length := by rw [← hql]; exact swpL_len _ _ _ _
        have HQN := Lib.hid hqn
        have hne : ¬ m = m + 1 := by omega
        have hne2 : ¬ m + 1 = m := by omega
        clear hql hqn O3 O4 hown' hgrow hnil BX BX1 hmb htm hn1 hw1 hne0)
      have CF := responseTimes_any (some ⟨g, 0, none⟩) (some ⟨g', 0, none⟩) cap1 c' ts ql _ (R4.out.below BX2.out) (by have := OS.out.intF'; rw [HQN.out]; exact this) (by omega) (by rw [HQN.out]; exact hcc)
      rw [HQN.out] at CF
      refine CF.mono ?_
      rintro e w9 ⟨⟨v, rfl, ho⟩, b9⟩
      clear CF
      obtain ⟨na, nc, rfl⟩ := own_shape ho
      have hrq := rtN_yes HSW.out.1
      rw [hrq] at ho ⊢
      have hc9 := ho.intF'
      clear ho hrq
      have BXX := BX2.out.trans (b9.mono BX2.out.size)
      obtain ⟨b1, o1, ea, -, x0⟩ := (I4.out.below BXX) m hml
      simp only [Option.some.injEq, Addr.mk.injEq, and_true] at ea
      obtain ⟨rfl, rfl⟩ := ea
      obtain ⟨b1, o1, ea, -, x1⟩ := (I4.out.below BXX) (m + 1) hm1
      simp only [Option.some.injEq, Addr.mk.injEq, and_true] at ea
      obtain ⟨rfl, rfl⟩ := ea
      simp only [HX.out, HY.out, Nat.zero_add] at x0 x1
      obtain ⟨bv, ov, rfl, -, v0⟩ := (V4.out.below BXX) x hxl
      obtain ⟨bv', ov', ea, -, v1⟩ := (V4.out.below BXX) y hyl
      simp only [Option.some.injEq, Addr.mk.injEq, and_true] at ea
      obtain ⟨rfl, rfl⟩ := ea
      obtain ⟨bn, on, rfl, -, n0⟩ := hc9 x hxl
      obtain ⟨bn', on', ea, -, n1⟩ := hc9 y hyl
      simp only [Option.some.injEq, Addr.mk.injEq, and_true] at ea
      obtain ⟨rfl, rfl⟩ := ea
      have f0 : rtF ts os x = optI (rspO ts os m) := by rw [rtF, rk_place HV.out hml HX.out]
      have f1 : rtF ts os y = optI (rspO ts os (m + 1)) := by rw [rtF, rk_place HV.out hm1 HY.out]
      have f2 : rtF ts ql x = optI (rspO ts ql (m + 1)) := by rw [rtF, rk_place HSW.out.1 (by rw [HQN.out]; exact hm1) HSW.out.2.2.1]
      have f3 : rtF ts ql y = optI (rspO ts ql m) := by rw [rtF, rk_place HSW.out.1 (by rw [HQN.out]; exact hml) HSW.out.2.1]
      have k0 := opt_le HSW.out.2.2.2.1
      have k1 := opt_le HSW.out.2.2.2.2
      rw [← f1, ← f3] at k0
      rw [← f0, ← f2] at k1
      generalize rtF ts os x = p1 at *
      generalize rtF ts os y = p0 at *
      generalize rtF ts ql x = q1 at *
      generalize rtF ts ql y = q0 at *
      have BE := B4.trans (BXX.mono B4.size)
      clear f0 f1 f2 f3 hc9
      by_cases k4 : p0 < 0
      · have hd0 : decide (p0 < 0) = true := decide_eq_true k4
        by_cases k5 : q1 < 0
        · have hd3 : decide (q1 < 0) = true := decide_eq_true k5
          clear k0 k1
          go_wp2
          go_quiet (fail)
          go_wp2
          go_ret
          exact ⟨rfl, below_drewN' BE _⟩
        · have hd3 : decide (q1 < 0) = false := decide_eq_false k5
          have hd4 : decide (0 ≤ p1) = true := decide_eq_true (by omega)
          have hd5 : decide (p1 ≤ q1) = true := decide_eq_true (by omega)
          have hd6 : decide (p1 < 0) = false := decide_eq_false (by omega)
          clear k0 k1
          go_wp2
          go_quiet (fail)
          go_wp2
          go_ret
          exact ⟨rfl, below_drewN' BE _⟩
      · have hd0 : decide (p0 < 0) = false := decide_eq_false k4
        have hd1 : decide (0 ≤ q0) = true := decide_eq_true (by omega)
        have hd2 : decide (q0 ≤ p0) = true := decide_eq_true (by omega)
        by_cases k5 : q1 < 0
        · have hd3 : decide (q1 < 0) = true := decide_eq_true k5
          clear k0 k1
          go_wp2
          go_quiet (fail)
          go_wp2
          go_ret
          exact ⟨rfl, below_drewN' BE _⟩
        · have hd3 : decide (q1 < 0) = false := decide_eq_false k5
          have hd4 : decide (0 ≤ p1) = true := decide_eq_true (by omega)
          have hd5 : decide (p1 ≤ q1) = true := decide_eq_true (by omega)
          have hd6 : decide (p1 < 0) = false := decide_eq_false (by omega)
          clear k0 k1
          go_wp2
          go_quiet (fail)
          go_wp2
          go_ret
          exact ⟨rfl, below_drewN' BE _⟩

end Go.Proofs.Ytocppoobcanhiaa
