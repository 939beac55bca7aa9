/- laws.FnSynchronous: for every slice of bytes the law returns true (the program keeps promise 49 at the task set and the limit that the bytes draw, and answers there as the reference does) and leaves its argument as it was. No condition. -/
import Derived.Test.YtpnfbgbbmpacfaaEdfImpl
import Derived.Test.YtpnfbgbbmpacfaaDrawSync
import Derived.Test.YtpnfbgbbmpacfaaSame
import Derived.Test.YtpnfbgbbmpacfaaDemImpl
import Derived.Test.YtpnfbgbbmpacfaaLegalLaw
import Derived.Test.YtpnfbgbbmpacfaaRows
import Derived.Test.YtpnfbgbbmpacfaaArgB
namespace Go.Proofs.Ytpnfbgbbmpacfaa
open Go.RowKit Go.Deep

theorem sum_le {f : Nat → Nat} {c : Nat} : ∀ {n : Nat}, (∀ k, k < n → f k ≤ c) → sumN f n ≤ c * n
  | 0, _ => Nat.zero_le _
  | n + 1, h => by
    have h1 := sum_le (n := n) fun k hk => h k (by omega)
    have h2 := h n (Nat.lt_succ_self n)
    simp only [sumN, Nat.mul_add, Nat.mul_one]
    omega

set_option maxRecDepth 100000 in
set_option maxHeartbeats 8000000 in
/-- laws.FnSynchronous. -/
theorem fnSynchronous_walk (a : Option Addr) (len cap : Nat) (w : World) (hb : Byts w a len cap) :
    Calls Try.prog 4 #[.slice a len cap] w fun e w' => e = .returned (.bool true) ∧ Below w.heap.size w w' := by
  have hm : cap ≤ maxLen := hb.2.2
  have hlc : len ≤ cap := hb.2.1
  unfold maxLen at hm
  have HB := Lib.hid hb
  clear hb
  by_cases hl : 1048576 < len
  · have hl' : (1048576 : Int) < len := by omega
    go_enter Try.func4, Try.ntmps4
    go_wp2
    go_ret
    exact ⟨rfl, Below.refl _ _⟩
  have hl' : ¬ (1048576 : Int) < len := by omega
  go_enter Try.func4, Try.ntmps4
  go_wp2_with fail
  refine (drawSynchronous_any _ _ _ _ HB.out).mono ?_
  rintro e w1 ⟨g, cap1, ts, x, rfl, hx0, hx1, hn, hlc1, hcm1, hr1, b1⟩
  have R1 := Lib.hid hr1
  clear hr1 HB hcm1
  go_wp2_with fail
  refine (synchronous_any _ _ ts x _ R1.out (by omega)).mono ?_
  rintro e w2 ⟨v2, rfl, o2, b2⟩
  obtain ⟨ja, jcap, rfl⟩ := o2.shape
  have R2 := Lib.hid (R1.out.below b2)
  have O2 := Lib.hid o2
  clear o2
  go_wp2_with fail
  refine (specSynchronous_any _ _ ts x _ R2.out (by omega)).mono ?_
  rintro e w3 ⟨v3, rfl, o3, b3⟩
  obtain ⟨ja3, jcap3, rfl⟩ := o3.shape
  have B3 : Below w.heap.size w w3 := b1.trans ((b2.trans (b3.mono b2.size)).mono b1.size)
  have R3 := Lib.hid (R2.out.below b3)
  have O3 := Lib.hid (O2.out.below b3)
  have hle : (syB ts x).length ≤ 60 := by
    unfold syB
    split
    · rename_i h
      exact (legB_iff.1 (sy_legal h.1 (by omega))).2.1
    · simp
  have J3 := Lib.hid (And.intro O3.out.rowJ o3.rowJ)
  clear R1 R2 O2 o3 b1 b2 b3
  obtain ⟨js, hjs⟩ : ∃ js, js = syB ts x := ⟨_, rfl⟩
  rw [← hjs] at hle
  rw [← hjs] at J3 O3
  rw [← hjs]
  have HJS := Lib.hid hjs
  clear hjs
  go_wp2_with fail
  refine (sameJobs_same _ _ _ _ js _ J3.out.1 J3.out.2 (by omega)).mono ?_
  rintro e w4 ⟨rfl, l4, rfl⟩
  have B4 : Below w.heap.size w (w3.drewN l4) := below_drewN' B3 _
  have R4 := Lib.hid (R3.out.below (below_drewN _ l4))
  have O4 := Lib.hid (O3.out.below (below_drewN _ l4))
  have hs3 : (w3.drewN l4).heap.size = w3.heap.size := rfl
  go_wp2_with fail
  refine (specSetValid_any _ _ ts _ R4.out (by omega)).mono ?_
  rintro e w5 ⟨rfl, b5⟩
  have B5 : Below w.heap.size w w5 := B4.trans (b5.mono (by rw [hs3]; exact B3.size))
  have R5 := Lib.hid (R4.out.below b5)
  have O5 := Lib.hid (O4.out.below b5)
  clear R3 R4 O3 O4 J3 B3 B4 b5 hs3
  by_cases hv : svB ts = true
  · rw [hv]
    by_cases hxx : 0 ≤ x ∧ x ≤ 120
    · obtain ⟨M, rfl⟩ := Int.eq_ofNat_of_zero_le hxx.1
      have hM : M ≤ 120 := by omega
      have hM0 : ¬ (M : Int) < 0 := by omega
      have hM1 : ¬ (120 : Int) < M := by omega
      have HV := Lib.hid hv
      have HY := Lib.hid (show js = sy ts M M by rw [HJS.out, syB, if_pos ⟨hv, by omega, by omega⟩]; simp)
      have HSY := Lib.hid (show Sy ts M M 0 js by rw [HY.out]; exact sy_sy (all_of_sv hv) hM (Nat.le_refl _))
      have HLG := Lib.hid (show legB ts js = true by rw [HY.out]; exact sy_legal hv hM)
      clear hxx hv hx0 hx1
      have RJ5 := Lib.hid O5.out.rowJ
      go_wp2
      go_loopg [6, 7] js.length (fun m s z wr => ∃ k l : Nat, m + k = js.length ∧ z = .int .i64 k ∧ s = .int .i64 (sumN (jex js) k : Nat) ∧ wr = w5.drewN l)
      case atStart => exact ⟨0, 0, by omega, rfl, rfl, rfl⟩
      case round =>
        obtain ⟨k, l, hk, rfl, rfl, rfl⟩ := hrel
        have HK := Lib.hid hk
        have hkk : k ≤ js.length := by omega
        have hsum : sumN (jex js) k ≤ 1000 * k := sum_le fun j hj => (leg_fits HLG.out).2.1 j (by omega)
        obtain ⟨S, hS⟩ : ∃ S, S = sumN (jex js) k := ⟨_, rfl⟩
        rw [← hS] at hsum ⊢
        have HS := Lib.hid hS
        clear hk hS
        by_cases hkl : k < js.length
        · have hk0 : (0 : Int) ≤ k := by omega
          have hk1 : (k : Int) < js.length := by omega
          obtain ⟨bj, oj, ej, _, c0, _, c2, c3⟩ := RJ5.out k hkl
          subst ej
          obtain ⟨hd1, hd2⟩ := HSY.out.dl k hkl
          obtain ⟨hid, _, hidl, _⟩ := leg_ids HLG.out hkl
          rw [hid] at c0
          obtain ⟨bt, ot, et, _, y0, _, _⟩ := R5.out.at hidl
          simp only [Option.some.injEq, Addr.mk.injEq, and_true] at et
          obtain ⟨rfl, rfl⟩ := et
          rw [Nat.zero_add, ← hd2] at y0
          rw [(leg_fits HLG.out).1.ex k hkl] at c3 y0
          have hxb := (leg_fits HLG.out).2.1 k hkl
          have hex : (edfP js).ex k = jex js k := rfl
          rw [hex] at c3 y0 hxb
          obtain ⟨X, hX⟩ : ∃ X, X = jex js k := ⟨_, rfl⟩
          obtain ⟨I, hI⟩ : ∃ I, I = jid js k := ⟨_, rfl⟩
          obtain ⟨D, hD⟩ : ∃ D, D = (jb js k).2.2.1 := ⟨_, rfl⟩
          rw [← hX] at c3 y0 hxb
          rw [← hI] at c0 y0 hidl
          rw [← hD] at c2 hd1
          have HXX := Lib.hid hX
          have hI0 : (0 : Int) ≤ I := by omega
          have hI1 : (I : Int) < ts.length := by omega
          clear hX hI hD hid hd2 hex
          go_wp2
          have hd : ¬ (M : Int) < D := by omega
          go_quiet (fail)
          go_wp2
          go_roundg (gk - 1)
          case measure => have := HK.out; omega
          case rel => exact ⟨k + 1, l + nq, by have := HK.out; omega, by go_num, by simp only [sumN]; rw [← HS.out, ← HXX.out]; go_num, by first | rfl | rw [World.drewN_drewN]⟩
        · obtain rfl : k = js.length := by omega
          have R6 := Lib.hid (R5.out.below (below_drewN _ l))
          have RJ6 := Lib.hid (RJ5.out.below (below_drewN _ l))
          have B6 : Below w.heap.size w (w5.drewN l) := below_drewN' B5 _
          have HSM := Lib.hid (show js.length < 60 → S = dem ts M by intro h; rw [HS.out, ← sy_dem HV.out (by rw [← HY.out]; exact h), ← HY.out]; rfl)
          have hb6 := B6.size
          go_wp2_with fail
          refine (jobsLegal_any _ _ _ _ ts js _ R6.out RJ6.out (by omega) (by omega)).mono ?_
          rintro e w7 ⟨rfl, b7⟩
          have B7 : Below w.heap.size w w7 := B6.trans (b7.mono hb6)
          have R7 := Lib.hid (R6.out.below b7)
          rw [HLG.out]
          by_cases h60 : js.length = 60
          · have h60' : ((js.length : Int) == 60) = true := beq_iff_eq.2 (by omega)
            clear h60
            go_wp2
            go_ret
            exact ⟨rfl, B7⟩
          · have h60' : ((js.length : Int) == 60) = false := beq_eq_false_iff_ne.2 (by omega)
            have hS2 := HSM.out (by omega)
            have hbd := hyp_bd ts (sv_all HV.out).1
            clear h60
            go_wp2_with fail
            refine (hyperperiod_any _ _ _ _ R7.out (by omega)).mono ?_
            rintro e w8 ⟨rfl, b8⟩
            have B8 : Below w.heap.size w w8 := B7.trans (b8.mono B7.size)
            have R8 := Lib.hid (R7.out.below b8)
            rw [hyB_yes HV.out]
            obtain ⟨H, hH⟩ : ∃ H, H = hyp ts := ⟨_, rfl⟩
            rw [← hH] at hbd ⊢
            have HH := Lib.hid hH
            clear hH
            by_cases hgt : H < M
            · have hgt' : (H : Int) < M := by omega
              go_wp2
              go_ret
              exact ⟨rfl, B8⟩
            · have hgt' : ¬ (H : Int) < M := by omega
              have hdm : demB ts (M : Int) = (S : Int) := by rw [demB_yes HV.out (by have := HH.out; omega), hS2]
              go_wp2_with fail
              refine (demand_any _ _ ts (M : Int) _ R8.out (by omega)).mono ?_
              rintro e w9 ⟨rfl, b9⟩
              rw [hdm]
              go_wp2
              go_ret
              exact ⟨rfl, B8.trans (b9.mono B8.size)⟩
    · have hj0 : js = [] := by rw [HJS.out, syB, if_neg (fun h => hxx h.2)]
      subst hj0
      by_cases hx2 : x < 0
      · go_wp2_with fail
        refine (alive_any _).mono ?_
        rintro e w8 ⟨rfl, b8⟩
        go_wp2
        go_ret
        exact ⟨rfl, B5.trans (b8.mono B5.size)⟩
      · have hx3 : (120 : Int) < x := by omega
        go_wp2_with fail
        refine (alive_any _).mono ?_
        rintro e w8 ⟨rfl, b8⟩
        go_wp2
        go_ret
        exact ⟨rfl, B5.trans (b8.mono B5.size)⟩
  · have hv' : svB ts = false := by simpa using hv
    have hj0 : js = [] := by rw [HJS.out, syB, if_neg (fun h => hv h.1)]
    subst hj0
    rw [hv']
    go_wp2_with fail
    refine (alive_any _).mono ?_
    rintro e w8 ⟨rfl, b8⟩
    go_wp2
    go_ret
    exact ⟨rfl, B5.trans (b8.mono B5.size)⟩

end Go.Proofs.Ytpnfbgbbmpacfaa

namespace Go.Proofs.Ytpnfbgbbmpacfaa
open Go.ChangeShapes Go.WideShapes Go.ChangeAt Go.RowKit Go.Joins

set_option maxRecDepth 100000 in
theorem fnSynchronous_lifted (os : Os) (started : os.Started) (H : Type) (enc : TypeId × Value → H) :
    ReturnsInHanded {} Try.checked os 4 .any (Rows.fnSynchronousSpec.pre6 enc Try.prog Try.f4 Rows.fnSynchronousRow.domain false) (Rows.fnSynchronousSpec.post enc Try.prog Try.f4 false true false false) := by
  refine returnsInHanded_of_change (C := Try.checked) ownKnobs started (by kernel_rfl) Try.func4
    (ChangeSpec.witness6 (enc := enc) (C := Try.checked) false ⟨#[], #[.slice none 0 0], []⟩ 8 (by kernel_rfl) (by kernel_rfl) (by kernel_rfl) (by kernel_rfl)) ?_
  intro W base args ds gs before hval0 hW _ _
  have hval : ∀ (j : Nat) t v, Try.f4.params[j]? = some t → args[j]? = some v → Value.okWide Try.prog W .any base t v := hval0
  have hW' := hW
  obtain ⟨p, q, hA0, hV, rfl, hfz, hnd⟩ := hW
  have hA : DataW.TrodAll enc Try.prog W 0 (fun _ => true) true Try.f4.params.toList args.toList ds p := hA0
  rw [Try.params4] at hA hval
  obtain ⟨v0, d0, rfl, rfl, h0⟩ := trodAll_one hA
  obtain ⟨rfl, rfl⟩ := trodVars_none hV
  have k0 := h0
  have lt0 : ∀ x ∈ p, x.block < W.heap.size := by obtain ⟨m, hm⟩ := k0; exact DataW.trod_lt m _ _ _ hm
  clear hA0 hval0
  obtain ⟨a, len, cap, rfl, hb⟩ := bytes_of_arg (hval 0 22 v0 rfl rfl) h0
  refine (fnSynchronous_walk a len cap W hb).mono fun e W' ⟨he, bel⟩ => ?_
  subst he
  exact ⟨_, rfl, _, _, _, [], _, [], hW', trodAll_mk1 (shut_bool Try.underlying4 _), trodAll_mk1 (Below.trod laidOut (by kernel_rfl) (of_decide_eq_true (by kernel_rfl)) k0 bel lt0), rfl, bel.frame _, fun h => by cases h⟩

/-- The given statement. -/
theorem fnSynchronous_holds : Rows.FnSynchronousSaid :=
  OpenClaim.holds_of_wide 4 Try.f4 rfl rfl rfl rfl rfl rfl rfl ⟨rfl, rfl, rfl, rfl, rfl⟩ rfl rfl rfl rfl rfl (by kernel_rfl) Try.func4 (by kernel_rfl)
    (of_decide_eq_true (by kernel_rfl)) (by unfold Func.isWrapper; first | (rw [if_pos (by decide +kernel)]; kernel_rfl) | (rw [if_neg (by decide +kernel)]; exact ⟨rfl, rfl⟩))
    (fun os started H enc _ => fnSynchronous_lifted os started H enc)
#print axioms fnSynchronous_holds
end Go.Proofs.Ytpnfbgbbmpacfaa
