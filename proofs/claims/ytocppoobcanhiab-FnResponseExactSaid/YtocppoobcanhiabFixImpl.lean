/- Contracts of slices.Index and slices.Contains of integers, and of the program's FixedFeasible. Conditions: the slices hold what is said, at most 2^20 entries. -/
import Derived.Test.YtocppoobcanhiabRtImpl
namespace Go.Proofs.Ytocppoobcanhiab
open Go.RowKit Go.Deep

/-- slices.Index[[]int,int]. -/
theorem index_any (a : Option Addr) (cap n : Nat) (f : Nat → Int) (x : Int) (w : World) (hf : IntF w a n f) (hn : n ≤ 1048576) :
    Calls Try.prog 119 #[.slice a n cap, .int .i64 x] w fun e w' =>
      e = .returned (.int .i64 (idF f x n)) ∧ w = w' := by
  have HF := Lib.hid hf
  clear hf
  go_enter Try.func119, Try.ntmps119
  go_wp2
  go_loopg [8] n (fun m i wr => ∃ k : Nat, m + k = n ∧ i = .int .i64 k ∧ (∀ j, j < k → f j ≠ x) ∧ w = wr)
  case atStart => exact ⟨0, rfl, rfl, fun j hj => by omega, rfl⟩
  case round =>
    obtain ⟨k, hk, rfl, hno, rfl⟩ := hrel
    have HK := Lib.hid hk
    have HN := Lib.hid hno
    have hk' : k ≤ n := by omega
    clear hk hno
    by_cases hlt : k < n
    · obtain ⟨b, off, rfl, hbs, c0⟩ := HF.out k hlt
      obtain ⟨y, hy⟩ : ∃ y, y = f k := ⟨_, rfl⟩
      rw [← hy] at c0
      have HY := Lib.hid hy
      clear hy
      by_cases hv : x = y
      · subst hv
        go_wp2
        go_ret
        exact ⟨by rw [idF_hit HN.out HY.out.symm n hlt]; rfl, rfl⟩
      · have HV := Lib.hid hv
        go_wp2
        go_roundg (gk - 1)
        case measure => have := HK.out; omega
        case rel => exact ⟨k + 1, by have := HK.out; omega, by go_num, fun j hj => by
          by_cases e : j = k
          · subst e; rw [← HY.out]; exact fun h => HV.out h.symm
          · exact HN.out j (by omega), rfl⟩
    · obtain rfl : k = n := by omega
      go_wp2
      go_ret
      exact ⟨by rw [idF_none HN.out]; rfl, rfl⟩

/-- slices.Contains[[]int,int]. -/
theorem contains_any (a : Option Addr) (cap n : Nat) (f : Nat → Int) (x : Int) (w : World) (hf : IntF w a n f) (hn : n ≤ 1048576) :
    Calls Try.prog 88 #[.slice a n cap, .int .i64 x] w fun e w' =>
      e = .returned (.bool (decide (0 ≤ idF f x n))) ∧ w = w' := by
  have HF := Lib.hid hf
  clear hf
  go_enter Try.func88, Try.ntmps88
  go_wp2_with fail
  refine (index_any _ _ _ _ _ _ HF.out hn).mono ?_
  rintro e w1 ⟨rfl, rfl⟩
  go_wp2
  go_ret
  exact ⟨rfl, rfl⟩

theorem fix_rt {ts : List T3} {os : List Int} (h : ordB ts os = true) : (!decide (0 ≤ idF (rtF ts os) (-1) ts.length)) = fixB ts os := by
  rw [Bool.eq_iff_iff, Bool.not_eq_true', decide_eq_false_iff_not, Int.not_le, idF_neg, fixB, h, Bool.true_and, List.all_eq_true]
  have hl := (ordB_iff.1 h).2.1
  constructor
  · intro h1 k hk
    have hk := List.mem_range.1 hk
    have hyb := ord_at h hk
    have hp := rk_place h hk (show os.getD k 0 = ((os.getD k 0).toNat : Int) by omega)
    have h2 := h1 (os.getD k 0).toNat (by omega)
    unfold rtF at h2
    rw [hp] at h2
    cases hz : rspO ts os k with
    | none => rw [hz] at h2; simp [optI] at h2
    | some r => rfl
  · intro h1 i hi
    have h2 := h1 (rk os i) (List.mem_range.2 (rk_lt (ord_all h hi)))
    unfold rtF
    cases hz : rspO ts os (rk os i) with
    | none => rw [hz] at h2; simp at h2
    | some r => simp [optI]

/-- impl.FixedFeasible. -/
theorem fixedFeasible_any (ta oa : Option Addr) (tcap ocap : Nat) (ts : List T3) (os : List Int) (w : World) (hr : Row w ta ts) (ho : IntF w oa os.length fun k => os.getD k 0) (hn : ts.length ≤ 1099511627776) (hc : os.length ≤ ocap) :
    Calls Try.prog 46 #[.slice ta ts.length tcap, .slice oa os.length ocap] w fun e w' =>
      e = .returned (.bool (fixB ts os)) ∧ Below w.heap.size w w' := by
  have HR := Lib.hid hr
  have HO := Lib.hid ho
  clear hr ho
  cases hv : ordB ts os with
  | false =>
    have HN := Lib.hid (show fixB ts os = false by rw [fixB, hv]; rfl)
    go_enter Try.func46, Try.ntmps46
    go_wp2_with (go_at_call 57; refine (orderValid_any _ _ _ _ _ _ _ HR.out HO.out hn).mono ?_; rintro e w1 ⟨rfl, b1⟩; rw [hv])
    go_ret
    exact ⟨ret_bool HN.out.symm, b1⟩
  | true =>
    have HV := Lib.hid hv
    have hn5 : ts.length ≤ 5 := (sv_all (ordB_iff.1 hv).1).2
    go_enter Try.func46, Try.ntmps46
    go_wp2_with fail
    refine (orderValid_any _ _ _ _ _ _ _ HR.out HO.out hn).mono ?_
    rintro e w1 ⟨rfl, b1⟩
    rw [HV.out]
    clear hv
    go_wp2_with fail
    refine (responseTimes_any _ _ _ _ _ _ _ (HR.out.below b1) (HO.out.below b1) hn hc).mono ?_
    rintro e w2 ⟨⟨v, rfl, hov⟩, b2⟩
    rw [rtN_yes HV.out] at hov
    obtain ⟨va, vc, rfl⟩ := own_shape hov
    have OV := Lib.hid hov.intF'
    clear hov
    go_wp2_with fail
    refine (contains_any _ _ _ _ _ _ OV.out (by omega)).mono ?_
    rintro e w3 ⟨rfl, rfl⟩
    obtain ⟨c, hc2⟩ : ∃ c, c = decide (0 ≤ idF (rtF ts os) (-1) ts.length) := ⟨_, rfl⟩
    rw [← hc2]
    have HC := Lib.hid hc2
    clear hc2
    go_wp2
    go_ret
    exact ⟨ret_bool (by rw [HC.out]; exact fix_rt HV.out), b1.trans (b2.mono b1.size)⟩

end Go.Proofs.Ytocppoobcanhiab
