/- Servers and requests in memory; contracts of spec.ServersValid and spec.ArrivalsLegal. Conditions: the slices hold what is said, at most 2^40 entries. -/
import Derived.Test.YtnhbmegglpgkoaaCbs3
import Derived.Test.YtnhbmegglpgkoaaJobs
import Derived.Test.YtnhbmegglpgkoaaUtil
import Derived.BigQuiet
namespace Go.Proofs.Ytnhbmegglpgkoaa
open Go.RowKit

/-- A slice that holds these servers, or these requests. -/
def Row2 (w : World) (a : Option Addr) (l : List A2) : Prop :=
  ∀ k, k < l.length → ∃ b off, a = some ⟨b, off, none⟩ ∧ b < w.heap.size ∧
    w.cell? ⟨b, off + k * 2, none⟩ = some (.int .i64 (ab l k).1) ∧ w.cell? ⟨b, off + k * 2 + 1, none⟩ = some (.int .i64 (ab l k).2)
theorem Row2.below {w w' : World} {a : Option Addr} {l : List A2} (h : Row2 w a l) (hb : Below w.heap.size w w') : Row2 w' a l := by
  intro k hk
  obtain ⟨b, off, ha, hlt, h0, h1⟩ := h k hk
  exact ⟨b, off, ha, Nat.lt_of_lt_of_le hlt hb.size, (hb.cell (p := ⟨b, _, none⟩) hlt).trans h0, (hb.cell (p := ⟨b, _, none⟩) hlt).trans h1⟩
theorem l1In_is {n lo hi : Int} {b : Bool} (h : inB n lo hi = b) (w : World) : Calls Try.prog 22 #[.int .i64 n, .int .i64 lo, .int .i64 hi] w fun e w' => e = .returned (.bool b) ∧ w = w' := by
  have := l1In_any n lo hi w
  rw [h] at this
  exact this
theorem ssB_yes {ss : List A2} (h : ∀ j, j < ss.length → ss1 (ab ss j) = true) : ssB ss = decide (ss.length ≤ 2) := by
  rw [ssB, Bool.and_eq_left_iff_imp.2]
  exact fun _ => List.all_eq_true.2 fun k hk => h k (List.mem_range.1 hk)
theorem ssB_no {ss : List A2} {k : Nat} (hk : k < ss.length) (h : ss1 (ab ss k) = false) : ssB ss = false := by
  rw [ssB, Bool.and_eq_false_iff]
  exact .inr (List.all_eq_false.2 ⟨k, List.mem_range.2 hk, by rw [h]; simp⟩)
theorem alB_yes {al : List A2} (h : ∀ j, j < al.length → al1 al j = true) : alB al = decide (al.length ≤ 20) := by
  rw [alB, Bool.and_eq_left_iff_imp.2]
  exact fun _ => List.all_eq_true.2 fun k hk => h k (List.mem_range.1 hk)
theorem alB_no {al : List A2} {k : Nat} (hk : k < al.length) (h : al1 al k = false) : alB al = false := by
  rw [alB, Bool.and_eq_false_iff]
  exact .inr (List.all_eq_false.2 ⟨k, List.mem_range.2 hk, by rw [h]; simp⟩)
theorem ss1_no {l : List A2} {k : Nat} {q p : Int} (h : (q, p) = ab l k) (hn : ¬ (1 ≤ q ∧ q ≤ p ∧ p ≤ 12)) : ss1 (ab l k) = false := by
  rw [← h]
  exact decide_eq_false hn
theorem ss1_yes {l : List A2} {k : Nat} {q p : Int} (h : (q, p) = ab l k) (hn : 1 ≤ q ∧ q ≤ p ∧ p ≤ 12) : ss1 (ab l k) = true := by
  rw [← h]
  exact decide_eq_true hn

set_option maxRecDepth 100000 in
set_option maxHeartbeats 4000000 in
/-- spec.ServersValid. -/
theorem specServersValid_any (a : Option Addr) (cap : Nat) (ss : List A2) (w : World) (hr : Row2 w a ss) (hn : ss.length ≤ 1099511627776) :
    Calls Try.prog 8 #[.slice a ss.length cap] w fun e w' => e = .returned (.bool (ssB ss)) ∧ Below w.heap.size w w' := by
  have HR := Lib.hid hr
  have CI := Lib.hid l1In_any
  clear hr
  go_enter Try.func8, Try.ntmps8
  go_wp2
  go_loopg [3] ss.length (fun m i wr => ∃ k : Nat, m + k = ss.length ∧ i = .int .i64 k ∧ (∀ j, j < k → ss1 (ab ss j) = true) ∧ Below w.heap.size w wr)
  case atStart => exact ⟨0, rfl, rfl, fun j hj => absurd hj (Nat.not_lt_zero _), Below.refl _ _⟩
  case round =>
    obtain ⟨k, hk, rfl, hall, B⟩ := hrel
    have HK := Lib.hid hk
    have HA := Lib.hid hall
    have hkk : k ≤ ss.length := by omega
    clear hk hall
    by_cases hlt : k < ss.length
    · obtain ⟨b, off, rfl, hbs, x0, x1⟩ := (HR.out.below B) k hlt
      obtain ⟨⟨q, p⟩, hQ⟩ : ∃ s, s = ab ss k := ⟨_, rfl⟩
      rw [← hQ] at x0 x1
      simp only at x0 x1
      have HQ := Lib.hid hQ
      have hk0 : (0 : Int) ≤ k := by omega
      have hk1 : (k : Int) < ss.length := by omega
      clear hQ
      by_cases h1 : 1 ≤ q ∧ q ≤ p
      · have C1 : inB q 1 p = true := decide_eq_true h1
        by_cases h2 : 1 ≤ p ∧ p ≤ 12
        · have C2 : inB p 1 12 = true := decide_eq_true h2
          have HY := Lib.hid (ss1_yes HQ.out ⟨h1.1, h1.2, h2.2⟩)
          clear h1 h2
          go_wp2
          go_quiet ((go_at_call 22; exact quiet_left (CI.out _ _ _ _)))
          go_wp2
          go_roundg (gk - 1)
          case measure => have := HK.out; omega
          case rel => exact ⟨k + 1, by have := HK.out; omega, by go_num, fun j hj => by
            by_cases e : j = k
            · subst e; exact HY.out
            · exact HA.out j (by omega), below_drewN' B _⟩
        · have C2 : inB p 1 12 = false := decide_eq_false h2
          have HY := Lib.hid (ssB_no hlt (ss1_no HQ.out (by omega)))
          clear h1 h2
          go_wp2
          go_quiet ((go_at_call 22; exact quiet_left (CI.out _ _ _ _)))
          go_wp2
          go_ret
          exact ⟨ret_bool HY.out.symm, below_drewN' B _⟩
      · have C1 : inB q 1 p = false := decide_eq_false h1
        have HY := Lib.hid (ssB_no hlt (ss1_no HQ.out (by omega)))
        clear h1
        go_wp2
        go_quiet ((go_at_call 22; exact quiet_left (CI.out _ _ _ _)))
        go_wp2
        go_ret
        exact ⟨ret_bool HY.out.symm, below_drewN' B _⟩
    · obtain rfl : k = ss.length := by omega
      have HY := Lib.hid (ssB_yes HA.out)
      go_wp2
      go_ret
      refine ⟨ret_bool ?_, B⟩
      rw [HY.out]
      exact decide_eq_decide.2 (by omega)

set_option maxRecDepth 100000 in
set_option maxHeartbeats 4000000 in
/-- spec.ArrivalsLegal. -/
theorem specArrivalsLegal_any (a : Option Addr) (cap : Nat) (al : List A2) (w : World) (hr : Row2 w a al) (hn : al.length ≤ 1099511627776) :
    Calls Try.prog 12 #[.slice a al.length cap] w fun e w' => e = .returned (.bool (alB al)) ∧ Below w.heap.size w w' := by
  have HR := Lib.hid hr
  have CI := Lib.hid l1In_any
  clear hr
  go_enter Try.func12, Try.ntmps12
  go_wp2
  go_loopg [3] al.length (fun m i wr => ∃ k : Nat, m + k = al.length ∧ i = .int .i64 k ∧ (∀ j, j < k → al1 al j = true) ∧ Below w.heap.size w wr)
  case atStart => exact ⟨0, rfl, rfl, fun j hj => absurd hj (Nat.not_lt_zero _), Below.refl _ _⟩
  case round =>
    obtain ⟨k, hk, rfl, hall, B⟩ := hrel
    have HK := Lib.hid hk
    have HA := Lib.hid hall
    have hkk : k ≤ al.length := by omega
    clear hk hall
    by_cases hlt : k < al.length
    · obtain ⟨b, off, rfl, hbs, x0, x1⟩ := (HR.out.below B) k hlt
      obtain ⟨⟨q, p⟩, hQ⟩ : ∃ s, s = ab al k := ⟨_, rfl⟩
      rw [← hQ] at x0 x1
      simp only at x0 x1
      have HQ := Lib.hid hQ
      have hk0 : (0 : Int) ≤ k := by omega
      have hk1 : (k : Int) < al.length := by omega
      clear hQ
      by_cases h1 : 0 ≤ q ∧ q ≤ 119
      · have C1 : inB q 0 119 = true := decide_eq_true h1
        by_cases h2 : 1 ≤ p ∧ p ≤ 20
        · have C2 : inB p 1 20 = true := decide_eq_true h2
          have HH := Lib.hid (And.intro h1 h2)
          clear h1 h2
          cases k with
          | zero =>
            simp only [Nat.zero_mul, Nat.add_zero] at x0 x1
            have hpos : decide ((0 : Int) < ((0 : Nat) : Int)) = false := by decide
            have HY := Lib.hid (show al1 al 0 = true by unfold al1; rw [← HQ.out]; exact decide_eq_true ⟨HH.out.1.1, HH.out.1.2, HH.out.2.1, HH.out.2.2, .inl rfl⟩)
            go_wp2
            go_quiet ((go_at_call 22; exact quiet_left (CI.out _ _ _ _)))
            go_wp2
            go_roundg (gk - 1)
            case measure => have := HK.out; omega
            case rel => exact ⟨0 + 1, by have := HK.out; omega, by go_num, fun j hj => by
              obtain rfl : j = 0 := by omega
              exact HY.out, below_drewN' B _⟩
          | succ k =>
            obtain ⟨b', off', ea, _, y0, _⟩ := (HR.out.below B) k (by omega)
            simp only [Option.some.injEq, Addr.mk.injEq, and_true] at ea
            obtain ⟨rfl, rfl⟩ := ea
            obtain ⟨r, hR⟩ : ∃ r, r = (ab al k).1 := ⟨_, rfl⟩
            rw [← hR] at y0
            have HRR := Lib.hid hR
            clear hR
            have hw : IntKind.i64.wrap (((k + 1 : Nat) : Int) - 1) = (k : Int) := (IntWalk.i64_in _ (by omega)).trans (by omega)
            have hj0 : (0 : Int) ≤ k := by omega
            have hj1 : (k : Int) < al.length := by omega
            have hpos : decide ((0 : Int) < ((k + 1 : Nat) : Int)) = true := decide_eq_true (by omega)
            by_cases h3 : r ≤ q
            · have h3' : decide (q < r) = false := decide_eq_false (by omega)
              have HY := Lib.hid (show al1 al (k + 1) = true by unfold al1; rw [← HQ.out]; exact decide_eq_true ⟨HH.out.1.1, HH.out.1.2, HH.out.2.1, HH.out.2.2, .inr (by rw [Nat.add_sub_cancel, ← HRR.out]; exact h3)⟩)
              clear h3
              go_wp2
              go_quiet ((go_at_call 22; exact quiet_left (CI.out _ _ _ _)))
              go_wp2
              go_roundg (gk - 1)
              case measure => have := HK.out; omega
              case rel => exact ⟨k + 1 + 1, by have := HK.out; omega, by go_num, fun j hj => by
                by_cases e : j = k + 1
                · subst e; exact HY.out
                · exact HA.out j (by omega), below_drewN' B _⟩
            · have h3' : decide (q < r) = true := decide_eq_true (by omega)
              have HY := Lib.hid (alB_no hlt (show al1 al (k + 1) = false by unfold al1; rw [← HQ.out]; exact decide_eq_false (by rw [Nat.add_sub_cancel, ← HRR.out]; simp only; omega)))
              clear h3
              go_wp2
              go_quiet ((go_at_call 22; exact quiet_left (CI.out _ _ _ _)))
              go_wp2
              go_ret
              exact ⟨ret_bool HY.out.symm, below_drewN' B _⟩
        · have C2 : inB p 1 20 = false := decide_eq_false h2
          have HY := Lib.hid (alB_no hlt (show al1 al k = false by unfold al1; rw [← HQ.out]; exact decide_eq_false (by simp only; omega)))
          clear h1 h2
          go_wp2
          go_quiet ((go_at_call 22; exact quiet_left (CI.out _ _ _ _)))
          go_wp2
          go_ret
          exact ⟨ret_bool HY.out.symm, below_drewN' B _⟩
      · have C1 : inB q 0 119 = false := decide_eq_false h1
        have HY := Lib.hid (alB_no hlt (show al1 al k = false by unfold al1; rw [← HQ.out]; exact decide_eq_false (by simp only; omega)))
        clear h1
        go_wp2
        go_quiet ((go_at_call 22; exact quiet_left (CI.out _ _ _ _)))
        go_wp2
        go_ret
        exact ⟨ret_bool HY.out.symm, below_drewN' B _⟩
    · obtain rfl : k = al.length := by omega
      have HY := Lib.hid (alB_yes HA.out)
      go_wp2
      go_ret
      refine ⟨ret_bool ?_, B⟩
      rw [HY.out]
      exact decide_eq_decide.2 (by omega)

end Go.Proofs.Ytnhbmegglpgkoaa
