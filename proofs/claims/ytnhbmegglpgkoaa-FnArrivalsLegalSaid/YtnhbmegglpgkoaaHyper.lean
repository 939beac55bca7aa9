/- Contracts of the functions that compute the hyperperiod: impl.greatestCommonDivisor, impl.leastCommonMultiple, impl.Hyperperiod, spec.l1Gcd, spec.l1Hyper, spec.Hyperperiod. Conditions: numbers of moderate size; the slice's cells hold tasks; its length is at most 2^40. -/
import Derived.Test.YtnhbmegglpgkoaaSet
import Derived.Deep.QuietTactic
import Derived.BigQuiet
import Derived.RegionTactic
import Derived.Deep.RegionWith
namespace Go.Proofs.Ytnhbmegglpgkoaa
open Go.RowKit

theorem ret_int {k : IntKind} {a b : Int} (h : a = b) : Ending.returned (.int k a) = .returned (.int k b) := by rw [h]
theorem below_drewN (w : World) (n : Nat) : Below w.heap.size w (w.drewN n) := ⟨rfl, rfl, rfl, Nat.le_refl _, fun _ _ => rfl⟩

/-- impl.greatestCommonDivisor. -/
theorem gcd_any (x y : Nat) (w : World) (hx : x ≤ 1099511627776) (hy : y ≤ 1099511627776) :
    Calls Try.prog 69 #[.int .i64 x, .int .i64 y] w fun e w' => e = .returned (.int .i64 (Nat.gcd x y : Nat)) ∧ ∃ n, w' = w.drewN n := by
  go_enter Try.func69, Try.ntmps69
  go_wp2
  go_loopg [0, 1] y (fun n a b wr => ∃ u v : Nat, v ≤ n ∧ u ≤ 1099511627776 ∧ v ≤ 1099511627776 ∧ a = .int .i64 u ∧ b = .int .i64 v ∧ Nat.gcd u v = Nat.gcd x y ∧ ∃ m, wr = w.drewN m)
  case atStart => exact ⟨x, y, Nat.le_refl _, hx, hy, rfl, rfl, rfl, 0, rfl⟩
  case round =>
    obtain ⟨u, v, hvn, hu, hv, rfl, rfl, hg, m, rfl⟩ := hrel
    have HG := Lib.hid hg
    clear hg
    by_cases h0 : 0 < v
    · have h0' : (0 : Int) < v := by omega
      have hne : ((v : Int) != 0) = true := by simp; omega
      go_wp2
      go_quiet (fail)
      go_wp2
      go_roundg (u % v)
      case measure => have := Nat.mod_lt u h0; omega
      case rel => exact ⟨v, u % v, Nat.le_refl _, hv, by have := Nat.mod_lt u h0; omega, rfl, by go_num, by rw [← HG.out, Nat.gcd_comm u v, Nat.gcd_rec v u, Nat.gcd_comm], m + nq, World.drewN_drewN _ _ _⟩
    · obtain rfl : v = 0 := by omega
      go_wp2
      go_ret
      exact ⟨ret_int (by rw [← HG.out]; simp), _, rfl⟩

/-- impl.leastCommonMultiple. -/
theorem lcm_any (x y : Nat) (w : World) (hx : x ≤ 27720) (hx1 : 1 ≤ x) (hy : y ≤ 12) (hy1 : 1 ≤ y) :
    Calls Try.prog 65 #[.int .i64 x, .int .i64 y] w fun e w' => e = .returned (.int .i64 (Nat.lcm x y : Nat)) ∧ ∃ n, w' = w.drewN n := by
  obtain ⟨g, hg⟩ : ∃ g, g = Nat.gcd x y := ⟨_, rfl⟩
  have hg1 : 1 ≤ g := by rw [hg]; exact Nat.gcd_pos_of_pos_left _ hx1
  have hg2 : g ≤ 12 := by rw [hg]; exact Nat.le_trans (Nat.le_of_dvd hy1 (Nat.gcd_dvd_right x y)) hy
  have hg1' : (1 : Int) ≤ g := by omega
  have hne : ((g : Int) == 0) = false := by simp; omega
  have hq0 : (0 : Int) ≤ (x : Int) / g := Int.ediv_nonneg (by omega) (by omega)
  have hq1 : (x : Int) / g ≤ 27720 := Int.le_trans (Int.ediv_le_self _ (by omega)) (by omega)
  have hm0 : (0 : Int) ≤ (x : Int) / g * y := Int.mul_nonneg hq0 (by omega)
  have hm1 : (x : Int) / g * y ≤ 332640 := Int.le_trans (Int.mul_le_mul hq1 (show (y : Int) ≤ 12 by omega) (by omega) (by omega)) (by omega)
  have C := Lib.hid (gcd_any x y w (by omega) (by omega))
  rw [← hg] at C
  have HG := Lib.hid hg
  clear hg
  go_enter Try.func65, Try.ntmps65
  go_wp2_with fail
  refine C.out.mono ?_
  rintro e w' ⟨rfl, n, rfl⟩
  go_wp2
  go_ret
  exact ⟨ret_int (by rw [← lcm_step, ← HG.out]; simp), n, rfl⟩

theorem quiet_left {P : Program} {f : FuncId} {args : Array Value} {w : World} {n : Nat} {v : Value}
    (h : Calls P f args (w.drewN n) fun e w' => e = .returned v ∧ w.drewN n = w') : Calls P f args (w.drewN n) fun e w'' => e = .returned v ∧ ∃ m, w'' = w.drewN m :=
  h.mono fun _ _ hh => ⟨hh.1, n, hh.2.symm⟩

theorem take_succ {ts : List (Int × Int × Int)} {k : Nat} {t : Int × Int × Int} (hlt : k < ts.length) (ht : t = ts[k]) : ts.take (k + 1) = ts.take k ++ [t] := by
  rw [List.take_succ_eq_append_getElem hlt, ht]
theorem all_take {ts : List (Int × Int × Int)} (h : ts.all tv = true) (k : Nat) : (ts.take k).all tv = true := by
  rw [List.all_eq_true] at h ⊢
  exact fun t ht => h t (List.mem_of_mem_take ht)
theorem all_at {ts : List (Int × Int × Int)} {k : Nat} {t : Int × Int × Int} (h : ts.all tv = true) (hlt : k < ts.length) (ht : t = ts[k]) : tv t = true := by
  rw [List.all_eq_true] at h
  rw [ht]
  exact h _ (List.getElem_mem hlt)

theorem hyp_step {ts : List (Int × Int × Int)} {k H q g : Nat} {t : Int × Int × Int} (hlt : k < ts.length) (ht : t = ts[k]) (hq : q = per t) (hH : H = hyp (ts.take k)) (hg : g = Nat.gcd H q) :
    Value.int .i64 ((H : Int) / g * q) = .int .i64 (hyp (ts.take (k + 1)) : Nat) := by
  rw [take_succ hlt ht, hyp_snoc, ← hH, ← hq, ← lcm_step, ← hg]
  simp

theorem hyB_no {ts : List (Int × Int × Int)} (h : svB ts = false) : hyB ts = 0 := by simp [hyB, h]
theorem hyB_yes {ts : List (Int × Int × Int)} (h : svB ts = true) : hyB ts = hyp ts := by simp [hyB, h]
theorem sv_all {ts : List (Int × Int × Int)} (h : svB ts = true) : ts.all tv = true ∧ ts.length ≤ 5 := by simpa [svB] using h

/-- impl.Hyperperiod. -/
theorem hyperperiod_any (a : Option Addr) (cap : Nat) (ts : List (Int × Int × Int)) (w : World) (hr : Row w a ts) (hn : ts.length ≤ 1099511627776) :
    Calls Try.prog 46 #[.slice a ts.length cap] w fun e w' =>
      e = .returned (.int .i64 (hyB ts : Nat)) ∧ Below w.heap.size w w' := by
  have HR := Lib.hid hr
  clear hr
  by_cases hv : svB ts = true
  · go_enter Try.func46, Try.ntmps46
    go_wp2_with fail
    refine (setValid_any _ _ _ _ HR.out hn).mono ?_
    rintro e w1 ⟨rfl, b1⟩
    have HV := Lib.hid (sv_all hv).1
    go_wp2
    go_loopg [3, 11] ts.length (fun n h i wr => ∃ k : Nat, n + k = ts.length ∧ i = .int .i64 k ∧ h = .int .i64 (hyp (ts.take k) : Nat) ∧ Below w.heap.size w wr)
    case atStart => exact ⟨0, rfl, rfl, rfl, b1⟩
    case round =>
      obtain ⟨k, hk, rfl, rfl, hb⟩ := hrel
      have HK := Lib.hid hk
      have hk' : k ≤ ts.length := by omega
      clear hk
      obtain ⟨H, hH⟩ : ∃ H, H = hyp (ts.take k) := ⟨_, rfl⟩
      have hbd := hyp_bd (ts.take k) (all_take HV.out k)
      rw [← hH] at hbd ⊢
      have HH := Lib.hid hH
      clear hH
      obtain ⟨hb1, hb2⟩ := hbd
      by_cases hlt : k < ts.length
      · obtain ⟨b, off, rfl, hbs, hc0, hc1, hc2⟩ := HR.out k _ (List.getElem?_eq_getElem hlt)
        obtain ⟨t, ht⟩ : ∃ t, t = ts[k] := ⟨_, rfl⟩
        rw [← ht] at hc0 hc1 hc2
        have htv := all_at HV.out hlt ht
        obtain ⟨q, hq⟩ : ∃ q, q = per t := ⟨_, rfl⟩
        have hp := per_dvd htv
        rw [← hq] at hp
        obtain ⟨_, hp1, hp2, hp3⟩ := hp
        rw [← hp3] at hc2
        have g0 := (hb.cell (p := ⟨b, off + k * 3, none⟩) hbs).trans hc0
        have g1 := (hb.cell (p := ⟨b, off + k * 3 + 1, none⟩) hbs).trans hc1
        have g2 := (hb.cell (p := ⟨b, off + k * 3 + 2, none⟩) hbs).trans hc2
        have HT := Lib.hid ht
        have HQ := Lib.hid hq
        clear ht hq hp3 hc0 hc1 hc2 htv
        have C := Lib.hid (fun W => lcm_any H q W (by omega) (by omega) (by omega) (by omega))
        go_wp2_with (go_at_call 65; refine (C.out _).mono ?_; rintro e w2 ⟨rfl, n, rfl⟩)
        go_roundg (gk - 1)
        case measure => have := HK.out; omega
        case rel => exact ⟨k + 1, by have := HK.out; omega, by go_num, by rw [take_succ hlt HT.out, hyp_snoc, ← HH.out, ← HQ.out], (hb.alloc hb.size _).trans ((below_drewN _ _).mono (by have := hb.size; simp; omega))⟩
      · obtain rfl : k = ts.length := by omega
        go_wp2
        go_ret
        exact ⟨ret_int (by rw [HH.out, List.take_length, hyB_yes hv]), hb⟩
  · have hv' : svB ts = false := by simpa using hv
    clear hv
    go_enter Try.func46, Try.ntmps46
    go_wp2_with fail
    refine (setValid_any _ _ _ _ HR.out hn).mono ?_
    rintro e w1 ⟨rfl, b1⟩
    go_wp2
    go_ret
    exact ⟨ret_int (by rw [hyB_no hv']; rfl), b1⟩
end Go.Proofs.Ytnhbmegglpgkoaa
