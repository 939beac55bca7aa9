/- Contracts of the reference functions of chapter 2: spec.l2Demand, Demand, l2Overload, FirstOverload, l2Edf, EdfFeasible, l2Work, BusyPeriod. Conditions: the slice's cells hold tasks; its length is at most 2^40. -/
import Derived.Test.YtdgihkmiolnglaaGreatDoorBase
import Derived.Test.YtdgihkmiolnglaaGreatDoorPlain
namespace Go.Proofs.YtdgihkmiolnglaaGreatDoor
open Go.RowKit

theorem dem_take_le {ts : List T3} (h : svB ts = true) (x k : Nat) (hx : x ≤ 100000) : dem (ts.take k) x ≤ 10000000 := by
  obtain ⟨h1, h2⟩ := sv_all h
  have h3 := dem_le (ts.take k) (all_take h1 k) x
  have h4 : (ts.take k).length ≤ 5 := by rw [List.length_take]; omega
  have h5 : (ts.take k).length * (8 * (x + 1)) ≤ 5 * (8 * (x + 1)) := Nat.mul_le_mul_right _ h4
  omega
theorem dem_step_no {ts : List T3} {k x S d : Nat} {t : T3} (hlt : k < ts.length) (ht : t = ts[k]) (hd : d = dln t) (hS : S = dem (ts.take k) x) (hx : ¬ d ≤ x) : Value.int .i64 (S : Int) = .int .i64 (dem (ts.take (k + 1)) x : Nat) := by
  rw [take_succ hlt ht, dem_snoc, ← hS]
  unfold dem1
  rw [← hd, if_neg hx]
  rfl
theorem dem_step_yes {ts : List T3} {k x S c d q : Nat} {t : T3} (hlt : k < ts.length) (ht : t = ts[k]) (hc : c = cst t) (hd : d = dln t) (hq : q = per t) (hS : S = dem (ts.take k) x) (hx : d ≤ x) :
    Value.int .i64 ((S : Int) + (((x : Int) - d) / q + 1) * c) = .int .i64 (dem (ts.take (k + 1)) x : Nat) := by
  rw [take_succ hlt ht, dem_snoc, ← hS]
  unfold dem1
  rw [← hd, if_pos hx, ← hc, ← hq]
  have e : (x : Int) - d = ((x - d : Nat) : Int) := by omega
  rw [e]
  simp

set_option maxHeartbeats 1000000 in
/-- spec.l2Demand, of a valid set. -/
theorem l2Demand_any (a : Option Addr) (cap : Nat) (ts : List T3) (x : Nat) (w : World) (hr : Row w a ts) (hv : svB ts = true) (hx : x ≤ 100000) :
    Calls Tryz.prog 91 #[.slice a ts.length cap, .int .i64 x] w fun e w' =>
      e = .returned (.int .i64 (dem ts x : Nat)) ∧ ∃ n, w' = w.drewN n := by
  have hn : ts.length ≤ 5 := (sv_all hv).2
  have HV := Lib.hid hv
  clear hv
  go_enter Tryz.func91, Tryz.ntmps91
  go_wp2
  go_loopg [5, 6] ts.length (fun n s i wr => ∃ k : Nat, n + k = ts.length ∧ i = .int .i64 k ∧ s = .int .i64 (dem (ts.take k) x : Nat) ∧ ∃ m, wr = w.drewN m)
  case atStart => exact ⟨0, rfl, rfl, rfl, 0, rfl⟩
  case round =>
    obtain ⟨k, hk, rfl, rfl, m, hwr⟩ := hrel
    have HW := Lib.hid hwr
    have HK := Lib.hid hk
    have hk' : k ≤ ts.length := by omega
    clear hk
    obtain ⟨S, hS⟩ : ∃ S, S = dem (ts.take k) x := ⟨_, rfl⟩
    have hsb := dem_take_le HV.out x k hx
    rw [← hS] at hsb ⊢
    have HS := Lib.hid hS
    clear hS
    by_cases hlt : k < ts.length
    · obtain ⟨b, off, rfl, hbs, hc0, hc1, hc2⟩ := hr k _ (List.getElem?_eq_getElem hlt)
      obtain ⟨t, ht⟩ : ∃ t, t = ts[k] := ⟨_, rfl⟩
      rw [← ht] at hc0 hc1 hc2
      have htv := all_at (sv_all HV.out).1 hlt ht
      obtain ⟨q, hq⟩ : ∃ q, q = per t := ⟨_, rfl⟩
      obtain ⟨c, hc⟩ : ∃ c, c = cst t := ⟨_, rfl⟩
      obtain ⟨d, hd⟩ : ∃ d, d = dln t := ⟨_, rfl⟩
      have hb := tv_bd htv
      rw [← hq, ← hc, ← hd] at hb
      obtain ⟨p1, p2, p3, p4, p5, p6, p7, p8⟩ := hb
      rw [← p6] at hc0
      rw [← p7] at hc1
      rw [← p8] at hc2
      have g0 : wr.cell? ⟨b, off + k * 3, none⟩ = some (.int .i64 c) := by rw [hwr]; exact hc0
      have g1 : wr.cell? ⟨b, off + k * 3 + 1, none⟩ = some (.int .i64 d) := by rw [hwr]; exact hc1
      have g2 : wr.cell? ⟨b, off + k * 3 + 2, none⟩ = some (.int .i64 q) := by rw [hwr]; exact hc2
      have HT := Lib.hid ht
      have HQ := Lib.hid hq
      have HC := Lib.hid hc
      have HD := Lib.hid hd
      clear ht hq hc hd p6 p7 p8 hc0 hc1 hc2 htv hwr hr
      have hk0 : (0 : Int) ≤ k := by omega
      have hk1 : (k : Int) < ts.length := by omega
      by_cases hdx : d ≤ x
      · have hdx' : (d : Int) ≤ x := by omega
        have hne : ((q : Int) == 0) = false := by simp; omega
        have hs0 : (0 : Int) ≤ (x : Int) - d := by omega
        have hq0 : (0 : Int) ≤ ((x : Int) - d) / q := Int.ediv_nonneg (by omega) (by omega)
        have hq1 : ((x : Int) - d) / q ≤ 100000 := Int.le_trans (Int.ediv_le_self _ hs0) (by omega)
        have hm0 : (0 : Int) ≤ (((x : Int) - d) / q + 1) * c := Int.mul_nonneg (by omega) (by omega)
        have hm1 : (((x : Int) - d) / q + 1) * c ≤ 800008 := Int.le_trans (Int.mul_le_mul (show ((x : Int) - d) / q + 1 ≤ 100001 by omega) (show (c : Int) ≤ 8 by omega) (by omega) (by omega)) (by omega)
        go_wp2
        go_quiet (fail)
        go_wp2
        go_roundg (gk - 1)
        case measure => have := HK.out; omega
        case rel => exact ⟨k + 1, by have := HK.out; omega, by go_num, dem_step_yes hlt HT.out HC.out HD.out HQ.out HS.out hdx, m + nq, by rw [HW.out, World.drewN_drewN]⟩
      · have hdx' : ¬ (d : Int) ≤ x := by omega
        go_wp2
        go_roundg (gk - 1)
        case measure => have := HK.out; omega
        case rel => exact ⟨k + 1, by have := HK.out; omega, by go_num, dem_step_no hlt HT.out HD.out HS.out hdx, m, HW.out⟩
    · clear hwr
      obtain rfl : k = ts.length := by omega
      go_wp2
      go_ret
      exact ⟨ret_int (by rw [HS.out, List.take_length]), m, HW.out⟩

def demB (ts : List T3) (x : Int) : Int := if svB ts = true ∧ 0 ≤ x ∧ x ≤ hyp ts then (dem ts x.toNat : Nat) else -1
theorem demB_no {ts : List T3} {x : Int} (h : ¬ (svB ts = true ∧ 0 ≤ x ∧ x ≤ hyp ts)) : demB ts x = -1 := by rw [demB, if_neg h]
theorem demB_yes {ts : List T3} {x : Nat} (h : svB ts = true) (hx : x ≤ hyp ts) : demB ts x = (dem ts x : Nat) := by
  rw [demB, if_pos ⟨h, by omega, by omega⟩]
  rfl

/-- spec.l2Overload, at the hyperperiod of a valid set. -/
theorem l2Overload_any (a : Option Addr) (cap : Nat) (ts : List T3) (w : World) (hr : Row w a ts) (hv : svB ts = true) :
    Calls Tryz.prog 60 #[.slice a ts.length cap, .int .i64 (hyp ts : Nat)] w fun e w' =>
      e = .returned (.int .i64 (fo ts)) ∧ Below w.heap.size w w' := by
  have hbd := hyp_bd ts (sv_all hv).1
  obtain ⟨H, hH⟩ : ∃ H, H = hyp ts := ⟨_, rfl⟩
  rw [← hH] at hbd ⊢
  have HH := Lib.hid hH
  clear hH
  obtain ⟨hb1, hb2⟩ := hbd
  have HR := Lib.hid hr
  have HV := Lib.hid hv
  clear hr hv
  go_enter Tryz.func60, Tryz.ntmps60
  go_wp2
  go_loopg [5] H (fun m i wr => ∃ n : Nat, m + n = H + 1 ∧ 1 ≤ n ∧ i = .int .i64 n ∧ (∀ t, 1 ≤ t → t < n → dem ts t ≤ t) ∧ Below w.heap.size w wr)
  case atStart => exact ⟨1, rfl, Nat.le_refl _, rfl, fun t a b => by omega, Below.refl _ _⟩
  case round =>
    obtain ⟨n, hk, hn1, rfl, hd, B⟩ := hrel
    have HK := Lib.hid hk
    have hk' : n ≤ H + 1 := by omega
    have HD := Lib.hid hd
    clear hk hd
    by_cases hlt : n ≤ H
    · have hlt' : (n : Int) ≤ H := by omega
      by_cases ho : n < dem ts n
      · have ho' : (n : Int) < (dem ts n : Nat) := by omega
        go_wp2_with fail
        refine (l2Demand_any _ _ _ _ _ (HR.out.below B) HV.out (by omega)).mono ?_
        rintro e w1 ⟨rfl, n1, rfl⟩
        go_wp2
        go_ret
        exact ⟨ret_int (fo_some HV.out hn1 (by rw [← HH.out]; exact hlt) ho HD.out).symm, below_drewN' B _⟩
      · have ho' : ¬ (n : Int) < (dem ts n : Nat) := by omega
        go_wp2_with fail
        refine (l2Demand_any _ _ _ _ _ (HR.out.below B) HV.out (by omega)).mono ?_
        rintro e w1 ⟨rfl, n1, rfl⟩
        go_wp2
        go_roundg (gk - 1)
        case measure => have := HK.out; omega
        case rel => exact ⟨n + 1, by have := HK.out; omega, by omega, by go_num, fun t a b => by
          by_cases e : t = n
          · subst e; omega
          · exact HD.out t a (by omega), below_drewN' B _⟩
    · have hlt' : ¬ (n : Int) ≤ H := by omega
      go_wp2
      go_ret
      exact ⟨ret_int (fo_none HV.out fun t a b => HD.out t a (by have := HH.out; omega)).symm, B⟩

/-- spec.FirstOverload. -/
theorem specFirstOverload_any (a : Option Addr) (cap : Nat) (ts : List T3) (w : World) (hr : Row w a ts) (hn : ts.length ≤ 1099511627776) :
    Calls Tryz.prog 32 #[.slice a ts.length cap] w fun e w' =>
      e = .returned (.int .i64 (fo ts)) ∧ Below w.heap.size w w' := by
  have HR := Lib.hid hr
  clear hr
  by_cases hv : svB ts = true
  · go_enter Tryz.func32, Tryz.ntmps32
    go_wp2_with fail
    refine (specSetValid_any _ _ _ _ HR.out hn).mono ?_
    rintro e w1 ⟨rfl, b1⟩
    have R1 := Lib.hid (HR.out.below b1)
    go_wp2_with fail
    refine (l1Hyper_any _ _ _ _ R1.out hn (sv_all hv).1).mono ?_
    rintro e w2 ⟨rfl, n2, hw2⟩
    have b2 : Below w1.heap.size w1 w2 := by rw [hw2]; exact below_drewN _ _
    have R2 := Lib.hid (R1.out.below b2)
    clear hw2
    go_wp2_with fail
    refine (l2Overload_any _ _ _ _ R2.out hv).mono ?_
    rintro e w3 ⟨rfl, b3⟩
    go_wp2
    go_ret
    exact ⟨rfl, b1.trans ((b2.trans (b3.mono b2.size)).mono b1.size)⟩
  · have hv' : svB ts = false := by simpa using hv
    clear hv
    go_enter Tryz.func32, Tryz.ntmps32
    go_wp2_with fail
    refine (specSetValid_any _ _ _ _ HR.out hn).mono ?_
    rintro e w1 ⟨rfl, b1⟩
    go_wp2
    go_ret
    exact ⟨ret_int (fo_no hv').symm, b1⟩

theorem edf_dec {ts : List T3} (h : svB ts = true) : (fo ts == -1) = edf ts := by
  rw [edf, h, Bool.true_and, Bool.eq_iff_iff, beq_iff_eq, decide_eq_true_eq]
theorem edf_no {ts : List T3} (h : svB ts = false) : edf ts = false := by rw [edf, h, Bool.false_and]

/-- spec.l2Edf, of a valid set. -/
theorem l2Edf_any (a : Option Addr) (cap : Nat) (ts : List T3) (w : World) (hr : Row w a ts) (hv : svB ts = true) :
    Calls Tryz.prog 93 #[.slice a ts.length cap] w fun e w' =>
      e = .returned (.bool (edf ts)) ∧ Below w.heap.size w w' := by
  have HR := Lib.hid hr
  clear hr
  have hl := (sv_all hv).2
  go_enter Tryz.func93, Tryz.ntmps93
  go_wp2_with fail
  refine (l1Hyper_any _ _ _ _ HR.out (by omega) (sv_all hv).1).mono ?_
  rintro e w2 ⟨rfl, n2, hw2⟩
  have b2 : Below w.heap.size w w2 := by rw [hw2]; exact below_drewN _ _
  have R2 := Lib.hid (HR.out.below b2)
  clear hw2
  go_wp2_with fail
  refine (l2Overload_any _ _ _ _ R2.out hv).mono ?_
  rintro e w3 ⟨rfl, b3⟩
  have he := Lib.hid (edf_dec hv)
  go_wp2
  go_ret
  exact ⟨ret_bool he.out, b2.trans (b3.mono b2.size)⟩

theorem wk1_le {t : T3} (h : tv t = true) (x : Nat) : wk1 t x ≤ 8 * (x + 12) := by
  have hb := tv_bd h
  unfold wk1
  have h1 : (x + per t - 1) / per t ≤ x + 12 := Nat.le_trans (Nat.div_le_self _ _) (by omega)
  have h2 : (x + per t - 1) / per t * cst t ≤ (x + 12) * 8 := Nat.mul_le_mul h1 (by omega)
  omega
theorem wk_le (ts : List T3) (h : ts.all tv = true) (x : Nat) : wk ts x ≤ ts.length * (8 * (x + 12)) := by
  induction ts using snoc_ind with
  | h0 => simp [wk]
  | h1 l a ih =>
    rw [List.all_append, Bool.and_eq_true] at h
    have h1 := ih h.1
    have h2 := wk1_le (t := a) (by simpa using h.2) x
    rw [wk_snoc, List.length_append, List.length_singleton, Nat.add_mul, Nat.one_mul]
    omega
theorem wk_take_le {ts : List T3} (h : svB ts = true) (x k : Nat) (hx : x ≤ 100000) : wk (ts.take k) x ≤ 10000000 := by
  obtain ⟨h1, h2⟩ := sv_all h
  have h3 := wk_le (ts.take k) (all_take h1 k) x
  have h4 : (ts.take k).length ≤ 5 := by rw [List.length_take]; omega
  have h5 : (ts.take k).length * (8 * (x + 12)) ≤ 5 * (8 * (x + 12)) := Nat.mul_le_mul_right _ h4
  omega
theorem wk_step {ts : List T3} {k x S c q : Nat} {t : T3} (hlt : k < ts.length) (ht : t = ts[k]) (hc : c = cst t) (hq : q = per t) (hp : 1 ≤ q) (hS : S = wk (ts.take k) x) :
    Value.int .i64 ((S : Int) + ((x : Int) + q - 1) / q * c) = .int .i64 (wk (ts.take (k + 1)) x : Nat) := by
  rw [take_succ hlt ht, wk_snoc, ← hS]
  unfold wk1
  rw [← hc, ← hq]
  have e : (x : Int) + q - 1 = ((x + q - 1 : Nat) : Int) := by omega
  rw [e]
  simp

/-- What BusyPeriod returns. -/
def Bp (ts : List T3) (r : Int) : Prop :=
  (¬ (svB ts = true ∧ ts ≠ [] ∧ utN ts ≤ utD ts) ∧ r = -1) ∨ (svB ts = true ∧ ts ≠ [] ∧ utN ts ≤ utD ts ∧ ∃ w : Nat, r = w ∧ Bz ts w ∧ wk ts w = w)
theorem Bp.unique {ts : List T3} {r s : Int} (h : Bp ts r) (k : Bp ts s) : r = s := by
  rcases h with ⟨h1, rfl⟩ | ⟨a, b, c, w, rfl, hb, hw⟩
  · rcases k with ⟨_, rfl⟩ | ⟨a, b, c, _⟩
    · rfl
    · exact absurd ⟨a, b, c⟩ h1
  · rcases k with ⟨k1, _⟩ | ⟨_, _, _, v, rfl, kb, kw⟩
    · exact absurd ⟨a, b, c⟩ k1
    · rw [hb.unique kb hw kw]
theorem bz_le {ts : List T3} (h : svB ts = true) (hu : utN ts ≤ utD ts) {w : Nat} (hb : Bz ts w) : w ≤ hyp ts :=
  hb.le (hyp_bd ts (all_of_sv h)).1 (by rw [wk_hyper (all_of_sv h) fun t ht => per_dvd_hyp ht]; exact (ut_le_iff h).1 hu)

end Go.Proofs.YtdgihkmiolnglaaGreatDoor
