/- Walks: laws.FnHyperSubset and laws.FnHyperperiod. Conditions: the argument is a slice of bytes. -/
import Derived.Test.YtcpgpioophlaoaaWithout
namespace Go.Proofs.Ytcpgpioophlaoaa
open Go.RowKit

theorem hyp_dvd_of {ts : List (Int × Int × Int)} {n : Nat} (h : ∀ t ∈ ts, per t ∣ n) : hyp ts ∣ n := by
  induction ts using snoc_ind with
  | h0 => exact ⟨n, by simp [hyp]⟩
  | h1 l a ih =>
    rw [hyp_snoc]
    exact Nat.lcm_dvd (ih fun t ht => h t (List.mem_append_left _ ht)) (h a (by simp))
theorem hyp_wo {ts : List (Int × Int × Int)} {i : Nat} : hyp (wo ts i) ∣ hyp ts := hyp_dvd_of fun _ ht => per_dvd_hyp (wo_mem ht)

set_option maxHeartbeats 1000000 in
/-- laws.FnHyperSubset. -/
theorem fnHyperSubset_any (a : Option Addr) (len cap : Nat) (w : World) (hb : Byts w a len cap) :
    Calls Try.prog 7 #[.slice a len cap] w fun e w' => e = .returned (.bool true) ∧ Below w.heap.size w w' := by
  have hm : cap ≤ maxLen := hb.2.2
  have hlc : len ≤ cap := hb.2.1
  unfold maxLen at hm
  have HB := Lib.hid hb
  clear hb
  by_cases hl : 1048576 < len
  · have hl' : (1048576 : Int) < len := by omega
    go_enter Try.func7, Try.ntmps7
    go_wp2
    go_ret
    exact ⟨rfl, Below.refl _ _⟩
  have hl' : ¬ (1048576 : Int) < len := by omega
  go_enter Try.func7, Try.ntmps7
  go_wp2_with fail
  refine (drawHyperperiod_any _ _ _ _ HB.out).mono ?_
  rintro e w1 ⟨a1, cap1, ts, rfl, hn, hlc1, hcm1, hr1, b1⟩
  have R1 := Lib.hid hr1
  clear hr1
  go_wp2_with fail
  refine (hyperperiod_any _ _ _ _ R1.out (by omega)).mono ?_
  rintro e w2 ⟨rfl, b2⟩
  have B2 := b1.trans (b2.mono b1.size)
  have R2 := Lib.hid (R1.out.below b2)
  clear b1 b2 R1
  go_wp2_with fail
  refine (specHyperperiod_any _ _ _ _ R2.out (by omega)).mono ?_
  rintro e w3 ⟨rfl, b3⟩
  have B3 := B2.trans (b3.mono B2.size)
  have R3 := Lib.hid (R2.out.below b3)
  clear b3 R2
  by_cases hv : svB ts = true
  · obtain ⟨H, hH⟩ : ∃ H, H = hyB ts := ⟨_, rfl⟩
    have hbd := hyp_bd ts (sv_all hv).1
    rw [← hyB_yes hv, ← hH] at hbd
    rw [← hH]
    have HH := Lib.hid hH
    have HV := Lib.hid hv
    clear hH hv
    obtain ⟨hb1, hb2⟩ := hbd
    have hpos : (0 : Int) < H := by omega
    go_wp2
    go_loopg [5] ts.length (fun n i wr => ∃ k : Nat, n + k = ts.length ∧ i = .int .i64 k ∧ Below w.heap.size w wr ∧ Row wr a1 ts)
    case atStart => exact ⟨0, rfl, rfl, B3, R3.out⟩
    case round =>
      obtain ⟨k, hk, rfl, B, hrow⟩ := hrel
      have HK := Lib.hid hk
      have hk' : k ≤ ts.length := by omega
      have RW := Lib.hid hrow
      clear hk hrow
      by_cases hlt : k < ts.length
      · have hlt' : (k : Int) < ts.length := by omega
        go_wp2_with fail
        refine (without_any _ _ k _ _ RW.out hlt hn hlc1 hcm1).mono ?_
        rintro e w5 ⟨a5, cap5, rfl, _, _, r5, b5⟩
        have R5 := Lib.hid r5
        have B5 := B.trans (b5.mono B.size)
        have R45 := Lib.hid (RW.out.below b5)
        clear r5 b5
        go_wp2_with fail
        refine (hyperperiod_any _ _ _ _ R5.out (by have := wo_length hlt; omega)).mono ?_
        rintro e w6 ⟨rfl, b6⟩
        have B6 := B5.trans (b6.mono B5.size)
        have R6 := Lib.hid (R45.out.below b6)
        clear b6
        obtain ⟨G, hG⟩ : ∃ G, G = hyB (wo ts k) := ⟨_, rfl⟩
        have hvw := sv_wo HV.out k
        have hgd := hyp_bd (wo ts k) (sv_all hvw).1
        rw [← hyB_yes hvw, ← hG] at hgd
        have hdv : H % G = 0 := by
          rw [HH.out, hG, hyB_yes HV.out, hyB_yes hvw]
          exact Nat.mod_eq_zero_of_dvd hyp_wo
        rw [← hG]
        clear hG hvw
        obtain ⟨hg1, hg2⟩ := hgd
        have hg1' : ¬ (G : Int) < 1 := by omega
        have hgne : ((G : Int) == 0) = false := by simp; omega
        have hmz : ((H : Int) % G) = 0 := by omega
        have hmz' : (((H : Int) % G) != 0) = false := by simp [hmz]
        clear hdv
        go_wp2
        go_roundg (gk - 1)
        case measure => have := HK.out; omega
        case rel => exact ⟨k + 1, by have := HK.out; omega, by go_num, B6, R6.out⟩
      · have hlt' : ¬ (k : Int) < ts.length := by omega
        go_wp2_with fail
        refine (alive_any _).mono ?_
        rintro e w5 ⟨rfl, b5⟩
        go_wp2
        go_ret
        exact ⟨rfl, B.trans (b5.mono B.size)⟩
  · have hv' : svB ts = false := by simpa using hv
    rw [hyB_no hv']
    clear hv hv'
    go_wp2
    go_loopg [5] 0 (fun n i wr => i = .int .i64 0 ∧ Below w.heap.size w wr)
    case atStart => exact ⟨rfl, B3⟩
    case round =>
      obtain ⟨rfl, B⟩ := hrel
      go_wp2_with fail
      refine (alive_any _).mono ?_
      rintro e w5 ⟨rfl, b5⟩
      go_wp2
      go_ret
      exact ⟨rfl, B.trans (b5.mono B.size)⟩

def comB (n : Nat) (ts : List (Int × Int × Int)) : Bool := ts.all fun t => n % per t == 0
theorem comB_snoc {n k q : Nat} {ts : List (Int × Int × Int)} {t : Int × Int × Int} (hlt : k < ts.length) (ht : t = ts[k]) (hq : q = per t) (h : comB n (ts.take k) = true) : Value.bool ((n : Int) % q == 0) = .bool (comB n (ts.take (k + 1))) := by
  congr 1
  simp only [comB] at h ⊢
  rw [take_succ hlt ht, List.all_append, h, Bool.true_and, List.all_cons, List.all_nil, Bool.and_true, ← hq]
  have e : (n : Int) % q = ((n % q : Nat) : Int) := by simp
  rw [e, Bool.eq_iff_iff, beq_iff_eq, beq_iff_eq]
  omega
theorem comB_no {n k : Nat} {ts : List (Int × Int × Int)} (hlt : k < ts.length) (h : comB n (ts.take k) = false) : Value.bool false = .bool (comB n (ts.take (k + 1))) := by
  congr 1
  simp only [comB] at h ⊢
  rw [List.take_succ_eq_append_getElem hlt, List.all_append, h, Bool.false_and]
theorem comB_hyp (ts : List (Int × Int × Int)) : comB (hyp ts) ts = true := by
  simp only [comB, List.all_eq_true, beq_iff_eq]
  exact fun t ht => Nat.mod_eq_zero_of_dvd (per_dvd_hyp ht)
theorem comB_less {n : Nat} {ts : List (Int × Int × Int)} (h0 : 1 ≤ n) (h : n < hyp ts) : comB n ts = false := by
  rw [Bool.eq_false_iff]
  intro hc
  simp only [comB, List.all_eq_true, beq_iff_eq] at hc
  have : hyp ts ∣ n := hyp_dvd_of fun t ht => Nat.dvd_of_mod_eq_zero (hc t ht)
  have := Nat.le_of_dvd h0 this
  omega

set_option maxRecDepth 100000 in
set_option maxHeartbeats 1000000 in
/-- laws.FnHyperperiod. -/
theorem fnHyperperiod_any (a : Option Addr) (len cap : Nat) (w : World) (hb : Byts w a len cap) :
    Calls Try.prog 5 #[.slice a len cap] w fun e w' => e = .returned (.bool true) ∧ Below w.heap.size w w' := by
  have hm : cap ≤ maxLen := hb.2.2
  have hlc : len ≤ cap := hb.2.1
  unfold maxLen at hm
  have HB := Lib.hid hb
  clear hb
  by_cases hl : 1048576 < len
  · have hl' : (1048576 : Int) < len := by omega
    go_enter Try.func5, Try.ntmps5
    go_wp2
    go_ret
    exact ⟨rfl, Below.refl _ _⟩
  have hl' : ¬ (1048576 : Int) < len := by omega
  go_enter Try.func5, Try.ntmps5
  go_wp2_with fail
  refine (drawHyperperiod_any _ _ _ _ HB.out).mono ?_
  rintro e w1 ⟨a1, cap1, ts, rfl, hn, hlc1, hcm1, hr1, b1⟩
  have R1 := Lib.hid hr1
  clear hr1
  go_wp2_with fail
  refine (hyperperiod_any _ _ _ _ R1.out (by omega)).mono ?_
  rintro e w2 ⟨rfl, b2⟩
  have B2 := b1.trans (b2.mono b1.size)
  have R2 := Lib.hid (R1.out.below b2)
  clear b1 b2 R1
  go_wp2_with fail
  refine (specHyperperiod_any _ _ _ _ R2.out (by omega)).mono ?_
  rintro e w3 ⟨rfl, b3⟩
  have B3 := B2.trans (b3.mono B2.size)
  have R3 := Lib.hid (R2.out.below b3)
  clear b3 R2
  by_cases hv : svB ts = true
  · obtain ⟨H, hH⟩ : ∃ H, H = hyB ts := ⟨_, rfl⟩
    have hbd := hyp_bd ts (sv_all hv).1
    rw [← hyB_yes hv, ← hH] at hbd
    rw [← hH]
    have HV := Lib.hid hv
    have HH := Lib.hid (hH.trans (hyB_yes hv))
    clear hH
    obtain ⟨hb1, hb2⟩ := hbd
    go_wp2_with fail
    refine (specSetValid_any _ _ _ _ R3.out (by omega)).mono ?_
    rintro e w4 ⟨rfl, b4⟩
    have B4 := B3.trans (b4.mono B3.size)
    have R4 := Lib.hid (R3.out.below b4)
    clear b4 R3
    go_wp2
    clear hv
    go_loopg [5] H (fun m i wr => ∃ n : Nat, m + n = H + 1 ∧ 1 ≤ n ∧ i = .int .i64 n ∧ Below w.heap.size w wr ∧ Row wr a1 ts)
    case atStart => exact ⟨1, rfl, Nat.le_refl _, rfl, B4, R4.out⟩
    case round =>
      obtain ⟨n, hk, hn1, rfl, B, hrow⟩ := hrel
      have HK := Lib.hid hk
      have hk' : n ≤ H + 1 := by omega
      have RW := Lib.hid hrow
      clear hk hrow
      by_cases hlt : n ≤ H
      · have hlt' : (n : Int) ≤ H := by omega
        go_wp2
        go_loopg [6, 7] ts.length (fun m s i wr => ∃ k : Nat, m + k = ts.length ∧ i = .int .i64 k ∧ s = .bool (comB n (ts.take k)) ∧ Below w.heap.size w wr ∧ Row wr a1 ts)
        case atStart => exact ⟨0, rfl, rfl, rfl, B, RW.out⟩
        case round =>
          clear B RW
          obtain ⟨k, hk2, rfl, rfl, B, hrow⟩ := hrel
          have HK2 := Lib.hid hk2
          have hkk : k ≤ ts.length := by omega
          have RW := Lib.hid hrow
          clear hk2 hrow
          by_cases hk : k < ts.length
          · by_cases hc : comB n (ts.take k) = true
            · obtain ⟨b, off, rfl, hbs, _, _, hc2⟩ := RW.out k _ (List.getElem?_eq_getElem hk)
              obtain ⟨t, ht⟩ : ∃ t, t = ts[k] := ⟨_, rfl⟩
              rw [← ht] at hc2
              have htv := all_at (sv_all HV.out).1 hk ht
              obtain ⟨q, hq⟩ : ∃ q, q = per t := ⟨_, rfl⟩
              have hp := per_dvd htv
              rw [← hq] at hp
              obtain ⟨_, hp1, hp2, hp3⟩ := hp
              rw [← hp3] at hc2
              have HT := Lib.hid ht
              have HQ := Lib.hid hq
              clear ht hq hp3 htv
              have hqne : ((q : Int) == 0) = false := by simp; omega
              go_wp2
              go_roundg (gk - 1)
              case measure => have := HK2.out; omega
              case rel => exact ⟨k + 1, by have := HK2.out; omega, by go_num, comB_snoc hk HT.out HQ.out hc, B, RW.out⟩
            · have hc' : comB n (ts.take k) = false := by simpa using hc
              clear hc
              go_wp2
              go_roundg (gk - 1)
              case measure => have := HK2.out; omega
              case rel => exact ⟨k + 1, by have := HK2.out; omega, by go_num, comB_no hk hc', B, RW.out⟩
          · obtain rfl : k = ts.length := by omega
            rw [List.take_length]
            by_cases he : n = H
            · have hc : comB n ts = true := by rw [he, HH.out]; exact comB_hyp ts
              have he' : ((n : Int) == H) = true := by simp [he]
              clear he
              go_wp2
              go_roundg (H - n)
              case measure => have := HK.out; omega
              case rel => exact ⟨n + 1, by omega, by omega, by go_num, B, RW.out⟩
            · have hc : comB n ts = false := comB_less hn1 (by rw [← HH.out]; omega)
              have he' : ((n : Int) == H) = false := by simp; omega
              clear he
              go_wp2
              go_roundg (H - n)
              case measure => have := HK.out; omega
              case rel => exact ⟨n + 1, by omega, by omega, by go_num, B, RW.out⟩
      · have hlt' : ¬ (n : Int) ≤ H := by omega
        have hge : (1 : Int) ≤ H := by omega
        go_wp2_with fail
        refine (alive_any _).mono ?_
        rintro e w5 ⟨rfl, b5⟩
        go_wp2
        go_ret
        exact ⟨rfl, B.trans (b5.mono B.size)⟩
  · have hv' : svB ts = false := by simpa using hv
    rw [hyB_no hv']
    clear hv
    go_wp2_with fail
    refine (specSetValid_any _ _ _ _ R3.out (by omega)).mono ?_
    rintro e w4 ⟨rfl, b4⟩
    have B4 := B3.trans (b4.mono B3.size)
    clear b4 R3
    go_wp2_with fail
    refine (alive_any _).mono ?_
    rintro e w5 ⟨rfl, b5⟩
    go_wp2
    go_ret
    exact ⟨rfl, B4.trans (b5.mono B4.size)⟩
end Go.Proofs.Ytcpgpioophlaoaa
