/- Walks: laws.FnSetValid. Conditions: the argument is a slice of bytes. -/
import Derived.Test.YtcpgpioophlaoaaWithout
namespace Go.Proofs.Ytcpgpioophlaoaa
open Go.RowKit

def allB (ts : List (Int × Int × Int)) (k : Nat) : Bool := decide (ts.length ≤ 5) && (ts.take k).all tv
theorem allB_zero (ts : List (Int × Int × Int)) : Value.bool (decide ((ts.length : Int) ≤ 5)) = .bool (allB ts 0) := by
  congr 1
  simp only [allB, List.take_zero, List.all_nil, Bool.and_true]
  apply decide_eq_decide.2
  omega
theorem allB_sv {ts : List (Int × Int × Int)} (h : svB ts = true) (k : Nat) : allB ts k = true := by
  obtain ⟨h1, h2⟩ := sv_all h
  simp [allB, all_take h1 k, h2]
theorem allB_end (ts : List (Int × Int × Int)) : allB ts ts.length = svB ts := by
  simp [allB, svB, Bool.and_comm]
theorem allB_yes {ts : List (Int × Int × Int)} {k : Nat} {c d p : Int} (h : allB ts k = true) (hlt : k < ts.length) (ht : (c, d, p) = ts[k]) : Value.bool (tvB c d p) = .bool (allB ts (k + 1)) := by
  simp only [allB, Bool.and_eq_true] at h
  simp [allB, h.1, List.take_succ_eq_append_getElem hlt, h.2, ← ht, tv]
theorem allB_no {ts : List (Int × Int × Int)} {k : Nat} (h : allB ts k = false) (hlt : k < ts.length) : Value.bool false = .bool (allB ts (k + 1)) := by
  congr 1
  simp only [allB, List.take_succ_eq_append_getElem hlt, List.all_append]
  simp only [allB] at h
  rw [← Bool.and_assoc, h, Bool.false_and]
theorem svB_nil : svB [] = true := rfl
theorem row_nil (w : World) (a : Option Addr) : Row w a [] := fun k t hk => by simp at hk

set_option maxRecDepth 100000 in
set_option maxHeartbeats 2000000 in
/-- laws.FnSetValid. -/
theorem fnSetValid_any (a : Option Addr) (len cap : Nat) (w : World) (hb : Byts w a len cap) :
    Calls Try.prog 4 #[.slice a len cap] w fun e w' => e = .returned (.bool true) ∧ Below w.heap.size w w' := by
  have hm : cap ≤ maxLen := hb.2.2
  have hlc : len ≤ cap := hb.2.1
  unfold maxLen at hm
  have HB := Lib.hid hb
  clear hb
  by_cases hl : 1048576 < len
  · have hl' : (1048576 : Int) < len := by omega
    go_enter Try.func4, Try.ntmps4
    go_wp2
    go_ret
    exact ⟨rfl, Below.refl _ _⟩
  have hl' : ¬ (1048576 : Int) < len := by omega
  go_enter Try.func4, Try.ntmps4
  go_wp2_with fail
  refine (drawSetValid_any _ _ _ _ HB.out).mono ?_
  rintro e w1 ⟨a1, cap1, ts, rfl, hn, hlc1, hcm1, hr1, b1⟩
  have R1 := Lib.hid hr1
  clear hr1
  go_wp2_with fail
  refine (setValid_any _ _ _ _ R1.out (by omega)).mono ?_
  rintro e w2 ⟨rfl, b2⟩
  have B2 := b1.trans (b2.mono b1.size)
  have R2 := Lib.hid (R1.out.below b2)
  clear b1 b2 R1
  go_wp2_with fail
  refine (specSetValid_any _ _ _ _ R2.out (by omega)).mono ?_
  rintro e w3 ⟨rfl, b3⟩
  have B3 := B2.trans (b3.mono B2.size)
  have R3 := Lib.hid (R2.out.below b3)
  clear b3 R2
  have hA0 := allB_zero ts
  have HA0 := Lib.hid hA0
  clear hA0
  obtain ⟨sv, hsv⟩ : ∃ sv, sv = svB ts := ⟨_, rfl⟩
  rw [← hsv]
  have HSV := Lib.hid hsv
  clear hsv
  cases sv with
  | true =>
    go_wp2
    go_loopg [5, 6] ts.length (fun n s i wr => ∃ k : Nat, n + k = ts.length ∧ i = .int .i64 k ∧ s = .bool (allB ts k) ∧ Below w.heap.size w wr ∧ Row wr a1 ts)
    case atStart => exact ⟨0, rfl, rfl, HA0.out, B3, R3.out⟩
    case round =>
      obtain ⟨k, hk, rfl, rfl, B, hrow⟩ := hrel
      have HK := Lib.hid hk
      have hk' : k ≤ ts.length := by omega
      have RW := Lib.hid hrow
      clear hk hrow
      have hall := allB_sv HSV.out.symm k
      by_cases hlt : k < ts.length
      · obtain ⟨b, off, rfl, hbs, hc0, hc1, hc2⟩ := RW.out k _ (List.getElem?_eq_getElem hlt)
        obtain ⟨⟨c, d, p⟩, ht⟩ : ∃ t, t = ts[k] := ⟨_, rfl⟩
        rw [← ht] at hc0 hc1 hc2
        have HT := Lib.hid ht
        clear ht
        simp only at hc0 hc1 hc2
        go_wp2_with fail
        refine (taskValid_any _ _ _ _).mono ?_
        rintro e w4 ⟨rfl, b4⟩
        have B4 := B.trans (b4.mono B.size)
        have R4 := Lib.hid (RW.out.below b4)
        clear b4 hc0 hc1 hc2
        go_wp2_with fail
        refine (without_any _ _ k _ _ R4.out hlt hn hlc1 hcm1).mono ?_
        rintro e w5 ⟨a5, cap5, rfl, _, _, r5, b5⟩
        have R5 := Lib.hid r5
        have B5 := B4.trans (b5.mono B4.size)
        have R45 := Lib.hid (R4.out.below b5)
        clear r5 b5
        go_wp2_with fail
        refine (setValid_any _ _ _ _ R5.out (by have := wo_length hlt; omega)).mono ?_
        rintro e w6 ⟨rfl, b6⟩
        have B6 := B5.trans (b6.mono B5.size)
        have R6 := Lib.hid (R45.out.below b6)
        clear b6
        have he := sv_wo HSV.out.symm k
        go_wp2
        go_roundg (gk - 1)
        case measure => have := HK.out; omega
        case rel => exact ⟨k + 1, by have := HK.out; omega, by go_num, allB_yes hall hlt HT.out, B6, R6.out⟩
      · obtain rfl : k = ts.length := by omega
        go_wp2_with fail
        refine (setValid_any _ _ [] _ (row_nil _ _) (by simp)).mono ?_
        rintro e w4 ⟨rfl, b4⟩
        have hnil := svB_nil
        go_wp2_with fail
        refine (alive_any _).mono ?_
        rintro e w5 ⟨rfl, b5⟩
        go_wp2
        go_ret
        have B4 := (B.alloc B.size (.cells #[] 24)).trans (b4.mono (Nat.le_trans B.size (by simp)))
        exact ⟨rfl, B4.trans (b5.mono B4.size)⟩
  | false =>
    go_wp2
    go_loopg [5, 6] ts.length (fun n s i wr => ∃ k : Nat, n + k = ts.length ∧ i = .int .i64 k ∧ s = .bool (allB ts k) ∧ Below w.heap.size w wr ∧ Row wr a1 ts)
    case atStart => exact ⟨0, rfl, rfl, HA0.out, B3, R3.out⟩
    case round =>
      obtain ⟨k, hk, rfl, rfl, B, hrow⟩ := hrel
      have HK := Lib.hid hk
      have hk' : k ≤ ts.length := by omega
      have RW := Lib.hid hrow
      clear hk hrow
      by_cases hlt : k < ts.length
      · by_cases hall : allB ts k = true
        · obtain ⟨b, off, rfl, hbs, hc0, hc1, hc2⟩ := RW.out k _ (List.getElem?_eq_getElem hlt)
          obtain ⟨⟨c, d, p⟩, ht⟩ : ∃ t, t = ts[k] := ⟨_, rfl⟩
          rw [← ht] at hc0 hc1 hc2
          have HT := Lib.hid ht
          clear ht
          simp only at hc0 hc1 hc2
          go_wp2_with fail
          refine (taskValid_any _ _ _ _).mono ?_
          rintro e w4 ⟨rfl, b4⟩
          have B4 := B.trans (b4.mono B.size)
          have R4 := Lib.hid (RW.out.below b4)
          clear b4 hc0 hc1 hc2
          go_wp2
          go_roundg (gk - 1)
          case measure => have := HK.out; omega
          case rel => exact ⟨k + 1, by have := HK.out; omega, by go_num, allB_yes hall hlt HT.out, B4, R4.out⟩
        · have hall' : allB ts k = false := by simpa using hall
          clear hall
          go_wp2
          go_roundg (gk - 1)
          case measure => have := HK.out; omega
          case rel => exact ⟨k + 1, by have := HK.out; omega, by go_num, allB_no hall' hlt, B, RW.out⟩
      · obtain rfl : k = ts.length := by omega
        have hend : allB ts ts.length = false := (allB_end ts).trans HSV.out.symm
        go_wp2_with fail
        refine (setValid_any _ _ [] _ (row_nil _ _) (by simp)).mono ?_
        rintro e w4 ⟨rfl, b4⟩
        have hnil := svB_nil
        go_wp2_with fail
        refine (alive_any _).mono ?_
        rintro e w5 ⟨rfl, b5⟩
        go_wp2
        go_ret
        have B4 := (B.alloc B.size (.cells #[] 24)).trans (b4.mono (Nat.le_trans B.size (by simp)))
        exact ⟨rfl, B4.trans (b5.mono B4.size)⟩
end Go.Proofs.Ytcpgpioophlaoaa
