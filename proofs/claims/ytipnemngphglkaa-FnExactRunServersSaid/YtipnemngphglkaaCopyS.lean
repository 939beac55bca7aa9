/- Contracts of the exact laws' small functions over servers and requests: toServer, toServerS, eqServer, eqServerS (of equal ones), szServerS, and the same of Arrival. Conditions: the slices hold what is said, at most 2^40 entries. -/
import Derived.Test.YtipnemngphglkaaSrv
import Derived.Test.YtipnemngphglkaaCopy
import Derived.Test.YtipnemngphglkaaOwnF
import Derived.StillTailTactics
namespace Go.Proofs.Ytipnemngphglkaa
open Go.RowKit Go.Deep

/-- The cells of servers, or of requests. -/
def F2 (l : List A2) (m : Nat) : Value := if m % 2 = 0 then .int .i64 (ab l (m / 2)).1 else .int .i64 (ab l (m / 2)).2
theorem F2_a (l : List A2) (k : Nat) : F2 l (k * 2) = .int .i64 (ab l k).1 := by
  unfold F2
  rw [if_pos (by omega), show k * 2 / 2 = k by omega]
theorem F2_b (l : List A2) (k : Nat) : F2 l (k * 2 + 1) = .int .i64 (ab l k).2 := by
  unfold F2
  rw [if_neg (by omega), show (k * 2 + 1) / 2 = k by omega]
theorem OwnF.row2 {t : TypeId} {w : World} {base : Nat} {a : Option Addr} {cap : Nat} {l : List A2} (h : OwnF t 2 w base (.slice a l.length cap) l.length (F2 l)) : Row2 w a l := fun k hk => by
  obtain ⟨g, c, e⟩ := h.has (by omega)
  simp only [Value.slice.injEq] at e
  obtain ⟨rfl, -, rfl⟩ := e
  obtain ⟨q1, -, -, -, q5⟩ := h.at
  exact ⟨g, 0, rfl, q1, by rw [Nat.zero_add, q5 _ (by omega), F2_a], by rw [Nat.zero_add, q5 _ (by omega), F2_b]⟩
/-- A slice of zeros, as it is made. -/
theorem own_made2 (t : TypeId) (w : World) (n : Nat) (hn : n ≤ 1099511627776) : OwnF t 2 (w.alloc (.cells (madeCells #[.int .i64 0, .int .i64 0] (n * 2)) t)) w.heap.size (.slice (some ⟨w.heap.size, 0, none⟩) n n) n (fun _ => .int .i64 0) := by
  refine ⟨by rw [vF_len], .inr ⟨w.heap.size, n, madeCells #[.int .i64 0, .int .i64 0] (n * 2), rfl, Nat.le_refl _, blk_alloc_new _ _, Nat.le_refl _, by unfold maxLen; omega, by rw [size_madeCells], ?_⟩⟩
  apply List.ext_getElem?
  intro j
  by_cases hj : j < n * 2
  · rw [vF_at _ hj, List.getElem?_take_of_lt hj, Array.getElem?_toList]
    have h2 : j % 2 = 0 ∨ j % 2 = 1 := by omega
    rcases h2 with h2 | h2 <;> simp [madeCells, hj, h2]
  · rw [List.getElem?_eq_none_iff.2 (show (List.take (n * 2) (madeCells #[.int .i64 0, .int .i64 0] (n * 2)).toList).length ≤ j by simp [size_madeCells]; omega), List.getElem?_eq_none_iff.2 (show (vF (fun _ => Value.int .i64 0) (n * 2)).length ≤ j by rw [vF_len]; omega)]

/-- laws.toServer: a copy. -/
theorem toServer_any (q p : Int) (w : World) :
    Calls Try.prog 93 #[.agg #[.int .i64 q, .int .i64 p]] w fun e w' => e = .returned (.agg #[.int .i64 q, .int .i64 p]) ∧ Below w.heap.size w w' := by
  go_enter Try.func93, Try.ntmps93
  go_wp2
  simp [bodyPost, results, Try.results93, go_sem]
  exact ((below_box _ _).alloc (by simp) _).alloc (by simp; omega) _

theorem infoServer : (Try.prog.info? 27).map (fun i => (i.zero, i.size, i.bytes)) = some (some (.agg #[.int .i64 0, .int .i64 0]), 2, 16) := by kernel_rfl
theorem run_makeServer (n : Nat) (hn : n ≤ 1099511627776) (w : World) :
    (Instr.makeSlice 23 (.int .i64 (n : Int)) (.int .i64 (n : Int))).run Try.prog w = .ok (.slice (some ⟨w.heap.size, 0, none⟩) n n) (w.alloc (.cells (madeCells #[.int .i64 0, .int .i64 0] (n * 2)) 27)) := by
  obtain ⟨i, hi, hz, hs, hb⟩ := info_parts infoServer
  have h := run_make (P := Try.prog) w 23 27 i _ Try.underlying23 hi hz .i64 .i64 (n : Int) (n : Int) (by omega) (by omega) (by rw [hb]; omega) (by omega)
  rw [hs] at h
  simpa [Value.cells] using h

set_option maxRecDepth 100000 in
/-- laws.toServerS: a copy in new memory. -/
theorem toServerS_any (a : Option Addr) (cap : Nat) (l : List A2) (w : World) (hr : Row2 w a l) (hn : l.length ≤ 1099511627776) :
    Calls Try.prog 35 #[.slice a l.length cap] w fun e w' =>
      e = .returned (.slice (some ⟨w.heap.size, 0, none⟩) l.length l.length) ∧ OwnF 27 2 w' w.heap.size (.slice (some ⟨w.heap.size, 0, none⟩) l.length l.length) l.length (F2 l) ∧ Below w.heap.size w w' := by
  have hmk := run_makeServer l.length hn
  have HR := Lib.hid hr
  have O0 := Lib.hid (own_made2 27 w l.length hn)
  clear hr
  go_enter Try.func35, Try.ntmps35
  go_wp2
  clear hmk
  go_loopg [4] l.length (fun n i wr => ∃ k : Nat, n + k = l.length ∧ i = .int .i64 k ∧ OwnF 27 2 wr w.heap.size (.slice (some ⟨w.heap.size, 0, none⟩) l.length l.length) l.length (fun m => if m < k * 2 then F2 l m else .int .i64 0) ∧ Below w.heap.size w wr)
  case atStart => exact ⟨0, rfl, rfl, O0.out.congr (fun m _ => by rw [if_neg (by omega)]), below_box _ _⟩
  case round =>
    obtain ⟨k, hk, rfl, ho, hb⟩ := hrel
    have HK := Lib.hid hk
    have HO := Lib.hid ho
    have HB := Lib.hid hb
    have hkk : k ≤ l.length := by omega
    clear hk ho hb O0
    by_cases hlt : k < l.length
    · obtain ⟨b, off, rfl, hbs, c0, c1⟩ := (HR.out.below HB.out) k hlt
      obtain ⟨⟨q, p⟩, hQ⟩ : ∃ s, s = ab l k := ⟨_, rfl⟩
      rw [← hQ] at c0 c1
      simp only at c0 c1
      have HQ := Lib.hid hQ
      clear hQ
      go_wp2_with fail
      refine (toServer_any _ _ _).mono ?_
      rintro e w1 ⟨rfl, b1⟩
      have HO1 := Lib.hid (HO.out.below b1)
      have HB1 := Lib.hid (HB.out.trans (b1.mono HB.out.size))
      obtain ⟨-, -, -, z, x⟩ := HO1.out.at
      have x0 := x (k * 2) (by omega)
      have x1 := x (k * 2 + 1) (by omega)
      have z0 := z (k * 2)
      have z1 := z (k * 2 + 1)
      have O2 := Lib.hid (((HO1.out.set (m := k * 2) (by omega) (.int .i64 q)).set (m := k * 2 + 1) (by omega) (.int .i64 p)).congr (G := fun m => if m < (k + 1) * 2 then F2 l m else .int .i64 0) (fun m hm => by
        by_cases e1 : m = k * 2 + 1
        · rw [if_pos e1, if_pos (by omega), e1, F2_b, ← HQ.out]
        · rw [if_neg e1]
          by_cases e0 : m = k * 2
          · rw [if_pos e0, if_pos (by omega), e0, F2_a, ← HQ.out]
          · rw [if_neg e0]
            by_cases e2 : m < k * 2
            · rw [if_pos e2, if_pos (by omega)]
            · rw [if_neg e2, if_neg (by omega)]))
      clear b1 z x HO HO1
      go_wp2
      go_roundg (gk - 1)
      case measure => have := HK.out; omega
      case rel => exact ⟨k + 1, by have := HK.out; omega, by go_num, O2.out, (HB1.out.setCell (Nat.le_refl _) _).setCell (Nat.le_refl _) _⟩
    · obtain rfl : k = l.length := by omega
      go_wp2
      go_ret
      exact ⟨rfl, HO.out.congr (fun m hm => by rw [if_pos hm]), HB.out⟩

/-- laws.eqServer, of equal ones. -/
theorem eqServer_same (q p : Int) (w : World) :
    Calls Try.prog 94 #[.agg #[.int .i64 q, .int .i64 p], .agg #[.int .i64 q, .int .i64 p]] w fun e w' => e = .returned (.bool true) ∧ Below w.heap.size w w' := by
  go_enter Try.func94, Try.ntmps94
  go_wp2
  go_ret
  exact ⟨rfl, (below_box _ _).alloc (by simp) _⟩

set_option maxRecDepth 100000 in
/-- laws.eqServerS, of two slices that hold the same. -/
theorem eqServerS_same (a a' : Option Addr) (cap cap' : Nat) (l : List A2) (w : World) (hr : Row2 w a l) (hr' : Row2 w a' l) (hn : l.length ≤ 1099511627776) :
    Calls Try.prog 36 #[.slice a l.length cap, .slice a' l.length cap'] w fun e w' => e = .returned (.bool true) ∧ Below w.heap.size w w' := by
  have HR := Lib.hid (And.intro hr hr')
  clear hr hr'
  go_enter Try.func36, Try.ntmps36
  go_wp2
  go_loopg [5] l.length (fun n i wr => ∃ k : Nat, n + k = l.length ∧ i = .int .i64 k ∧ Below w.heap.size w wr)
  case atStart => exact ⟨0, rfl, rfl, Below.refl _ _⟩
  case round =>
    obtain ⟨k, hk, rfl, hb⟩ := hrel
    have HK := Lib.hid hk
    have HB := Lib.hid hb
    have hkk : k ≤ l.length := by omega
    clear hk hb
    by_cases hlt : k < l.length
    · obtain ⟨b, off, ea, -, c0, c1⟩ := (HR.out.1.below HB.out) k hlt
      subst ea
      obtain ⟨b', off', ea, -, d0, d1⟩ := (HR.out.2.below HB.out) k hlt
      subst ea
      obtain ⟨⟨q, p⟩, hQ⟩ : ∃ s, s = ab l k := ⟨_, rfl⟩
      rw [← hQ] at c0 c1 d0 d1
      simp only at c0 c1 d0 d1
      have hk0 : (0 : Int) ≤ k := by omega
      have hk1 : (k : Int) < l.length := by omega
      clear hQ
      go_wp2
      refine wp_region_still_tail 8 (by kernel_rfl) (by kernel_rfl) ?_
      simp only [List.take_succ_cons, List.take_zero, List.drop_succ_cons, List.drop_zero]
      change wpStill _ _ wr.drew (fun a' => wpList _ _ _ _ a' wr.drew) _ _
      iterate 8 still_step
      refine wpStill_nil ?_
      go_wp2_with fail
      refine (eqServer_same q p _).mono ?_
      rintro e w1 ⟨rfl, b1⟩
      have HB1 := Lib.hid (HB.out.drew.trans (b1.mono HB.out.size))
      clear b1
      go_wp2
      go_roundg (gk - 1)
      case measure => have := HK.out; omega
      case rel => exact ⟨k + 1, by have := HK.out; omega, by go_num, HB1.out⟩
    · obtain rfl : k = l.length := by omega
      go_wp2
      go_ret
      exact ⟨rfl, HB.out⟩

theorem szServerS_small (a : Option Addr) (len cap : Nat) (n : Int) (w : World) (h : (len : Int) ≤ n) (hn : n ≤ 1048576) :
    Calls Try.prog 34 #[.slice a len cap, .int .i64 n] w fun e w' => e = .returned (.int .i64 (n - len)) ∧ w = w' := by
  have h' : ¬ n - len < 0 := by omega
  have h0 : (0 : Int) ≤ n - len := by omega
  go_enter Try.func34, Try.ntmps34
  go_wp2
  go_ret
  exact ⟨rfl, rfl⟩

theorem szServerS_big (a : Option Addr) (len cap : Nat) (n : Int) (w : World) (h : n < len) (h0 : 0 ≤ n) (hn : n ≤ 1048576) (hm : len ≤ maxLen) :
    Calls Try.prog 34 #[.slice a len cap, .int .i64 n] w fun e w' => e = .returned (.int .i64 (-1)) ∧ w = w' := by
  unfold maxLen at hm
  have h' : n - len < 0 := by omega
  go_enter Try.func34, Try.ntmps34
  go_wp2
  go_ret
  exact ⟨rfl, rfl⟩

/-- laws.toArrival: a copy. -/
theorem toArrival_any (q p : Int) (w : World) :
    Calls Try.prog 95 #[.agg #[.int .i64 q, .int .i64 p]] w fun e w' => e = .returned (.agg #[.int .i64 q, .int .i64 p]) ∧ Below w.heap.size w w' := by
  go_enter Try.func95, Try.ntmps95
  go_wp2
  simp [bodyPost, results, Try.results95, go_sem]
  exact ((below_box _ _).alloc (by simp) _).alloc (by simp; omega) _

theorem infoArrival : (Try.prog.info? 34).map (fun i => (i.zero, i.size, i.bytes)) = some (some (.agg #[.int .i64 0, .int .i64 0]), 2, 16) := by kernel_rfl
theorem run_makeArrival (n : Nat) (hn : n ≤ 1099511627776) (w : World) :
    (Instr.makeSlice 30 (.int .i64 (n : Int)) (.int .i64 (n : Int))).run Try.prog w = .ok (.slice (some ⟨w.heap.size, 0, none⟩) n n) (w.alloc (.cells (madeCells #[.int .i64 0, .int .i64 0] (n * 2)) 34)) := by
  obtain ⟨i, hi, hz, hs, hb⟩ := info_parts infoArrival
  have h := run_make (P := Try.prog) w 30 34 i _ Try.underlying30 hi hz .i64 .i64 (n : Int) (n : Int) (by omega) (by omega) (by rw [hb]; omega) (by omega)
  rw [hs] at h
  simpa [Value.cells] using h

set_option maxRecDepth 100000 in
/-- laws.toArrivalS: a copy in new memory. -/
theorem toArrivalS_any (a : Option Addr) (cap : Nat) (l : List A2) (w : World) (hr : Row2 w a l) (hn : l.length ≤ 1099511627776) :
    Calls Try.prog 38 #[.slice a l.length cap] w fun e w' =>
      e = .returned (.slice (some ⟨w.heap.size, 0, none⟩) l.length l.length) ∧ OwnF 34 2 w' w.heap.size (.slice (some ⟨w.heap.size, 0, none⟩) l.length l.length) l.length (F2 l) ∧ Below w.heap.size w w' := by
  have hmk := run_makeArrival l.length hn
  have HR := Lib.hid hr
  have O0 := Lib.hid (own_made2 34 w l.length hn)
  clear hr
  go_enter Try.func38, Try.ntmps38
  go_wp2
  clear hmk
  go_loopg [4] l.length (fun n i wr => ∃ k : Nat, n + k = l.length ∧ i = .int .i64 k ∧ OwnF 34 2 wr w.heap.size (.slice (some ⟨w.heap.size, 0, none⟩) l.length l.length) l.length (fun m => if m < k * 2 then F2 l m else .int .i64 0) ∧ Below w.heap.size w wr)
  case atStart => exact ⟨0, rfl, rfl, O0.out.congr (fun m _ => by rw [if_neg (by omega)]), below_box _ _⟩
  case round =>
    obtain ⟨k, hk, rfl, ho, hb⟩ := hrel
    have HK := Lib.hid hk
    have HO := Lib.hid ho
    have HB := Lib.hid hb
    have hkk : k ≤ l.length := by omega
    clear hk ho hb O0
    by_cases hlt : k < l.length
    · obtain ⟨b, off, rfl, hbs, c0, c1⟩ := (HR.out.below HB.out) k hlt
      obtain ⟨⟨q, p⟩, hQ⟩ : ∃ s, s = ab l k := ⟨_, rfl⟩
      rw [← hQ] at c0 c1
      simp only at c0 c1
      have HQ := Lib.hid hQ
      clear hQ
      go_wp2_with fail
      refine (toArrival_any _ _ _).mono ?_
      rintro e w1 ⟨rfl, b1⟩
      have HO1 := Lib.hid (HO.out.below b1)
      have HB1 := Lib.hid (HB.out.trans (b1.mono HB.out.size))
      obtain ⟨-, -, -, z, x⟩ := HO1.out.at
      have x0 := x (k * 2) (by omega)
      have x1 := x (k * 2 + 1) (by omega)
      have z0 := z (k * 2)
      have z1 := z (k * 2 + 1)
      have O2 := Lib.hid (((HO1.out.set (m := k * 2) (by omega) (.int .i64 q)).set (m := k * 2 + 1) (by omega) (.int .i64 p)).congr (G := fun m => if m < (k + 1) * 2 then F2 l m else .int .i64 0) (fun m hm => by
        by_cases e1 : m = k * 2 + 1
        · rw [if_pos e1, if_pos (by omega), e1, F2_b, ← HQ.out]
        · rw [if_neg e1]
          by_cases e0 : m = k * 2
          · rw [if_pos e0, if_pos (by omega), e0, F2_a, ← HQ.out]
          · rw [if_neg e0]
            by_cases e2 : m < k * 2
            · rw [if_pos e2, if_pos (by omega)]
            · rw [if_neg e2, if_neg (by omega)]))
      clear b1 z x HO HO1
      go_wp2
      go_roundg (gk - 1)
      case measure => have := HK.out; omega
      case rel => exact ⟨k + 1, by have := HK.out; omega, by go_num, O2.out, (HB1.out.setCell (Nat.le_refl _) _).setCell (Nat.le_refl _) _⟩
    · obtain rfl : k = l.length := by omega
      go_wp2
      go_ret
      exact ⟨rfl, HO.out.congr (fun m hm => by rw [if_pos hm]), HB.out⟩

/-- laws.eqArrival, of equal ones. -/
theorem eqArrival_same (q p : Int) (w : World) :
    Calls Try.prog 96 #[.agg #[.int .i64 q, .int .i64 p], .agg #[.int .i64 q, .int .i64 p]] w fun e w' => e = .returned (.bool true) ∧ Below w.heap.size w w' := by
  go_enter Try.func96, Try.ntmps96
  go_wp2
  go_ret
  exact ⟨rfl, (below_box _ _).alloc (by simp) _⟩

set_option maxRecDepth 100000 in
/-- laws.eqArrivalS, of two slices that hold the same. -/
theorem eqArrivalS_same (a a' : Option Addr) (cap cap' : Nat) (l : List A2) (w : World) (hr : Row2 w a l) (hr' : Row2 w a' l) (hn : l.length ≤ 1099511627776) :
    Calls Try.prog 39 #[.slice a l.length cap, .slice a' l.length cap'] w fun e w' => e = .returned (.bool true) ∧ Below w.heap.size w w' := by
  have HR := Lib.hid (And.intro hr hr')
  clear hr hr'
  go_enter Try.func39, Try.ntmps39
  go_wp2
  go_loopg [5] l.length (fun n i wr => ∃ k : Nat, n + k = l.length ∧ i = .int .i64 k ∧ Below w.heap.size w wr)
  case atStart => exact ⟨0, rfl, rfl, Below.refl _ _⟩
  case round =>
    obtain ⟨k, hk, rfl, hb⟩ := hrel
    have HK := Lib.hid hk
    have HB := Lib.hid hb
    have hkk : k ≤ l.length := by omega
    clear hk hb
    by_cases hlt : k < l.length
    · obtain ⟨b, off, ea, -, c0, c1⟩ := (HR.out.1.below HB.out) k hlt
      subst ea
      obtain ⟨b', off', ea, -, d0, d1⟩ := (HR.out.2.below HB.out) k hlt
      subst ea
      obtain ⟨⟨q, p⟩, hQ⟩ : ∃ s, s = ab l k := ⟨_, rfl⟩
      rw [← hQ] at c0 c1 d0 d1
      simp only at c0 c1 d0 d1
      have hk0 : (0 : Int) ≤ k := by omega
      have hk1 : (k : Int) < l.length := by omega
      clear hQ
      go_wp2
      refine wp_region_still_tail 8 (by kernel_rfl) (by kernel_rfl) ?_
      simp only [List.take_succ_cons, List.take_zero, List.drop_succ_cons, List.drop_zero]
      change wpStill _ _ wr.drew (fun a' => wpList _ _ _ _ a' wr.drew) _ _
      iterate 8 still_step
      refine wpStill_nil ?_
      go_wp2_with fail
      refine (eqArrival_same q p _).mono ?_
      rintro e w1 ⟨rfl, b1⟩
      have HB1 := Lib.hid (HB.out.drew.trans (b1.mono HB.out.size))
      clear b1
      go_wp2
      go_roundg (gk - 1)
      case measure => have := HK.out; omega
      case rel => exact ⟨k + 1, by have := HK.out; omega, by go_num, HB1.out⟩
    · obtain rfl : k = l.length := by omega
      go_wp2
      go_ret
      exact ⟨rfl, HB.out⟩

theorem szArrivalS_small (a : Option Addr) (len cap : Nat) (n : Int) (w : World) (h : (len : Int) ≤ n) (hn : n ≤ 1048576) :
    Calls Try.prog 37 #[.slice a len cap, .int .i64 n] w fun e w' => e = .returned (.int .i64 (n - len)) ∧ w = w' := by
  have h' : ¬ n - len < 0 := by omega
  have h0 : (0 : Int) ≤ n - len := by omega
  go_enter Try.func37, Try.ntmps37
  go_wp2
  go_ret
  exact ⟨rfl, rfl⟩

theorem szArrivalS_big (a : Option Addr) (len cap : Nat) (n : Int) (w : World) (h : n < len) (h0 : 0 ≤ n) (hn : n ≤ 1048576) (hm : len ≤ maxLen) :
    Calls Try.prog 37 #[.slice a len cap, .int .i64 n] w fun e w' => e = .returned (.int .i64 (-1)) ∧ w = w' := by
  unfold maxLen at hm
  have h' : n - len < 0 := by omega
  go_enter Try.func37, Try.ntmps37
  go_wp2
  go_ret
  exact ⟨rfl, rfl⟩

end Go.Proofs.Ytipnemngphglkaa
