/- Contracts of laws.toTaskS (a copy of a task set in new memory) and laws.eqTaskS (of two equal sets). Conditions: the slice's cells hold tasks; its length is at most 2^40. -/
import Derived.Test.YtdhdodmpfbgliaaDoorBase
import Derived.Deep.OwnRows
import Derived.Laws.MakeOwn
import Derived.Deep.RegionHeld3
import Derived.Deep.RegionWith
import Derived.RegionTactic
namespace Go.Proofs.YtdhdodmpfbgliaaDoor
open Go.RowKit Go.Deep

theorem taskInfo : (Tryd.prog.info? 77).map (fun i => (i.zero, i.size, i.bytes)) = some (some (.agg #[.int .i64 0, .int .i64 0, .int .i64 0]), 3, 24) := by kernel_rfl

theorem run_make_tasks (n : Nat) (hn : n ≤ 1099511627776) (w : World) :
    (Instr.makeSlice 23 (.int .i64 (n : Int)) (.int .i64 (n : Int))).run Tryd.prog w = .ok (.slice (some ⟨w.heap.size, 0, none⟩) n n) (w.alloc (.cells (madeCells #[.int .i64 0, .int .i64 0, .int .i64 0] (n * 3)) 77)) := by
  obtain ⟨i, hi, hz, hs, hb⟩ := info_parts taskInfo
  have h := run_make (P := Tryd.prog) w 23 77 i _ Tryd.underlying23 hi hz .i64 .i64 (n : Int) (n : Int) (by omega) (by omega) (by rw [hb]; omega) (by omega)
  rw [hs] at h
  simpa [Value.cells] using h

/-- A row of tasks of the call's own: 'k' of them are laid. -/
def Filled (w : World) (b n : Nat) (ts : List (Int × Int × Int)) (k : Nat) : Prop :=
  ∃ f, w.rowIs b 77 (n * 3) f ∧ ∀ (j : Nat) (t : Int × Int × Int), j < k → ts[j]? = some t → f (j * 3) = .int .i64 t.1 ∧ f (j * 3 + 1) = .int .i64 t.2.1 ∧ f (j * 3 + 2) = .int .i64 t.2.2

theorem Filled.made (w : World) (n : Nat) (ts : List (Int × Int × Int)) : Filled (w.alloc (.cells (madeCells #[.int .i64 0, .int .i64 0, .int .i64 0] (n * 3)) 77)) w.heap.size n ts 0 :=
  ⟨fun _ => .int .i64 0, by
    have h := World.rowIs_alloc w (madeCells #[.int .i64 0, .int .i64 0, .int .i64 0] (n * 3)) 77 (fun _ => .int .i64 0) (fun i hi => by
      have : i < n * 3 := by simpa [size_madeCells] using hi
      have h3 : i % 3 = 0 ∨ i % 3 = 1 ∨ i % 3 = 2 := by omega
      rcases h3 with h3 | h3 | h3 <;> simp [madeCells, this, h3])
    rwa [size_madeCells] at h, fun _ _ h => absurd h (Nat.not_lt_zero _)⟩

theorem Filled.row {w : World} {b : Nat} {ts : List (Int × Int × Int)} (h : Filled w b ts.length ts ts.length) : Row w (some ⟨b, 0, none⟩) ts := by
  obtain ⟨f, hr, hf⟩ := h
  intro k t hk
  have hlt : k < ts.length := (List.getElem?_eq_some_iff.1 hk).1
  obtain ⟨h0, h1, h2⟩ := hf k t hlt hk
  refine ⟨b, 0, rfl, hr.lt, ?_, ?_, ?_⟩
  · rw [Nat.zero_add, hr.cell (by omega), h0]
  · rw [Nat.zero_add, hr.cell (by omega), h1]
  · rw [Nat.zero_add, hr.cell (by omega), h2]

theorem Filled.below {w w' : World} {b n k : Nat} {ts : List (Int × Int × Int)} (h : Filled w b n ts k) (hb : Below w.heap.size w w') : Filled w' b n ts k := by
  obtain ⟨f, hr, hf⟩ := h
  exact ⟨f, hr.of_block (hb.block _ hr.lt), hf⟩

theorem Filled.step {w : World} {b n k : Nat} {ts : List (Int × Int × Int)} {c d p : Int} {f : Nat → Value} (hlt : k < ts.length) (ht : (c, d, p) = ts[k]) (hr : w.rowIs b 77 (n * 3) f)
    (hf : ∀ (j : Nat) (t : Int × Int × Int), j < k → ts[j]? = some t → f (j * 3) = .int .i64 t.1 ∧ f (j * 3 + 1) = .int .i64 t.2.1 ∧ f (j * 3 + 2) = .int .i64 t.2.2) :
    Filled (((w.setCell ⟨b, k * 3, none⟩ (.int .i64 c)).setCell ⟨b, k * 3 + 1, none⟩ (.int .i64 d)).setCell ⟨b, k * 3 + 2, none⟩ (.int .i64 p)) b n ts (k + 1) := by
  refine ⟨_, ((hr.set _ _).set _ _).set _ _, fun j t hj hjt => ?_⟩
  by_cases e : j = k
  · subst e
    rw [List.getElem?_eq_getElem hlt, ← ht] at hjt
    simp only [Option.some.injEq] at hjt
    subst hjt
    exact ⟨by simp, by simp, by simp⟩
  · obtain ⟨h0, h1, h2⟩ := hf j t (by omega) hjt
    refine ⟨?_, ?_, ?_⟩
    · rw [if_neg (by omega), if_neg (by omega), if_neg (by omega), h0]
    · rw [if_neg (by omega), if_neg (by omega), if_neg (by omega), h1]
    · rw [if_neg (by omega), if_neg (by omega), if_neg (by omega), h2]

/-- laws.toTaskS; the copy may be written to. -/
theorem toTaskS_full (a : Option Addr) (cap : Nat) (ts : List (Int × Int × Int)) (w : World) (hr : Row w a ts) (hn : ts.length ≤ 1099511627776) :
    Calls Tryd.prog 21 #[.slice a ts.length cap] w fun e w' =>
      e = .returned (.slice (some ⟨w.heap.size, 0, none⟩) ts.length ts.length) ∧ Filled w' w.heap.size ts.length ts ts.length ∧ Below w.heap.size w w' := by
  have hmk := run_make_tasks ts.length hn
  go_enter Tryd.func21, Tryd.ntmps21
  go_wp2
  go_loopg [4] ts.length (fun n i wr => ∃ k : Nat, n + k = ts.length ∧ i = .int .i64 k ∧ Filled wr w.heap.size ts.length ts k ∧ Below w.heap.size w wr)
  case atStart => exact ⟨0, rfl, rfl, Filled.made _ _ _, below_box _ _⟩
  case round =>
    clear hmk
    obtain ⟨k, hk, rfl, hfil, hb⟩ := hrel
    have HK := Lib.hid hk
    have hk' : k ≤ ts.length := by omega
    clear hk
    by_cases hlt : k < ts.length
    · obtain ⟨b, off, rfl, hbs, hc0, hc1, hc2⟩ := hr k _ (List.getElem?_eq_getElem hlt)
      obtain ⟨⟨c, d, p⟩, ht⟩ : ∃ t, t = ts[k] := ⟨_, rfl⟩
      rw [← ht] at hc0 hc1 hc2
      have g0 := (hb.cell (p := ⟨b, off + k * 3, none⟩) hbs).trans hc0
      have g1 := (hb.cell (p := ⟨b, off + k * 3 + 1, none⟩) hbs).trans hc1
      have g2 := (hb.cell (p := ⟨b, off + k * 3 + 2, none⟩) hbs).trans hc2
      have HT := Lib.hid ht
      clear ht hc0 hc1 hc2
      simp only at g0 g1 g2
      clear hr
      go_wp2_with fail
      refine (toTask_any _ _ _ _).mono ?_
      rintro e w1 ⟨rfl, hb1⟩
      have hfil1 := hfil.below hb1
      obtain ⟨f, hrow, hf⟩ := hfil1
      have x0 := hrow.cell (i := k * 3) (by omega)
      have x1 := hrow.cell (i := k * 3 + 1) (by omega)
      have x2 := hrow.cell (i := k * 3 + 2) (by omega)
      have z0 := hrow.frozen (k * 3)
      have z1 := hrow.frozen (k * 3 + 1)
      have z2 := hrow.frozen (k * 3 + 2)
      have HF := Lib.hid hf
      clear hf hfil
      go_wp2
      go_roundg (gk - 1)
      case measure => have := HK.out; omega
      case rel => exact ⟨k + 1, by have := HK.out; omega, by go_num, Filled.step hlt HT.out hrow HF.out, (((hb.trans (hb1.mono hb.size)).setCell (Nat.le_refl _) _).setCell (Nat.le_refl _) _).setCell (Nat.le_refl _) _⟩
    · have hk2 : k = ts.length := by omega
      subst hk2
      go_wp2
      go_ret
      exact ⟨rfl, hfil, hb⟩
theorem toTaskS_any (a : Option Addr) (cap : Nat) (ts : List (Int × Int × Int)) (w : World) (hr : Row w a ts) (hn : ts.length ≤ 1099511627776) :
    Calls Tryd.prog 21 #[.slice a ts.length cap] w fun e w' =>
      e = .returned (.slice (some ⟨w.heap.size, 0, none⟩) ts.length ts.length) ∧ Row w' (some ⟨w.heap.size, 0, none⟩) ts ∧ Below w.heap.size w w' :=
  (toTaskS_full a cap ts w hr hn).mono fun _ _ ⟨h1, h2, h3⟩ => ⟨h1, h2.row, h3⟩

/-- laws.eqTaskS, of two slices that hold the same tasks. -/
theorem eqTaskS_same (a a' : Option Addr) (cap cap' : Nat) (ts : List (Int × Int × Int)) (w : World) (hr : Row w a ts) (hr' : Row w a' ts) (hn : ts.length ≤ 1099511627776) :
    Calls Tryd.prog 24 #[.slice a ts.length cap, .slice a' ts.length cap'] w fun e w' =>
      e = .returned (.bool true) ∧ Below w.heap.size w w' := by
  go_enter Tryd.func24, Tryd.ntmps24
  go_wp2
  go_loopg [5] ts.length (fun n i wr => ∃ k : Nat, n + k = ts.length ∧ i = .int .i64 k ∧ Below w.heap.size w wr)
  case atStart => exact ⟨0, rfl, rfl, Below.refl _ _⟩
  case round =>
    obtain ⟨k, hk, rfl, hb⟩ := hrel
    have HK := Lib.hid hk
    have hk' : k ≤ ts.length := by omega
    clear hk
    by_cases hlt : k < ts.length
    · obtain ⟨b, off, rfl, hbs, hc0, hc1, hc2⟩ := hr k _ (List.getElem?_eq_getElem hlt)
      obtain ⟨b', off', rfl, hbs', hd0, hd1, hd2⟩ := hr' k _ (List.getElem?_eq_getElem hlt)
      obtain ⟨⟨c, d, p⟩, ht⟩ : ∃ t, t = ts[k] := ⟨_, rfl⟩
      rw [← ht] at hc0 hc1 hc2 hd0 hd1 hd2
      have g0 := (hb.cell (p := ⟨b, off + k * 3, none⟩) hbs).trans hc0
      have g1 := (hb.cell (p := ⟨b, off + k * 3 + 1, none⟩) hbs).trans hc1
      have g2 := (hb.cell (p := ⟨b, off + k * 3 + 2, none⟩) hbs).trans hc2
      have i0 := (hb.cell (p := ⟨b', off' + k * 3, none⟩) hbs').trans hd0
      have i1 := (hb.cell (p := ⟨b', off' + k * 3 + 1, none⟩) hbs').trans hd1
      have i2 := (hb.cell (p := ⟨b', off' + k * 3 + 2, none⟩) hbs').trans hd2
      have HT := Lib.hid ht
      clear ht hc0 hc1 hc2 hd0 hd1 hd2
      simp only at g0 g1 g2 i0 i1 i2
      clear hr hr'
      have hk0 : (0 : Int) ≤ k := by omega
      have hk1 : (k : Int) < ts.length := by omega
      go_wp2
      go_region_with (go_at_call 46; refine (eqTask_same _ _ _ _).mono ?_; rintro e w1 ⟨rfl, hb1⟩)
      all_goals
        go_wp2
        go_roundg (gk - 1)
        case measure => have := HK.out; omega
        case rel => exact ⟨k + 1, by have := HK.out; omega, by go_num, hb.drew.trans (hb1.mono hb.size)⟩
    · have hk2 : k = ts.length := by omega
      subst hk2
      go_wp2
      go_ret
      exact ⟨rfl, hb⟩

/-- laws.szTaskS: the room that is left. -/
theorem szTaskS_small (a : Option Addr) (len cap : Nat) (w : World) (h : len ≤ 1048576) :
    Calls Tryd.prog 19 #[.slice a len cap, .int .i64 1048576] w fun e w' =>
      e = .returned (.int .i64 (1048576 - len)) ∧ w = w' := by
  have h' : (0 : Int) ≤ 1048576 - len := by omega
  go_enter Tryd.func19, Tryd.ntmps19
  go_wp2
  go_ret
  exact ⟨rfl, rfl⟩
theorem szTaskS_big (a : Option Addr) (len cap : Nat) (w : World) (h : 1048576 < len) (hm : len ≤ maxLen) :
    Calls Tryd.prog 19 #[.slice a len cap, .int .i64 1048576] w fun e w' =>
      e = .returned (.int .i64 (-1)) ∧ w = w' := by
  unfold maxLen at hm
  have h' : (1048576 : Int) - len < 0 := by omega
  go_enter Tryd.func19, Tryd.ntmps19
  go_wp2
  go_ret
  exact ⟨rfl, rfl⟩

end Go.Proofs.YtdhdodmpfbgliaaDoor
