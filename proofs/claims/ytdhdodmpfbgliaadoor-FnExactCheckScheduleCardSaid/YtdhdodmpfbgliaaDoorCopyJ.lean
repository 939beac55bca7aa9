/- Contracts of laws.toJob, eqJob, toJobS (a copy of jobs in new memory), eqJobS (of equal jobs), szJobS. Conditions: the slice's cells hold jobs; its length is at most 2^40. -/
import Derived.Test.YtdhdodmpfbgliaaDoorMem
import Derived.Laws.MakeOwn
import Derived.Deep.RegionWith
namespace Go.Proofs.YtdhdodmpfbgliaaDoor
open Go.RowKit Go.Deep

/-- laws.toJob. -/
theorem toJob_any (i r d e : Int) (w : World) :
    Calls Tryd.prog 45 #[.agg #[.int .i64 i, .int .i64 r, .int .i64 d, .int .i64 e]] w fun x w' =>
      x = .returned (.agg #[.int .i64 i, .int .i64 r, .int .i64 d, .int .i64 e]) ∧ Below w.heap.size w w' := by
  go_enter Tryd.func45, Tryd.ntmps45
  go_wp2
  simp [bodyPost, results, Tryd.results45, go_sem]
  exact ((below_box _ _).alloc (by simp) _).alloc (by simp; omega) _

/-- laws.eqJob, of equal jobs. -/
theorem eqJob_same (i r d e : Int) (w : World) :
    Calls Tryd.prog 47 #[.agg #[.int .i64 i, .int .i64 r, .int .i64 d, .int .i64 e], .agg #[.int .i64 i, .int .i64 r, .int .i64 d, .int .i64 e]] w fun x w' =>
      x = .returned (.bool true) ∧ Below w.heap.size w w' := by
  go_enter Tryd.func47, Tryd.ntmps47
  go_wp2
  go_ret
  exact ⟨rfl, (below_box _ _).alloc (by simp) _⟩

theorem run_make_jobs (n : Nat) (hn : n ≤ 1099511627776) (w : World) :
    (Instr.makeSlice 24 (.int .i64 (n : Int)) (.int .i64 (n : Int))).run Tryd.prog w = .ok (.slice (some ⟨w.heap.size, 0, none⟩) n n) (w.alloc (.cells (madeCells #[.int .i64 0, .int .i64 0, .int .i64 0, .int .i64 0] (n * 4)) 41)) := by
  obtain ⟨i, hi, hz, hs, hb⟩ := info_parts jobInfo
  have h := run_make (P := Tryd.prog) w 24 41 i _ Tryd.underlying24 hi hz .i64 .i64 (n : Int) (n : Int) (by omega) (by omega) (by rw [hb]; omega) (by omega)
  rw [hs] at h
  simpa [Value.cells] using h
theorem made_jobs (w : World) (n : Nat) : (w.alloc (.cells (madeCells #[.int .i64 0, .int .i64 0, .int .i64 0, .int .i64 0] (n * 4)) 41)).rowIs w.heap.size 41 (n * 4) (fun _ => .int .i64 0) := by
  have h := World.rowIs_alloc w (madeCells #[.int .i64 0, .int .i64 0, .int .i64 0, .int .i64 0] (n * 4)) 41 (fun _ => .int .i64 0) (fun i hi => by
    have : i < n * 4 := by simpa [size_madeCells] using hi
    have h3 : i % 4 = 0 ∨ i % 4 = 1 ∨ i % 4 = 2 ∨ i % 4 = 3 := by omega
    rcases h3 with h3 | h3 | h3 | h3 <;> simp [madeCells, this, h3])
  rwa [size_madeCells] at h
theorem own_of_row {w : World} {base b : Nat} {js : List J4} (h : w.rowIs b 41 (js.length * 4) (fun m => .int .i64 (fJ js m))) (hb : base ≤ b) (hl : js.length ≤ 1099511627776) : OwnJ w base (.slice (some ⟨b, 0, none⟩) js.length js.length) js := by
  obtain ⟨c, h1, h2, h3⟩ := h
  refine ⟨vals_len _ _, .inr ⟨b, js.length, c, rfl, hb, h1, Nat.le_refl _, by unfold maxLen; omega, h2, ?_⟩⟩
  apply List.ext_getElem?
  intro m
  by_cases hm : m < js.length * 4
  · rw [List.getElem?_take_of_lt hm, Array.getElem?_toList, h3 m hm, vals_at _ hm]
  · rw [List.getElem?_eq_none (by rw [List.length_take]; omega), List.getElem?_eq_none (by rw [vals_len]; omega)]
/-- k jobs are laid. -/
def LaidJ (w : World) (b n : Nat) (js : List J4) (k : Nat) : Prop := ∃ f, w.rowIs b 41 (n * 4) f ∧ ∀ m, m < k * 4 → f m = .int .i64 (fJ js m)
theorem LaidJ.below {w w' : World} {b n k : Nat} {js : List J4} (h : LaidJ w b n js k) (hb : Below w.heap.size w w') : LaidJ w' b n js k := by
  obtain ⟨f, hr, hf⟩ := h
  exact ⟨f, hr.of_block (hb.block _ hr.lt), hf⟩
theorem LaidJ.step {w : World} {b n k : Nat} {js : List J4} {i r d e : Int} {f : Nat → Value} (hJ : (i, r, d, e) = jb js k) (hr : w.rowIs b 41 (n * 4) f) (hf : ∀ m, m < k * 4 → f m = .int .i64 (fJ js m)) :
    LaidJ ((((w.setCell ⟨b, k * 4, none⟩ (.int .i64 i)).setCell ⟨b, k * 4 + 1, none⟩ (.int .i64 r)).setCell ⟨b, k * 4 + 2, none⟩ (.int .i64 d)).setCell ⟨b, k * 4 + 3, none⟩ (.int .i64 e)) b n js (k + 1) := by
  refine ⟨_, (((hr.set _ _).set _ _).set _ _).set _ _, fun m hm => ?_⟩
  have f4 : ∀ c, c < 4 → fJ js (k * 4 + c) = cellJ (jb js k) c := fun c hc => by
    have h1 : (k * 4 + c) / 4 = k := by omega
    have h2 : (k * 4 + c) % 4 = c := by omega
    rw [fJ, h1, h2]
  by_cases e3 : m = k * 4 + 3
  · subst e3; rw [f4 3 (by omega), ← hJ]; simp [cellJ]
  · by_cases e2 : m = k * 4 + 2
    · subst e2; rw [f4 2 (by omega), ← hJ]; simp [cellJ]
    · by_cases e1 : m = k * 4 + 1
      · subst e1; rw [f4 1 (by omega), ← hJ]; simp [cellJ]
      · by_cases e0 : m = k * 4
        · have h0 := f4 0 (by omega)
          rw [Nat.add_zero] at h0
          subst e0; rw [h0, ← hJ]; simp [cellJ]
        · simp only [if_neg e3, if_neg e2, if_neg e1, if_neg e0]
          exact hf m (by omega)

/-- laws.toJobS. -/
theorem toJobS_any (a : Option Addr) (cap : Nat) (js : List J4) (w : World) (hr : RowJ w a js) (hn : js.length ≤ 1099511627776) :
    Calls Tryd.prog 22 #[.slice a js.length cap] w fun e w' =>
      e = .returned (.slice (some ⟨w.heap.size, 0, none⟩) js.length js.length) ∧ OwnJ w' w.heap.size (.slice (some ⟨w.heap.size, 0, none⟩) js.length js.length) js ∧ Below w.heap.size w w' := by
  have hmk := run_make_jobs js.length hn
  have HR := Lib.hid hr
  clear hr
  go_enter Tryd.func22, Tryd.ntmps22
  go_wp2
  go_loopg [4] js.length (fun n i wr => ∃ k : Nat, n + k = js.length ∧ i = .int .i64 k ∧ LaidJ wr w.heap.size js.length js k ∧ Below w.heap.size w wr)
  case atStart => exact ⟨0, rfl, rfl, ⟨_, made_jobs w js.length, fun m hm => by omega⟩, below_box _ _⟩
  case round =>
    clear hmk
    obtain ⟨k, hk, rfl, hfil, hb⟩ := hrel
    have HK := Lib.hid hk
    have hk' : k ≤ js.length := by omega
    clear hk
    by_cases hlt : k < js.length
    · obtain ⟨b, off, rfl, hbs, g0, g1, g2, g3⟩ := (HR.out.below hb) k hlt
      obtain ⟨⟨i, r, d, e⟩, hJ⟩ : ∃ j, j = jb js k := ⟨_, rfl⟩
      rw [← hJ] at g0 g1 g2 g3
      simp only at g0 g1 g2 g3
      have HJ := Lib.hid hJ
      clear hJ
      go_wp2_with fail
      refine (toJob_any _ _ _ _ _).mono ?_
      rintro x w1 ⟨rfl, hb1⟩
      obtain ⟨f, hrow, hf⟩ := hfil.below hb1
      have x0 := hrow.cell (i := k * 4) (by omega)
      have x1 := hrow.cell (i := k * 4 + 1) (by omega)
      have x2 := hrow.cell (i := k * 4 + 2) (by omega)
      have x3 := hrow.cell (i := k * 4 + 3) (by omega)
      have z0 := hrow.frozen (k * 4)
      have z1 := hrow.frozen (k * 4 + 1)
      have z2 := hrow.frozen (k * 4 + 2)
      have z3 := hrow.frozen (k * 4 + 3)
      have HF := Lib.hid hf
      clear hf hfil
      go_wp2
      go_roundg (gk - 1)
      case measure => have := HK.out; omega
      case rel => exact ⟨k + 1, by have := HK.out; omega, by go_num, LaidJ.step HJ.out hrow HF.out, ((((hb.trans (hb1.mono hb.size)).setCell (Nat.le_refl _) _).setCell (Nat.le_refl _) _).setCell (Nat.le_refl _) _).setCell (Nat.le_refl _) _⟩
    · have hk2 : k = js.length := by omega
      subst hk2
      obtain ⟨f, hrow, hf⟩ := hfil
      have HO := Lib.hid (own_of_row (base := w.heap.size) (hrow.congr hf) (Nat.le_refl _) hn)
      clear hrow hf
      go_wp2
      go_ret
      exact ⟨rfl, HO.out, hb⟩

/-- laws.eqJobS, of two slices that hold the same jobs. -/
theorem eqJobS_same (a a' : Option Addr) (cap cap' : Nat) (js : List J4) (w : World) (hr : RowJ w a js) (hr' : RowJ w a' js) (hn : js.length ≤ 1099511627776) :
    Calls Tryd.prog 25 #[.slice a js.length cap, .slice a' js.length cap'] w fun e w' =>
      e = .returned (.bool true) ∧ Below w.heap.size w w' := by
  have HR := Lib.hid hr
  have HR' := Lib.hid hr'
  clear hr hr'
  go_enter Tryd.func25, Tryd.ntmps25
  go_wp2
  go_loopg [5] js.length (fun n i wr => ∃ k : Nat, n + k = js.length ∧ i = .int .i64 k ∧ Below w.heap.size w wr)
  case atStart => exact ⟨0, rfl, rfl, Below.refl _ _⟩
  case round =>
    obtain ⟨k, hk, rfl, hb⟩ := hrel
    have HK := Lib.hid hk
    have hk' : k ≤ js.length := by omega
    clear hk
    by_cases hlt : k < js.length
    · obtain ⟨b, off, rfl, _, g0, g1, g2, g3⟩ := (HR.out.below hb) k hlt
      obtain ⟨b', off', rfl, _, i0, i1, i2, i3⟩ := (HR'.out.below hb) k hlt
      obtain ⟨⟨i, r, d, e⟩, hJ⟩ : ∃ j, j = jb js k := ⟨_, rfl⟩
      rw [← hJ] at g0 g1 g2 g3 i0 i1 i2 i3
      simp only at g0 g1 g2 g3 i0 i1 i2 i3
      clear hJ
      have hk0 : (0 : Int) ≤ k := by omega
      have hk1 : (k : Int) < js.length := by omega
      go_wp2
      go_region_with (go_at_call 47; refine (eqJob_same _ _ _ _ _).mono ?_; rintro x w1 ⟨rfl, hb1⟩)
      all_goals
        go_wp2
        go_roundg (gk - 1)
        case measure => have := HK.out; omega
        case rel => exact ⟨k + 1, by have := HK.out; omega, by go_num, hb.drew.trans (hb1.mono hb.size)⟩
    · have hk2 : k = js.length := by omega
      subst hk2
      go_wp2
      go_ret
      exact ⟨rfl, hb⟩

/-- laws.szJobS: the room that is left. -/
theorem szJobS_small (a : Option Addr) (len cap left : Nat) (w : World) (h : len ≤ left) (hl : left ≤ 1048576) :
    Calls Tryd.prog 20 #[.slice a len cap, .int .i64 (left : Int)] w fun e w' =>
      e = .returned (.int .i64 ((left : Int) - len)) ∧ w = w' := by
  have h' : (0 : Int) ≤ (left : Int) - len := by omega
  go_enter Tryd.func20, Tryd.ntmps20
  go_wp2
  go_ret
  exact ⟨rfl, rfl⟩
theorem szJobS_big (a : Option Addr) (len cap left : Nat) (w : World) (h : left < len) (hm : len ≤ maxLen) (hl : left ≤ 1048576) :
    Calls Tryd.prog 20 #[.slice a len cap, .int .i64 (left : Int)] w fun e w' =>
      e = .returned (.int .i64 (-1)) ∧ w = w' := by
  unfold maxLen at hm
  have h' : (left : Int) - len < 0 := by omega
  go_enter Tryd.func20, Tryd.ntmps20
  go_wp2
  go_ret
  exact ⟨rfl, rfl⟩

end Go.Proofs.YtdhdodmpfbgliaaDoor
