/- Contracts of laws.toNodeS (a copy of a slice of nodes in new memory), laws.eqNodeS (of two equal slices), laws.szNodeS. Conditions: the slice's cells hold nodes; its length is at most 2^40. -/
import Derived.Test.YtlcdmjcikbgnpaaNodeMem
import Derived.Test.YtlcdmjcikbgnpaaCopy
namespace Go.Proofs.Ytlcdmjcikbgnpaa
open Go.RowKit Go.Deep

set_option maxRecDepth 100000 in
set_option maxHeartbeats 1000000 in
/-- laws.toNode: a copy. -/
theorem toNode_any (q c x y m : Int) (w : World) :
    Calls Try.prog 51 #[.agg #[.int .i64 q, .int .i64 c, .int .i64 x, .int .i64 y, .int .i64 m]] w fun e w' => e = .returned (.agg #[.int .i64 q, .int .i64 c, .int .i64 x, .int .i64 y, .int .i64 m]) ∧ Below w.heap.size w w' := by
  go_enter Try.func51, Try.ntmps51
  go_wp2
  refine bodyPost_ret (v := .agg #[.int .i64 q, .int .i64 c, .int .i64 x, .int .i64 y, .int .i64 m]) (by simp [results, Try.results51]; go_simp) rfl ⟨rfl, ?_⟩
  repeat (first | exact below_box _ _ | refine Below.drew ?_ | refine Below.setCell ?_ (by first | (dsimp only; omega) | (simp; omega)) _ | refine Below.alloc ?_ (by first | omega | (simp; omega) | simp) _)

set_option maxRecDepth 100000 in
set_option maxHeartbeats 1000000 in
/-- laws.eqNode. -/
theorem eqNode_same (q c x y m : Int) (w : World) :
    Calls Try.prog 52 #[.agg #[.int .i64 q, .int .i64 c, .int .i64 x, .int .i64 y, .int .i64 m], .agg #[.int .i64 q, .int .i64 c, .int .i64 x, .int .i64 y, .int .i64 m]] w fun e w' => e = .returned (.bool true) ∧ Below w.heap.size w w' := by
  go_enter Try.func52, Try.ntmps52
  go_wp2
  go_ret
  exact ⟨rfl, (below_box _ _).alloc (by simp) _⟩

theorem run_make_nodes (n : Nat) (hn : n ≤ 1099511627776) (w : World) :
    (Instr.makeSlice 23 (.int .i64 (n : Int)) (.int .i64 (n : Int))).run Try.prog w = .ok (.slice (some ⟨w.heap.size, 0, none⟩) n n) (w.alloc (.cells (madeCells #[.int .i64 0, .int .i64 0, .int .i64 0, .int .i64 0, .int .i64 0] (n * 5)) 28)) := by
  obtain ⟨i, hi, hz, hs, hb⟩ := info_parts nodeInfo
  have h := run_make (P := Try.prog) w 23 28 i _ Try.underlying23 hi hz .i64 .i64 (n : Int) (n : Int) (by omega) (by omega) (by rw [hb]; omega) (by omega)
  rw [hs] at h
  simpa [Value.cells] using h
/-- A row of nodes of the call's own: k of them are laid. -/
def FilledN (w : World) (b n : Nat) (ps : List N5) (k : Nat) : Prop := ∃ f, w.rowIs b 28 (n * 5) f ∧ ∀ j, j < k → f (j * 5) = .int .i64 (nd8 ps j).1 ∧ f (j * 5 + 1) = .int .i64 (nd8 ps j).2.1 ∧ f (j * 5 + 2) = .int .i64 (nd8 ps j).2.2.1 ∧ f (j * 5 + 3) = .int .i64 (nd8 ps j).2.2.2.1 ∧ f (j * 5 + 4) = .int .i64 (nd8 ps j).2.2.2.2
theorem FilledN.made (w : World) (n : Nat) (ps : List N5) : FilledN (w.alloc (.cells (madeCells #[.int .i64 0, .int .i64 0, .int .i64 0, .int .i64 0, .int .i64 0] (n * 5)) 28)) w.heap.size n ps 0 :=
  ⟨fun _ => .int .i64 0, by
    have h := World.rowIs_alloc w (madeCells #[.int .i64 0, .int .i64 0, .int .i64 0, .int .i64 0, .int .i64 0] (n * 5)) 28 (fun _ => .int .i64 0) (fun i hi => by
      have : i < n * 5 := by simpa [size_madeCells] using hi
      have h5 : i % 5 = 0 ∨ i % 5 = 1 ∨ i % 5 = 2 ∨ i % 5 = 3 ∨ i % 5 = 4 := by omega
      rcases h5 with h5 | h5 | h5 | h5 | h5 <;> simp [madeCells, this, h5])
    rwa [size_madeCells] at h, fun _ h => absurd h (Nat.not_lt_zero _)⟩
theorem FilledN.row {w : World} {b : Nat} {ps : List N5} (h : FilledN w b ps.length ps ps.length) : RowN w (some ⟨b, 0, none⟩) ps := by
  obtain ⟨f, hr, hf⟩ := h
  intro k hk
  obtain ⟨h0, h1, h2, h3, h4⟩ := hf k hk
  refine ⟨b, 0, rfl, hr.lt, ?_, ?_, ?_, ?_, ?_⟩
  · rw [Nat.zero_add, hr.cell (by omega), h0]
  · rw [Nat.zero_add, hr.cell (by omega), h1]
  · rw [Nat.zero_add, hr.cell (by omega), h2]
  · rw [Nat.zero_add, hr.cell (by omega), h3]
  · rw [Nat.zero_add, hr.cell (by omega), h4]
theorem FilledN.below {w w' : World} {b n k : Nat} {ps : List N5} (h : FilledN w b n ps k) (hb : Below w.heap.size w w') : FilledN w' b n ps k := by
  obtain ⟨f, hr, hf⟩ := h
  exact ⟨f, hr.of_block (hb.block _ hr.lt), hf⟩
theorem FilledN.step {w : World} {b n k : Nat} {ps : List N5} {q c x y m : Int} {f : Nat → Value} (ht : (q, c, x, y, m) = nd8 ps k) (hr : w.rowIs b 28 (n * 5) f)
    (hf : ∀ j, j < k → f (j * 5) = .int .i64 (nd8 ps j).1 ∧ f (j * 5 + 1) = .int .i64 (nd8 ps j).2.1 ∧ f (j * 5 + 2) = .int .i64 (nd8 ps j).2.2.1 ∧ f (j * 5 + 3) = .int .i64 (nd8 ps j).2.2.2.1 ∧ f (j * 5 + 4) = .int .i64 (nd8 ps j).2.2.2.2) :
    FilledN (((((w.setCell ⟨b, k * 5, none⟩ (.int .i64 q)).setCell ⟨b, k * 5 + 1, none⟩ (.int .i64 c)).setCell ⟨b, k * 5 + 2, none⟩ (.int .i64 x)).setCell ⟨b, k * 5 + 3, none⟩ (.int .i64 y)).setCell ⟨b, k * 5 + 4, none⟩ (.int .i64 m)) b n ps (k + 1) := by
  refine ⟨_, ((((hr.set _ _).set _ _).set _ _).set _ _).set _ _, fun j hj => ?_⟩
  by_cases e : j = k
  · subst e
    rw [← ht]
    exact ⟨by simp, by simp, by simp, by simp, by simp⟩
  · obtain ⟨h0, h1, h2, h3, h4⟩ := hf j (by omega)
    refine ⟨?_, ?_, ?_, ?_, ?_⟩
    · rw [if_neg (by omega), if_neg (by omega), if_neg (by omega), if_neg (by omega), if_neg (by omega), h0]
    · rw [if_neg (by omega), if_neg (by omega), if_neg (by omega), if_neg (by omega), if_neg (by omega), h1]
    · rw [if_neg (by omega), if_neg (by omega), if_neg (by omega), if_neg (by omega), if_neg (by omega), h2]
    · rw [if_neg (by omega), if_neg (by omega), if_neg (by omega), if_neg (by omega), if_neg (by omega), h3]
    · rw [if_neg (by omega), if_neg (by omega), if_neg (by omega), if_neg (by omega), if_neg (by omega), h4]

set_option maxRecDepth 100000 in
set_option maxHeartbeats 2000000 in
/-- laws.toNodeS; the copy may be written to. -/
theorem toNodeS_full (a : Option Addr) (cap : Nat) (ps : List N5) (w : World) (hr : RowN w a ps) (hn : ps.length ≤ 1099511627776) :
    Calls Try.prog 30 #[.slice a ps.length cap] w fun e w' =>
      e = .returned (.slice (some ⟨w.heap.size, 0, none⟩) ps.length ps.length) ∧ FilledN w' w.heap.size ps.length ps ps.length ∧ Below w.heap.size w w' := by
  have hmk := run_make_nodes ps.length hn
  go_enter Try.func30, Try.ntmps30
  go_wp2
  go_loopg [4] ps.length (fun n i wr => ∃ k : Nat, n + k = ps.length ∧ i = .int .i64 k ∧ FilledN wr w.heap.size ps.length ps k ∧ Below w.heap.size w wr)
  case atStart => exact ⟨0, rfl, rfl, FilledN.made _ _ _, below_box _ _⟩
  case round =>
    clear hmk
    obtain ⟨k, hk, rfl, hfil, hb⟩ := hrel
    have HK := Lib.hid hk
    have hk' : k ≤ ps.length := by omega
    clear hk
    by_cases hlt : k < ps.length
    · obtain ⟨b, off, rfl, hbs, hc0, hc1, hc2, hc3, hc4⟩ := hr k hlt
      obtain ⟨⟨q, c, x, y, m⟩, ht⟩ : ∃ t, t = nd8 ps k := ⟨_, rfl⟩
      rw [← ht] at hc0 hc1 hc2 hc3 hc4
      have g0 := (hb.cell (p := ⟨b, off + k * 5, none⟩) hbs).trans hc0
      have g1 := (hb.cell (p := ⟨b, off + k * 5 + 1, none⟩) hbs).trans hc1
      have g2 := (hb.cell (p := ⟨b, off + k * 5 + 2, none⟩) hbs).trans hc2
      have g3 := (hb.cell (p := ⟨b, off + k * 5 + 3, none⟩) hbs).trans hc3
      have g4 := (hb.cell (p := ⟨b, off + k * 5 + 4, none⟩) hbs).trans hc4
      have HT := Lib.hid ht
      clear ht hc0 hc1 hc2 hc3 hc4
      simp only at g0 g1 g2 g3 g4
      clear hr
      go_wp2_with fail
      refine (toNode_any _ _ _ _ _ _).mono ?_
      rintro e w1 ⟨rfl, hb1⟩
      have hfil1 := hfil.below hb1
      obtain ⟨f, hrow, hf⟩ := hfil1
      have x0 := hrow.cell (i := k * 5) (by omega)
      have z0 := hrow.frozen (k * 5)
      have x1 := hrow.cell (i := k * 5 + 1) (by omega)
      have z1 := hrow.frozen (k * 5 + 1)
      have x2 := hrow.cell (i := k * 5 + 2) (by omega)
      have z2 := hrow.frozen (k * 5 + 2)
      have x3 := hrow.cell (i := k * 5 + 3) (by omega)
      have z3 := hrow.frozen (k * 5 + 3)
      have x4 := hrow.cell (i := k * 5 + 4) (by omega)
      have z4 := hrow.frozen (k * 5 + 4)
      have HF := Lib.hid hf
      clear hf hfil
      go_wp2
      go_roundg (gk - 1)
      case measure => have := HK.out; omega
      case rel => exact ⟨k + 1, by have := HK.out; omega, by go_num, FilledN.step HT.out hrow HF.out, (((((hb.trans (hb1.mono hb.size)).setCell (Nat.le_refl _) _).setCell (Nat.le_refl _) _).setCell (Nat.le_refl _) _).setCell (Nat.le_refl _) _).setCell (Nat.le_refl _) _⟩
    · have hk2 : k = ps.length := by omega
      subst hk2
      go_wp2
      go_ret
      exact ⟨rfl, hfil, hb⟩
theorem toNodeS_any (a : Option Addr) (cap : Nat) (ps : List N5) (w : World) (hr : RowN w a ps) (hn : ps.length ≤ 1099511627776) :
    Calls Try.prog 30 #[.slice a ps.length cap] w fun e w' =>
      e = .returned (.slice (some ⟨w.heap.size, 0, none⟩) ps.length ps.length) ∧ RowN w' (some ⟨w.heap.size, 0, none⟩) ps ∧ Below w.heap.size w w' :=
  (toNodeS_full a cap ps w hr hn).mono fun _ _ ⟨h1, h2, h3⟩ => ⟨h1, h2.row, h3⟩

set_option maxRecDepth 100000 in
set_option maxHeartbeats 2000000 in
/-- laws.eqNodeS, of two slices that hold the same nodes. -/
theorem eqNodeS_same (a a' : Option Addr) (cap cap' : Nat) (ps : List N5) (w : World) (hr : RowN w a ps) (hr' : RowN w a' ps) (hn : ps.length ≤ 1099511627776) :
    Calls Try.prog 31 #[.slice a ps.length cap, .slice a' ps.length cap'] w fun e w' =>
      e = .returned (.bool true) ∧ Below w.heap.size w w' := by
  go_enter Try.func31, Try.ntmps31
  go_wp2
  go_loopg [5] ps.length (fun n i wr => ∃ k : Nat, n + k = ps.length ∧ i = .int .i64 k ∧ Below w.heap.size w wr)
  case atStart => exact ⟨0, rfl, rfl, Below.refl _ _⟩
  case round =>
    obtain ⟨k, hk, rfl, hb⟩ := hrel
    have HK := Lib.hid hk
    have hk' : k ≤ ps.length := by omega
    clear hk
    by_cases hlt : k < ps.length
    · obtain ⟨b, off, rfl, hbs, hc0, hc1, hc2, hc3, hc4⟩ := hr k hlt
      obtain ⟨b', off', rfl, hbs', hd0, hd1, hd2, hd3, hd4⟩ := hr' k hlt
      obtain ⟨⟨q, c, x, y, m⟩, ht⟩ : ∃ t, t = nd8 ps k := ⟨_, rfl⟩
      rw [← ht] at hc0 hc1 hc2 hc3 hc4 hd0 hd1 hd2 hd3 hd4
      have g0 := (hb.cell (p := ⟨b, off + k * 5, none⟩) hbs).trans hc0
      have i0 := (hb.cell (p := ⟨b', off' + k * 5, none⟩) hbs').trans hd0
      have g1 := (hb.cell (p := ⟨b, off + k * 5 + 1, none⟩) hbs).trans hc1
      have i1 := (hb.cell (p := ⟨b', off' + k * 5 + 1, none⟩) hbs').trans hd1
      have g2 := (hb.cell (p := ⟨b, off + k * 5 + 2, none⟩) hbs).trans hc2
      have i2 := (hb.cell (p := ⟨b', off' + k * 5 + 2, none⟩) hbs').trans hd2
      have g3 := (hb.cell (p := ⟨b, off + k * 5 + 3, none⟩) hbs).trans hc3
      have i3 := (hb.cell (p := ⟨b', off' + k * 5 + 3, none⟩) hbs').trans hd3
      have g4 := (hb.cell (p := ⟨b, off + k * 5 + 4, none⟩) hbs).trans hc4
      have i4 := (hb.cell (p := ⟨b', off' + k * 5 + 4, none⟩) hbs').trans hd4
      have HT := Lib.hid ht
      clear ht hc0 hc1 hc2 hc3 hc4 hd0 hd1 hd2 hd3 hd4
      simp only at g0 g1 g2 g3 g4 i0 i1 i2 i3 i4
      clear hr hr'
      have hk0 : (0 : Int) ≤ k := by omega
      have hk1 : (k : Int) < ps.length := by omega
      go_wp2
      go_region_with (go_at_call 52; refine (eqNode_same _ _ _ _ _ _).mono ?_; rintro e w1 ⟨rfl, hb1⟩)
      all_goals
        go_wp2
        go_roundg (gk - 1)
        case measure => have := HK.out; omega
        case rel => exact ⟨k + 1, by have := HK.out; omega, by go_num, hb.drew.trans (hb1.mono hb.size)⟩
    · have hk2 : k = ps.length := by omega
      subst hk2
      go_wp2
      go_ret
      exact ⟨rfl, hb⟩

/-- laws.szNodeS: the room that is left. -/
theorem szNodeS_small (a : Option Addr) (len cap : Nat) (w : World) (h : len ≤ 1048576) :
    Calls Try.prog 29 #[.slice a len cap, .int .i64 1048576] w fun e w' => e = .returned (.int .i64 (1048576 - len)) ∧ w = w' := by
  have h' : (0 : Int) ≤ 1048576 - len := by omega
  go_enter Try.func29, Try.ntmps29
  go_wp2
  go_ret
  exact ⟨rfl, rfl⟩
theorem szNodeS_big (a : Option Addr) (len cap : Nat) (w : World) (h : 1048576 < len) (hm : len ≤ maxLen) :
    Calls Try.prog 29 #[.slice a len cap, .int .i64 1048576] w fun e w' => e = .returned (.int .i64 (-1)) ∧ w = w' := by
  unfold maxLen at hm
  have h' : (1048576 : Int) - len < 0 := by omega
  go_enter Try.func29, Try.ntmps29
  go_wp2
  go_ret
  exact ⟨rfl, rfl⟩

end Go.Proofs.Ytlcdmjcikbgnpaa
