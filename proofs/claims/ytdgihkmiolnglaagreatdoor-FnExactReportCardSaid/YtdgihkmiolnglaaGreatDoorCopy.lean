/- Contracts of laws.toTaskS (a copy of a task set in new memory) and laws.eqTaskS (of two equal sets). Conditions: the slice's cells hold tasks; its length is at most 2^40. -/
import Derived.Test.YtdgihkmiolnglaaGreatDoorBase
import Derived.Deep.OwnRows
import Derived.Laws.MakeOwn
import Derived.Deep.RegionHeld3
import Derived.Deep.RegionWith
import Derived.RegionTactic
namespace Go.Proofs.YtdgihkmiolnglaaGreatDoor
open Go.RowKit Go.Deep

theorem taskInfo : (Tryz.prog.info? 29).map (fun i => (i.zero, i.size, i.bytes)) = some (some (.agg #[.int .i64 0, .int .i64 0, .int .i64 0]), 3, 24) := by kernel_rfl

theorem run_make_tasks (n : Nat) (hn : n ≤ 1099511627776) (w : World) :
    (Instr.makeSlice 27 (.int .i64 (n : Int)) (.int .i64 (n : Int))).run Tryz.prog w = .ok (.slice (some ⟨w.heap.size, 0, none⟩) n n) (w.alloc (.cells (madeCells #[.int .i64 0, .int .i64 0, .int .i64 0] (n * 3)) 29)) := by
  obtain ⟨i, hi, hz, hs, hb⟩ := info_parts taskInfo
  have h := run_make (P := Tryz.prog) w 27 29 i _ Tryz.underlying27 hi hz .i64 .i64 (n : Int) (n : Int) (by omega) (by omega) (by rw [hb]; omega) (by omega)
  rw [hs] at h
  simpa [Value.cells] using h

/-- A row of tasks of the call's own: 'k' of them are laid. -/
def Filled (w : World) (b n : Nat) (ts : List (Int × Int × Int)) (k : Nat) : Prop :=
  ∃ f, w.rowIs b 29 (n * 3) f ∧ ∀ (j : Nat) (t : Int × Int × Int), j < k → ts[j]? = some t → f (j * 3) = .int .i64 t.1 ∧ f (j * 3 + 1) = .int .i64 t.2.1 ∧ f (j * 3 + 2) = .int .i64 t.2.2

theorem Filled.made (w : World) (n : Nat) (ts : List (Int × Int × Int)) : Filled (w.alloc (.cells (madeCells #[.int .i64 0, .int .i64 0, .int .i64 0] (n * 3)) 29)) w.heap.size n ts 0 :=
  ⟨fun _ => .int .i64 0, by
    have h := World.rowIs_alloc w (madeCells #[.int .i64 0, .int .i64 0, .int .i64 0] (n * 3)) 29 (fun _ => .int .i64 0) (fun i hi => by
      have : i < n * 3 := by simpa [size_madeCells] using hi
      have h3 : i % 3 = 0 ∨ i % 3 = 1 ∨ i % 3 = 2 := by omega
      rcases h3 with h3 | h3 | h3 <;> simp [madeCells, this, h3])
    rwa [size_madeCells] at h, fun _ _ h => absurd h (Nat.not_lt_zero _)⟩

theorem Filled.row {w : World} {b : Nat} {ts : List (Int × Int × Int)} (h : Filled w b ts.length ts ts.length) : Row w (some ⟨b, 0, none⟩) ts := by
  obtain ⟨f, hr, hf⟩ := h
  intro k t hk
  have hlt : k < ts.length := (List.getElem?_eq_some_iff.1 hk).1
  obtain ⟨h0, h1, h2⟩ := hf k t hlt hk
  refine ⟨b, 0, rfl, hr.lt, ?_, ?_, ?_⟩
  · rw [Nat.zero_add, hr.cell (by omega), h0]
  · rw [Nat.zero_add, hr.cell (by omega), h1]
  · rw [Nat.zero_add, hr.cell (by omega), h2]

theorem Filled.below {w w' : World} {b n k : Nat} {ts : List (Int × Int × Int)} (h : Filled w b n ts k) (hb : Below w.heap.size w w') : Filled w' b n ts k := by
  obtain ⟨f, hr, hf⟩ := h
  exact ⟨f, hr.of_block (hb.block _ hr.lt), hf⟩

theorem Filled.step {w : World} {b n k : Nat} {ts : List (Int × Int × Int)} {c d p : Int} {f : Nat → Value} (hlt : k < ts.length) (ht : (c, d, p) = ts[k]) (hr : w.rowIs b 29 (n * 3) f)
    (hf : ∀ (j : Nat) (t : Int × Int × Int), j < k → ts[j]? = some t → f (j * 3) = .int .i64 t.1 ∧ f (j * 3 + 1) = .int .i64 t.2.1 ∧ f (j * 3 + 2) = .int .i64 t.2.2) :
    Filled (((w.setCell ⟨b, k * 3, none⟩ (.int .i64 c)).setCell ⟨b, k * 3 + 1, none⟩ (.int .i64 d)).setCell ⟨b, k * 3 + 2, none⟩ (.int .i64 p)) b n ts (k + 1) := by
  refine ⟨_, ((hr.set _ _).set _ _).set _ _, fun j t hj hjt => ?_⟩
  by_cases e : j = k
  · subst e
    rw [List.getElem?_eq_getElem hlt, ← ht] at hjt
    simp only [Option.some.injEq] at hjt
    subst hjt
    exact ⟨by simp, by simp, by simp⟩
  · obtain ⟨h0, h1, h2⟩ := hf j t (by omega) hjt
    refine ⟨?_, ?_, ?_⟩
    · rw [if_neg (by omega), if_neg (by omega), if_neg (by omega), h0]
    · rw [if_neg (by omega), if_neg (by omega), if_neg (by omega), h1]
    · rw [if_neg (by omega), if_neg (by omega), if_neg (by omega), h2]

end Go.Proofs.YtdgihkmiolnglaaGreatDoor
