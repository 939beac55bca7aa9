/- Spans of nodes in memory, and contracts of the program's blockSpan, seqSpan, branchSpan, loopSpan, nodeKinds. Conditions: the slice holds what is said; the node's children are in it; no span is greater than 2^50. -/
import Derived.Test.YtlcdmjcikbgnpaaPrgNode
import Derived.BigRegion
import Derived.Laws.EntriesVeiled
namespace Go.Proofs.Ytlcdmjcikbgnpaa
open Go.RowKit Go.Deep

theorem spanInfo : (Try.prog.info? 64).map (fun i => (i.zero, i.size, i.bytes)) = some (some (.agg #[.int .i64 0, .int .i64 0, .int .i64 0]), 3, 24) := by kernel_rfl
/-- From block base on: a slice of its own, of spans. -/
def OwnP (w : World) (base : Nat) (v : Value) (ss : List T3) : Prop := w.ownsRow base 64 3 v ss.length (flat ss)
variable {w w' wr : World} {base : Nat} {v : Value} {ss : List T3}
theorem OwnP.lt (h : OwnP w base v ss) : ∀ k, v.ownBlock = some k → base ≤ k ∧ k < w.heap.size := World.ownsRow.lt h
theorem OwnP.shape (h : OwnP w base v ss) : ∃ a cap, v = .slice a ss.length cap := own_shape h
theorem OwnP.row {a : Option Addr} {n cap : Nat} (h : OwnP w base (.slice a n cap) ss) : Row w a ss := by
  obtain ⟨_, ⟨_, hn⟩ | ⟨g, cap', cur, e, _, hb, hnc, hcm, hsz, hx⟩⟩ := h
  · intro k t hk
    rw [List.length_eq_zero_iff.1 hn] at hk
    simp at hk
  · simp only [Value.slice.injEq] at e
    intro k t hk
    have hlt : k < ss.length := (List.getElem?_eq_some_iff.1 hk).1
    obtain ⟨h0, h1, h2⟩ := flat_at ss k t hk
    have hg : g < w.heap.size := (Array.getElem?_eq_some_iff.1 hb).1
    have hcell : ∀ j, j < ss.length * 3 → w.cell? ⟨g, j, none⟩ = (flat ss)[j]? := by
      intro j hj
      rw [← hx, List.getElem?_take_of_lt hj, Array.getElem?_toList]
      simp [World.cell?, hb]
    refine ⟨g, 0, e.1, hg, ?_, ?_, ?_⟩
    · rw [Nat.zero_add, hcell _ (by omega), h0]
    · rw [Nat.zero_add, hcell _ (by omega), h1]
    · rw [Nat.zero_add, hcell _ (by omega), h2]
theorem OwnP.below (h : OwnP w base v ss) (hb : Below w.heap.size w w') : OwnP w' base v ss :=
  World.ownsRow.kept h (gb_of_below hb none) (by cases e : v.ownBlock with
    | none => exact .inl rfl
    | some k => exact .inr (by simp))
theorem OwnP.mono {base' : Nat} (h : OwnP w base v ss) (hb : base' ≤ base) : OwnP w base' v ss := by
  obtain ⟨h1, h2 | ⟨g, cap, cur, h2, h3, h4⟩⟩ := h
  · exact ⟨h1, .inl h2⟩
  · exact ⟨h1, .inr ⟨g, cap, cur, h2, Nat.le_trans hb h3, h4⟩⟩
theorem OwnP.drew (h : OwnP w base v ss) : OwnP w.drew base v ss := h.below (Below.refl _ _).drew
theorem OwnP.nil (w : World) (base : Nat) : OwnP w base (.slice none 0 0) [] := ⟨rfl, .inl ⟨rfl, rfl⟩⟩
theorem OwnP.push {i r d : Int} (ho : w'.ownsRow base 64 3 v (ss.length + 1) (flat ss ++ [.int .i64 i, .int .i64 r, .int .i64 d])) : OwnP w' base v (ss ++ [(i, r, d)]) := by
  unfold OwnP
  rw [flat_snoc]
  simpa using ho

/-- The cells of the program's table of functions, by the kind of a node. -/
def kindsC : Array Value := #[.nilFunc, .nilFunc, .nilFunc, .func (.func 58) #[] #[], .func (.func 59) #[] #[], .func (.func 60) #[] #[], .func (.func 61) #[] #[], .func (.func 62) #[] #[], .func (.func 63) #[] #[], .func (.func 64) #[] #[], .func (.func 65) #[] #[], .func (.func 66) #[] #[], .func (.func 67) #[] #[], .func (.func 68) #[] #[], .func (.func 69) #[] #[]]
def kindsV : Value := .agg kindsC

set_option maxRecDepth 100000 in
set_option maxHeartbeats 2000000 in
/-- impl.nodeKinds. -/
theorem nodeKinds_any (w : World) : Calls Try.prog 54 #[] w fun e w' => e = .returned kindsV ∧ Below w.heap.size w w' := by
  go_enter Try.func54, Try.ntmps54
  go_wp2
  refine bodyPost_ret (v := kindsV) (by simp [results, Try.results54, go_sem, kindsV, kindsC]) rfl ⟨rfl, by repeat (first | exact below_box _ _ | refine Below.setCell ?_ (by simp) _)⟩

set_option maxRecDepth 100000 in
set_option maxHeartbeats 2000000 in
/-- (impl.Node).blockSpan. -/
theorem blockSpan_any (q c a b m : Int) (v : Value) (w : World) : Calls Try.prog 59 #[nv5 q c a b m, v] w fun e w' => e = .returned (.agg #[.int .i64 c, .int .i64 c, .int .i64 0]) ∧ Below w.heap.size w w' := by
  go_enter Try.func59, Try.ntmps59
  go_wp2
  exact bodyPost_ret (v := .agg #[.int .i64 c, .int .i64 c, .int .i64 0]) (by simp [results, Try.results59, go_sem]) rfl ⟨rfl, (below_box _ _).trans ((below_box _ _).mono (by simp))⟩

set_option maxRecDepth 100000 in
set_option maxHeartbeats 2000000 in
/-- (impl.Node).seqSpan. -/
theorem seqSpan_any (q c m : Int) (x y : Nat) (a : Option Addr) (cap : Nat) (ss : List T3) (w : World) (hr : Row w a ss) (hx : x < ss.length) (hy : y < ss.length) (X1 X2 X3 Y1 Y2 Y3 : Nat) (ex : tk ss x = ((X1 : Int), (X2 : Int), (X3 : Int))) (ey : tk ss y = ((Y1 : Int), (Y2 : Int), (Y3 : Int))) (b1 : X1 + Y1 ≤ 1125899906842624) (b2 : X2 + Y2 ≤ 1125899906842624) :
    Calls Try.prog 62 #[nv5 q c (x : Int) (y : Int) m, .slice a ss.length cap] w fun e w' => e = .returned (.agg #[.int .i64 ((X1 + Y1 : Nat) : Int), .int .i64 ((X2 + Y2 : Nat) : Int), .int .i64 0]) ∧ Below w.heap.size w w' := by
  obtain ⟨bb, off, rfl, hb, x0, x1, x2⟩ := hr.at hx
  obtain ⟨bb', off', e', -, y0, y1, y2⟩ := hr.at hy
  simp only [Option.some.injEq, Addr.mk.injEq, and_true] at e'
  obtain ⟨rfl, rfl⟩ := e'
  rw [ex] at x0 x1 x2
  rw [ey] at y0 y1 y2
  have hx0 : (0 : Int) ≤ x := by omega
  have hy0 : (0 : Int) ≤ y := by omega
  have hx1 : (x : Int) < ss.length := by omega
  have hy1 : (y : Int) < ss.length := by omega
  clear hr ex ey
  go_enter Try.func62, Try.ntmps62
  go_wp2
  obtain ⟨W0, hW0⟩ : ∃ W0, W0 = (w.alloc (.cells #[.int .i64 q, .int .i64 c, .int .i64 x, .int .i64 y, .int .i64 m] 28)).alloc (.cells #[.int .i64 0, .int .i64 0, .int .i64 0] 64) := ⟨_, rfl⟩
  have hz : W0.heap.size = w.heap.size + 2 := by rw [hW0]; simp
  have HZ := Lib.hid hz
  have HB := Lib.hid (show Below w.heap.size w W0 by rw [hW0]; exact (below_box _ _).trans ((below_box _ _).mono (by simp)))
  have n2 : W0.cell? ⟨w.heap.size, 2, none⟩ = some (.int .i64 x) := by rw [hW0]; go_simp
  have n3 : W0.cell? ⟨w.heap.size, 3, none⟩ = some (.int .i64 y) := by rw [hW0]; go_simp
  have r0 : W0.cell? ⟨w.heap.size + 1, 0, none⟩ = some (.int .i64 0) := by rw [hW0]; go_simp
  have r1 : W0.cell? ⟨w.heap.size + 1, 1, none⟩ = some (.int .i64 0) := by rw [hW0]; go_simp
  have r2 : W0.cell? ⟨w.heap.size + 1, 2, none⟩ = some (.int .i64 0) := by rw [hW0]; go_simp
  have f0 : W0.frozen? ⟨w.heap.size + 1, 0, none⟩ = false := by rw [hW0]; go_simp
  have f1 : W0.frozen? ⟨w.heap.size + 1, 1, none⟩ = false := by rw [hW0]; go_simp
  have f2 : W0.frozen? ⟨w.heap.size + 1, 2, none⟩ = false := by rw [hW0]; go_simp
  replace x0 := (HB.out.cell (p := ⟨bb, off + x * 3, none⟩) hb).trans x0
  replace x1 := (HB.out.cell (p := ⟨bb, off + x * 3 + 1, none⟩) hb).trans x1
  replace x2 := (HB.out.cell (p := ⟨bb, off + x * 3 + 2, none⟩) hb).trans x2
  replace y0 := (HB.out.cell (p := ⟨bb, off + y * 3, none⟩) hb).trans y0
  replace y1 := (HB.out.cell (p := ⟨bb, off + y * 3 + 1, none⟩) hb).trans y1
  replace y2 := (HB.out.cell (p := ⟨bb, off + y * 3 + 2, none⟩) hb).trans y2
  rw [← hW0]
  have hb0 : bb < W0.heap.size := by omega
  have hs0 : w.heap.size < W0.heap.size := by omega
  have hs1 : w.heap.size + 1 < W0.heap.size := by omega
  clear hW0 hz hb
  go_region
  all_goals
    go_wp2
    have hz := HZ.out
    refine bodyPost_ret (v := .agg #[.int .i64 ((X1 : Int) + Y1), .int .i64 ((X2 : Int) + Y2), .int .i64 0]) (by simp [results, Try.results62]; go_simp) rfl ⟨by rw [Int.natCast_add, Int.natCast_add], ?_⟩
    repeat (first | exact HB.out | refine Below.drew ?_ | refine Below.setCell ?_ (by dsimp only; omega) _ | refine Below.alloc ?_ (by simp; omega) _)

end Go.Proofs.Ytlcdmjcikbgnpaa
