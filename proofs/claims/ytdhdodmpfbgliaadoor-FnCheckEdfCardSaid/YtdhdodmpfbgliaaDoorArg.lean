/- How the arguments of the laws are read: a slice of tasks, a slice of bytes. -/
import Derived.Test.YtdhdodmpfbgliaaDoorCopy
import Derived.ProofKit
import Derived.OpenShut
import Derived.ChangeOld
import Derived.Lib.SmallJoins
import Derived.Deep.Slices
import Derived.Deep.Strs
namespace Go.Proofs.YtdhdodmpfbgliaaDoor
open Go.ChangeShapes Go.WideShapes Go.ChangeAt Go.RowKit Go.Joins Go.Deep

theorem ownKnobs : ownKnob Tryd.prog.godebug = none := by kernel_rfl
theorem laidOut : laidOutB Tryd.prog = true := by kernel_rfl

theorem cellsLawTask : Tryd.prog.cellsOf 83 = 3 := by kernel_rfl

set_option maxRecDepth 100000 in
/-- A task that came in. -/
theorem task_of_arg {H : Type} {enc : TypeId × Value → H} {W : World} {base : Nat} {v : Value} {d : DataW H} {p : List MemPlace}
    (hv : Value.okWide Tryd.prog W .any base 83 v) (h : DataW.Trod enc Tryd.prog W 0 (fun _ => true) true 83 v d p) :
    ∃ x y z : Int, v = .agg #[.int .i64 x, .int .i64 y, .int .i64 z] := by
  obtain ⟨c0, c1, c2, y0, y1, y2, m, rfl, rfl, rfl, hy0, hy1, hy2⟩ := open_agg3 Tryd.underlying83 (by kernel_rfl) cellsLawTask hv h
  obtain ⟨a, e0, _, _⟩ := DataW.trod_int Tryd.underlying3 hy0
  obtain ⟨b, e1, _, _⟩ := DataW.trod_int Tryd.underlying3 hy1
  obtain ⟨c, e2, _, _⟩ := DataW.trod_int Tryd.underlying3 hy2
  simp at e0 e1 e2
  subst e0 e1 e2
  exact ⟨a, b, c, rfl⟩

set_option maxRecDepth 100000 in
/-- An int that came in. -/
theorem int_of_arg {H : Type} {enc : TypeId × Value → H} {W : World} {base : Nat} {v : Value} {d : DataW H} {p : List MemPlace}
    (hv : Value.okWide Tryd.prog W .any base 3 v) (h : DataW.Trod enc Tryd.prog W 0 (fun _ => true) true 3 v d p) :
    ∃ n : Int, v = .int .i64 n ∧ -9223372036854775808 ≤ n ∧ n ≤ 9223372036854775807 := by
  obtain ⟨n, rfl, rfl, rfl, hw⟩ := open_int Tryd.underlying3 hv h
  refine ⟨n, rfl, ?_⟩
  simp [Lit.wf, IntKind.min, IntKind.max, IntKind.signed, IntKind.bits] at hw
  omega

set_option maxRecDepth 100000 in
/-- A slice of tasks that came in. -/
theorem row_of_arg {H : Type} {enc : TypeId × Value → H} {W : World} {base : Nat} {v : Value} {d : DataW H} {p : List MemPlace}
    (hv : Value.okWide Tryd.prog W .any base 43 v) (h : DataW.Trod enc Tryd.prog W 0 (fun _ => true) true 43 v d p) :
    ∃ (a : Option Addr) (cap : Nat) (ts : List (Int × Int × Int)), v = .slice a ts.length cap ∧ Row W a ts ∧ ts.length ≤ maxLen := by
  obtain ⟨a0, len, cap, rfl⟩ := okWide_slice Tryd.underlying43 hv
  obtain ⟨fuel, hf⟩ := h
  rcases open_slice Tryd.underlying43 hf with ⟨hcs, _⟩ | ⟨a, l, c, m, n, D, Pl, hcs, _, hl, hm, hmm, _, hi⟩
  · simp [Value.cells] at hcs
    obtain ⟨rfl, rfl, rfl⟩ := hcs
    exact ⟨none, 0, [], rfl, fun k t hk => by simp at hk, by simp [maxLen]⟩
  · simp [Value.cells] at hcs
    obtain ⟨rfl, rfl, rfl⟩ := hcs
    simp only [if_true] at hmm
    subst hmm
    have hex : ∀ i : Nat, ∃ t : Int × Int × Int, i < len → W.cell? (a.add (i * 3)) = some (.int .i64 t.1) ∧ W.cell? ((a.add (i * 3)).add 1) = some (.int .i64 t.2.1) ∧ W.cell? ((a.add (i * 3)).add 2) = some (.int .i64 t.2.2) := by
      intro i
      by_cases hil : i < len
      · obtain ⟨cs', hc, ht⟩ := hi i (by omega)
        rw [cellsLawTask] at hc
        obtain ⟨y0, y1, y2, n', _, _, h0, h1, h2⟩ := trod_struct3 Tryd.underlying83 ht
        obtain ⟨x, e0, _, _⟩ := DataW.trod_int Tryd.underlying3 h0
        obtain ⟨y, e1, _, _⟩ := DataW.trod_int Tryd.underlying3 h1
        obtain ⟨z, e2, _, _⟩ := DataW.trod_int Tryd.underlying3 h2
        obtain ⟨_, hcl, hat⟩ := World.cells?_some hc
        have hi1 : Tryd.prog.cellsOf 3 = 1 := by kernel_rfl
        simp only [hi1] at e0 e1 e2
        match cs', hcl with
        | [v0, v1, v2], _ =>
          simp at e0 e1 e2
          subst e0 e1 e2
          refine ⟨(x, y, z), fun _ => ⟨?_, ?_, ?_⟩⟩
          · simpa [Addr.add] using hat 0 (by omega)
          · simpa using hat 1 (by omega)
          · simpa using hat 2 (by omega)
      · exact ⟨(0, 0, 0), fun h => absurd h hil⟩
    obtain ⟨T, hT⟩ := Classical.axiomOfChoice hex
    refine ⟨some a, m, (List.range len).map T, by simp, ?_, by simp; omega⟩
    intro k t hk
    obtain ⟨hkl, rfl⟩ : k < len ∧ T k = t := by
      rw [List.getElem?_map] at hk
      by_cases hkl : k < len
      · rw [List.getElem?_range hkl] at hk; exact ⟨hkl, by simpa using hk⟩
      · rw [List.getElem?_eq_none (by simp; omega)] at hk; simp at hk
    obtain ⟨b, off, spot⟩ := a
    have hsp : spot = none := by
      have := World.cell?_spot (hT 0 (by omega)).1
      simpa [Addr.add] using this
    subst hsp
    obtain ⟨h0, h1, h2⟩ := hT k hkl
    have hadd : (⟨b, off, none⟩ : Addr).add (k * 3) = ⟨b, off + k * 3, none⟩ := by
      unfold Addr.add
      split
      · simp_all
      · rfl
    rw [hadd] at h0 h1 h2
    refine ⟨b, off, rfl, ?_, h0, by simpa [Addr.add] using h1, by simpa [Addr.add] using h2⟩
    by_cases hb : b < W.heap.size
    · exact hb
    · have hnone : W.heap[b]? = none := Array.getElem?_eq_none (by omega)
      simp [World.cell?, hnone] at h0
end Go.Proofs.YtdhdodmpfbgliaaDoor
