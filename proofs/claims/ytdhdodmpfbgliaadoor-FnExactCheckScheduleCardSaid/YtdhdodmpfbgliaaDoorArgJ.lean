/- How arguments that are slices of jobs or schedules are read. -/
import Derived.Test.YtdhdodmpfbgliaaDoorJobs
import Derived.Test.YtdhdodmpfbgliaaDoorArg
namespace Go.Proofs.YtdhdodmpfbgliaaDoor
open Go.ChangeShapes Go.WideShapes Go.ChangeAt Go.RowKit Go.Joins Go.Deep

theorem cellsLawJob : Tryd.prog.cellsOf 85 = 4 := by kernel_rfl

set_option maxRecDepth 100000 in
/-- A slice of jobs that came in. -/
theorem rowJ_of_arg {H : Type} {enc : TypeId × Value → H} {W : World} {base : Nat} {v : Value} {d : DataW H} {p : List MemPlace}
    (hv : Value.okWide Tryd.prog W .any base 44 v) (h : DataW.Trod enc Tryd.prog W 0 (fun _ => true) true 44 v d p) :
    ∃ (a : Option Addr) (cap : Nat) (js : List J4), v = .slice a js.length cap ∧ RowJ W a js ∧ js.length ≤ maxLen := by
  obtain ⟨a0, len, cap, rfl⟩ := okWide_slice Tryd.underlying44 hv
  obtain ⟨fuel, hf⟩ := h
  rcases open_slice Tryd.underlying44 hf with ⟨hcs, _⟩ | ⟨a, l, c, m, n, D, Pl, hcs, _, hl, hm, hmm, _, hi⟩
  · simp [Value.cells] at hcs
    obtain ⟨rfl, rfl, rfl⟩ := hcs
    exact ⟨none, 0, [], rfl, fun k hk => absurd hk (Nat.not_lt_zero _), by simp [maxLen]⟩
  · simp [Value.cells] at hcs
    obtain ⟨rfl, rfl, rfl⟩ := hcs
    simp only [if_true] at hmm
    subst hmm
    have hex : ∀ i : Nat, ∃ t : J4, i < len → W.cell? (a.add (i * 4)) = some (.int .i64 t.1) ∧ W.cell? ((a.add (i * 4)).add 1) = some (.int .i64 t.2.1) ∧ W.cell? ((a.add (i * 4)).add 2) = some (.int .i64 t.2.2.1) ∧ W.cell? ((a.add (i * 4)).add 3) = some (.int .i64 t.2.2.2) := by
      intro i
      by_cases hil : i < len
      · obtain ⟨cs', hc, ht⟩ := hi i (by omega)
        rw [cellsLawJob] at hc
        obtain ⟨y0, y1, y2, y3, n', _, _, h0, h1, h2, h3⟩ := trod_struct4 Tryd.underlying85 ht
        obtain ⟨x, e0, _, _⟩ := DataW.trod_int Tryd.underlying3 h0
        obtain ⟨y, e1, _, _⟩ := DataW.trod_int Tryd.underlying3 h1
        obtain ⟨z, e2, _, _⟩ := DataW.trod_int Tryd.underlying3 h2
        obtain ⟨u, e3, _, _⟩ := DataW.trod_int Tryd.underlying3 h3
        obtain ⟨_, hcl, hat⟩ := World.cells?_some hc
        have hi1 : Tryd.prog.cellsOf 3 = 1 := by kernel_rfl
        simp only [hi1] at e0 e1 e2 e3
        match cs', hcl with
        | [v0, v1, v2, v3], _ =>
          simp at e0 e1 e2 e3
          subst e0 e1 e2 e3
          refine ⟨(x, y, z, u), fun _ => ⟨?_, ?_, ?_, ?_⟩⟩
          · simpa [Addr.add] using hat 0 (by omega)
          · simpa using hat 1 (by omega)
          · simpa using hat 2 (by omega)
          · simpa using hat 3 (by omega)
      · exact ⟨(0, 0, 0, 0), fun h => absurd h hil⟩
    obtain ⟨T, hT⟩ := Classical.axiomOfChoice hex
    refine ⟨some a, m, (List.range len).map T, by simp, ?_, by simp; omega⟩
    intro k hk
    have hkl : k < len := by simpa using hk
    have hjb : jb ((List.range len).map T) k = T k := by simp [jb, List.getD, hkl]
    rw [hjb]
    obtain ⟨b, off, spot⟩ := a
    have hsp : spot = none := by
      have := World.cell?_spot (hT 0 (by omega)).1
      simpa [Addr.add] using this
    subst hsp
    obtain ⟨h0, h1, h2, h3⟩ := hT k hkl
    have hadd : (⟨b, off, none⟩ : Addr).add (k * 4) = ⟨b, off + k * 4, none⟩ := by
      unfold Addr.add
      split
      · simp_all
      · rfl
    rw [hadd] at h0 h1 h2 h3
    refine ⟨b, off, rfl, ?_, h0, by simpa [Addr.add] using h1, by simpa [Addr.add] using h2, by simpa [Addr.add] using h3⟩
    by_cases hb : b < W.heap.size
    · exact hb
    · have hnone : W.heap[b]? = none := Array.getElem?_eq_none (by omega)
      simp [World.cell?, hnone] at h0

/-- A slice of integers inside an argument. -/
theorem ints_of_field {H : Type} {enc : TypeId × Value → H} {W : World} {v : Value} {n : Nat} {y : DataW H × List MemPlace}
    (h : DataW.trod enc Tryd.prog W 0 (fun _ => true) true n 27 [v] = some y) :
    ∃ (a : Option Addr) (len cap : Nat) (f : Nat → Int), v = .slice a len cap ∧ IntF W a len f ∧ len ≤ maxLen := by
  rcases open_ints Tryd.underlying27 Tryd.underlying3 (by kernel_rfl) h with ⟨hcs, _⟩ | ⟨x, l, c, zs, hcs, _, hl, hm, hz, _, hcell, _⟩
  · simp at hcs
    subst hcs
    exact ⟨none, 0, 0, fun _ => 0, rfl, fun k hk => absurd hk (Nat.not_lt_zero _), by simp [maxLen]⟩
  · simp at hcs
    subst hcs
    simp only [if_true] at hz
    refine ⟨some x, l, c, fun k => zs.getD k 0, rfl, fun k hk => ?_, by omega⟩
    obtain ⟨b, off, spot⟩ := x
    have h0 := hcell 0 (by omega)
    have hsp : spot = none := by
      have := World.cell?_spot h0
      simpa [Addr.add] using this
    subst hsp
    have hk' := hcell k (by omega)
    have hadd : (⟨b, off, none⟩ : Addr).add k = ⟨b, off + k, none⟩ := by
      unfold Addr.add
      split
      · simp_all
      · rfl
    rw [hadd] at hk'
    refine ⟨b, off, rfl, ?_, hk'⟩
    by_cases hb : b < W.heap.size
    · exact hb
    · have hnone : W.heap[b]? = none := Array.getElem?_eq_none (by omega)
      simp [World.cell?, hnone] at hk'

end Go.Proofs.YtdhdodmpfbgliaaDoor
