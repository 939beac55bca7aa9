/- How an argument that is a slice of nodes is read. -/
import Derived.Test.YtlcdmjcikbgnpaaArg
import Derived.Test.YtlcdmjcikbgnpaaNodeMem
namespace Go.Proofs.Ytlcdmjcikbgnpaa
open Go.ChangeShapes Go.WideShapes Go.ChangeAt Go.RowKit Go.Joins Go.Deep

theorem cellsLawNode : Try.prog.cellsOf 67 = 5 := by kernel_rfl

/-- The five fields of a struct that was read. -/
theorem five_of {H : Type} {enc : TypeId × Value → H} {P : Program} {w : World} {base : Nat} {spare : Nat → Bool} {held : Bool} {t : TypeId} {a b c d e : Field} {fuel : Nat} {cs : List Value} {x : DataW H × List MemPlace} (ht : P.underlying t = some (.struct #[a, b, c, d, e])) (h : DataW.trod enc P w base spare held fuel t cs = some x) :
    ∃ u0 u1 u2 u3 u4 n, DataW.trod enc P w base spare held n a.type ((cs.drop a.offset).take (P.cellsOf a.type)) = some u0 ∧ DataW.trod enc P w base spare held n b.type ((cs.drop b.offset).take (P.cellsOf b.type)) = some u1 ∧ DataW.trod enc P w base spare held n c.type ((cs.drop c.offset).take (P.cellsOf c.type)) = some u2 ∧
      DataW.trod enc P w base spare held n d.type ((cs.drop d.offset).take (P.cellsOf d.type)) = some u3 ∧ DataW.trod enc P w base spare held n e.type ((cs.drop e.offset).take (P.cellsOf e.type)) = some u4 := by
  obtain ⟨us, n, -, -, -, hus, hg⟩ := DataW.trod_struct ht h
  obtain ⟨u0, u1, u2, u3, u4, rfl⟩ : ∃ u0 u1 u2 u3 u4, us = [u0, u1, u2, u3, u4] := by
    match us, hus with
    | [u0, u1, u2, u3, u4], _ => exact ⟨u0, u1, u2, u3, u4, rfl⟩
  refine ⟨u0, u1, u2, u3, u4, n, ?_, ?_, ?_, ?_, ?_⟩
  · simpa using hg 0 a rfl
  · simpa using hg 1 b rfl
  · simpa using hg 2 c rfl
  · simpa using hg 3 d rfl
  · simpa using hg 4 e rfl

set_option maxRecDepth 100000 in
set_option maxHeartbeats 2000000 in
/-- A slice of nodes that came in. -/
theorem rowN_of_arg {H : Type} {enc : TypeId × Value → H} {W : World} {base : Nat} {v : Value} {d : DataW H} {p : List MemPlace}
    (hv : Value.okWide Try.prog W .any base 37 v) (h : DataW.Trod enc Try.prog W 0 (fun _ => true) true 37 v d p) :
    ∃ (a : Option Addr) (cap : Nat) (ps : List N5), v = .slice a ps.length cap ∧ RowN W a ps ∧ ps.length ≤ maxLen := by
  obtain ⟨a0, len, cap, rfl⟩ := okWide_slice Try.underlying37 hv
  obtain ⟨fuel, hf⟩ := h
  rcases open_slice Try.underlying37 hf with ⟨hcs, _⟩ | ⟨a, l, c, m, n, D, Pl, hcs, _, hl, hm, hmm, _, hi⟩
  · simp [Value.cells] at hcs
    obtain ⟨rfl, rfl, rfl⟩ := hcs
    exact ⟨none, 0, [], rfl, fun k hk => by simp at hk, by simp [maxLen]⟩
  · simp [Value.cells] at hcs
    obtain ⟨rfl, rfl, rfl⟩ := hcs
    simp only [if_true] at hmm
    subst hmm
    have hex : ∀ i : Nat, ∃ t : N5, i < len → W.cell? (a.add (i * 5)) = some (.int .i64 t.1) ∧ W.cell? ((a.add (i * 5)).add 1) = some (.int .i64 t.2.1) ∧ W.cell? ((a.add (i * 5)).add 2) = some (.int .i64 t.2.2.1) ∧ W.cell? ((a.add (i * 5)).add 3) = some (.int .i64 t.2.2.2.1) ∧ W.cell? ((a.add (i * 5)).add 4) = some (.int .i64 t.2.2.2.2) := by
      intro i
      by_cases hil : i < len
      · obtain ⟨cs', hc, ht⟩ := hi i (by omega)
        rw [cellsLawNode] at hc
        obtain ⟨y0, y1, y2, y3, y4, n', h0, h1, h2, h3, h4⟩ := five_of Try.underlying67 ht
        obtain ⟨t0, e0, _, _⟩ := DataW.trod_int Try.underlying3 h0
        obtain ⟨t1, e1, _, _⟩ := DataW.trod_int Try.underlying3 h1
        obtain ⟨t2, e2, _, _⟩ := DataW.trod_int Try.underlying3 h2
        obtain ⟨t3, e3, _, _⟩ := DataW.trod_int Try.underlying3 h3
        obtain ⟨t4, e4, _, _⟩ := DataW.trod_int Try.underlying3 h4
        obtain ⟨_, hcl, hat⟩ := World.cells?_some hc
        have hi1 : Try.prog.cellsOf 3 = 1 := by kernel_rfl
        simp only [hi1] at e0 e1 e2 e3 e4
        match cs', hcl with
        | [v0, v1, v2, v3, v4], _ =>
          simp at e0 e1 e2 e3 e4
          subst e0 e1 e2 e3 e4
          refine ⟨(t0, t1, t2, t3, t4), fun _ => ⟨?_, ?_, ?_, ?_, ?_⟩⟩
          · simpa [Addr.add] using hat 0 (by omega)
          · simpa using hat 1 (by omega)
          · simpa using hat 2 (by omega)
          · simpa using hat 3 (by omega)
          · simpa using hat 4 (by omega)
      · exact ⟨(0, 0, 0, 0, 0), fun h => absurd h hil⟩
    obtain ⟨T, hT⟩ := Classical.axiomOfChoice hex
    refine ⟨some a, m, (List.range len).map T, by simp, ?_, by simp; omega⟩
    intro k hk
    have hkl : k < len := by simpa using hk
    have hn : nd8 ((List.range len).map T) k = T k := by simp [nd8, List.getD_eq_getElem?_getD, hkl]
    rw [hn]
    obtain ⟨b, off, spot⟩ := a
    have hsp : spot = none := by
      have := World.cell?_spot (hT 0 (by omega)).1
      simpa [Addr.add] using this
    subst hsp
    obtain ⟨h0, h1, h2, h3, h4⟩ := hT k hkl
    have hadd : (⟨b, off, none⟩ : Addr).add (k * 5) = ⟨b, off + k * 5, none⟩ := by
      unfold Addr.add
      split
      · simp_all
      · rfl
    rw [hadd] at h0 h1 h2 h3 h4
    refine ⟨b, off, rfl, ?_, h0, by simpa [Addr.add] using h1, by simpa [Addr.add] using h2, by simpa [Addr.add] using h3, by simpa [Addr.add] using h4⟩
    by_cases hb : b < W.heap.size
    · exact hb
    · have hnone : W.heap[b]? = none := Array.getElem?_eq_none (by omega)
      simp [World.cell?, hnone] at h0
end Go.Proofs.Ytlcdmjcikbgnpaa
