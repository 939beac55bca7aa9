/- How arguments that are slices of servers, of requests, or of slices of requests are read. -/
import Derived.Test.YtipnemngphglkaaSrv
import Derived.Test.YtipnemngphglkaaArg
import Derived.Test.YtipnemngphglkaaDrawRun5
namespace Go.Proofs.Ytipnemngphglkaa
open Go.ChangeShapes Go.WideShapes Go.ChangeAt Go.RowKit Go.Joins Go.Deep

theorem cellsLawServer : Try.prog.cellsOf 132 = 2 := by kernel_rfl

set_option maxRecDepth 100000 in
/-- A slice of them inside an argument. -/
theorem rowServer_of_field {H : Type} {enc : TypeId × Value → H} {W : World} {v : Value} {fuel : Nat} {y : DataW H × List MemPlace}
    (h : DataW.trod enc Try.prog W 0 (fun _ => true) true fuel 59 [v] = some y) :
    ∃ (a : Option Addr) (cap : Nat) (l : List A2), v = .slice a l.length cap ∧ Row2 W a l ∧ l.length ≤ cap ∧ l.length ≤ maxLen := by
  rcases open_slice Try.underlying59 h with ⟨hcs, _⟩ | ⟨a, len, cap, m, n, D, Pl, hcs, _, hl, hm, hmm, _, hi⟩
  · simp at hcs
    subst hcs
    exact ⟨none, 0, [], rfl, fun k hk => absurd hk (Nat.not_lt_zero _), Nat.le_refl _, by simp [maxLen]⟩
  · simp at hcs
    subst hcs
    simp only [if_true] at hmm
    subst hmm
    have hex : ∀ i : Nat, ∃ t : A2, i < len → W.cell? (a.add (i * 2)) = some (.int .i64 t.1) ∧ W.cell? ((a.add (i * 2)).add 1) = some (.int .i64 t.2) := by
      intro i
      by_cases hil : i < len
      · obtain ⟨cs', hc, ht⟩ := hi i (by omega)
        rw [cellsLawServer] at hc
        obtain ⟨y0, y1, n', _, _, h0, h1⟩ := trod_struct2 Try.underlying132 ht
        obtain ⟨x, e0, _, _⟩ := DataW.trod_int Try.underlying3 h0
        obtain ⟨y, e1, _, _⟩ := DataW.trod_int Try.underlying3 h1
        obtain ⟨_, hcl, hat⟩ := World.cells?_some hc
        have hi1 : Try.prog.cellsOf 3 = 1 := by kernel_rfl
        simp only [hi1] at e0 e1
        match cs', hcl with
        | [v0, v1], _ =>
          simp at e0 e1
          subst e0 e1
          refine ⟨(x, y), fun _ => ⟨?_, ?_⟩⟩
          · simpa [Addr.add] using hat 0 (by omega)
          · simpa using hat 1 (by omega)
      · exact ⟨(0, 0), fun h => absurd h hil⟩
    obtain ⟨T, hT⟩ := Classical.axiomOfChoice hex
    refine ⟨some a, m, (List.range len).map T, by simp, ?_, by simp; omega, by simp; omega⟩
    intro k hk
    have hkl : k < len := by simpa using hk
    have hjb : ab ((List.range len).map T) k = T k := by simp [ab, List.getD, hkl]
    rw [hjb]
    obtain ⟨b, off, spot⟩ := a
    have hsp : spot = none := by
      have := World.cell?_spot (hT 0 (by omega)).1
      simpa [Addr.add] using this
    subst hsp
    obtain ⟨h0, h1⟩ := hT k hkl
    have hadd : (⟨b, off, none⟩ : Addr).add (k * 2) = ⟨b, off + k * 2, none⟩ := by
      unfold Addr.add
      split
      · simp_all
      · rfl
    rw [hadd] at h0 h1
    refine ⟨b, off, rfl, ?_, h0, by simpa [Addr.add] using h1⟩
    by_cases hb : b < W.heap.size
    · exact hb
    · have hnone : W.heap[b]? = none := Array.getElem?_eq_none (by omega)
      simp [World.cell?, hnone] at h0

set_option maxRecDepth 100000 in
/-- A slice of them that came in. -/
theorem rowServer_of_arg {H : Type} {enc : TypeId × Value → H} {W : World} {base : Nat} {v : Value} {d : DataW H} {p : List MemPlace}
    (hv : Value.okWide Try.prog W .any base 59 v) (h : DataW.Trod enc Try.prog W 0 (fun _ => true) true 59 v d p) :
    ∃ (a : Option Addr) (cap : Nat) (l : List A2), v = .slice a l.length cap ∧ Row2 W a l ∧ l.length ≤ maxLen := by
  obtain ⟨a0, len, cap, rfl⟩ := okWide_slice Try.underlying59 hv
  obtain ⟨fuel, hf⟩ := h
  obtain ⟨a, c, l, e, h1, _, h3⟩ := rowServer_of_field (v := .slice a0 len cap) hf
  exact ⟨a, c, l, e, h1, h3⟩

theorem cellsLawArrival : Try.prog.cellsOf 135 = 2 := by kernel_rfl

set_option maxRecDepth 100000 in
/-- A slice of them inside an argument. -/
theorem rowArrival_of_field {H : Type} {enc : TypeId × Value → H} {W : World} {v : Value} {fuel : Nat} {y : DataW H × List MemPlace}
    (h : DataW.trod enc Try.prog W 0 (fun _ => true) true fuel 64 [v] = some y) :
    ∃ (a : Option Addr) (cap : Nat) (l : List A2), v = .slice a l.length cap ∧ Row2 W a l ∧ l.length ≤ cap ∧ l.length ≤ maxLen := by
  rcases open_slice Try.underlying64 h with ⟨hcs, _⟩ | ⟨a, len, cap, m, n, D, Pl, hcs, _, hl, hm, hmm, _, hi⟩
  · simp at hcs
    subst hcs
    exact ⟨none, 0, [], rfl, fun k hk => absurd hk (Nat.not_lt_zero _), Nat.le_refl _, by simp [maxLen]⟩
  · simp at hcs
    subst hcs
    simp only [if_true] at hmm
    subst hmm
    have hex : ∀ i : Nat, ∃ t : A2, i < len → W.cell? (a.add (i * 2)) = some (.int .i64 t.1) ∧ W.cell? ((a.add (i * 2)).add 1) = some (.int .i64 t.2) := by
      intro i
      by_cases hil : i < len
      · obtain ⟨cs', hc, ht⟩ := hi i (by omega)
        rw [cellsLawArrival] at hc
        obtain ⟨y0, y1, n', _, _, h0, h1⟩ := trod_struct2 Try.underlying135 ht
        obtain ⟨x, e0, _, _⟩ := DataW.trod_int Try.underlying3 h0
        obtain ⟨y, e1, _, _⟩ := DataW.trod_int Try.underlying3 h1
        obtain ⟨_, hcl, hat⟩ := World.cells?_some hc
        have hi1 : Try.prog.cellsOf 3 = 1 := by kernel_rfl
        simp only [hi1] at e0 e1
        match cs', hcl with
        | [v0, v1], _ =>
          simp at e0 e1
          subst e0 e1
          refine ⟨(x, y), fun _ => ⟨?_, ?_⟩⟩
          · simpa [Addr.add] using hat 0 (by omega)
          · simpa using hat 1 (by omega)
      · exact ⟨(0, 0), fun h => absurd h hil⟩
    obtain ⟨T, hT⟩ := Classical.axiomOfChoice hex
    refine ⟨some a, m, (List.range len).map T, by simp, ?_, by simp; omega, by simp; omega⟩
    intro k hk
    have hkl : k < len := by simpa using hk
    have hjb : ab ((List.range len).map T) k = T k := by simp [ab, List.getD, hkl]
    rw [hjb]
    obtain ⟨b, off, spot⟩ := a
    have hsp : spot = none := by
      have := World.cell?_spot (hT 0 (by omega)).1
      simpa [Addr.add] using this
    subst hsp
    obtain ⟨h0, h1⟩ := hT k hkl
    have hadd : (⟨b, off, none⟩ : Addr).add (k * 2) = ⟨b, off + k * 2, none⟩ := by
      unfold Addr.add
      split
      · simp_all
      · rfl
    rw [hadd] at h0 h1
    refine ⟨b, off, rfl, ?_, h0, by simpa [Addr.add] using h1⟩
    by_cases hb : b < W.heap.size
    · exact hb
    · have hnone : W.heap[b]? = none := Array.getElem?_eq_none (by omega)
      simp [World.cell?, hnone] at h0

set_option maxRecDepth 100000 in
/-- A slice of them that came in. -/
theorem rowArrival_of_arg {H : Type} {enc : TypeId × Value → H} {W : World} {base : Nat} {v : Value} {d : DataW H} {p : List MemPlace}
    (hv : Value.okWide Try.prog W .any base 64 v) (h : DataW.Trod enc Try.prog W 0 (fun _ => true) true 64 v d p) :
    ∃ (a : Option Addr) (cap : Nat) (l : List A2), v = .slice a l.length cap ∧ Row2 W a l ∧ l.length ≤ maxLen := by
  obtain ⟨a0, len, cap, rfl⟩ := okWide_slice Try.underlying64 hv
  obtain ⟨fuel, hf⟩ := h
  obtain ⟨a, c, l, e, h1, _, h3⟩ := rowArrival_of_field (v := .slice a0 len cap) hf
  exact ⟨a, c, l, e, h1, h3⟩

theorem cellsLawArr1 : Try.prog.cellsOf 64 = 1 := by kernel_rfl

set_option maxRecDepth 100000 in
/-- A slice of slices of requests that came in. -/
theorem rowSS_of_arg {H : Type} {enc : TypeId × Value → H} {W : World} {base : Nat} {v : Value} {d : DataW H} {p : List MemPlace}
    (hv : Value.okWide Try.prog W .any base 75 v) (h : DataW.Trod enc Try.prog W 0 (fun _ => true) true 75 v d p) :
    ∃ (a : Option Addr) (cap : Nat) (als : List (List A2)), v = .slice a als.length cap ∧ RowSS W a als ∧ als.length ≤ maxLen ∧ ∀ k, (als.getD k []).length ≤ maxLen := by
  obtain ⟨a0, len, cap, rfl⟩ := okWide_slice Try.underlying75 hv
  obtain ⟨fuel, hf⟩ := h
  rcases open_slice Try.underlying75 hf with ⟨hcs, _⟩ | ⟨a, l, c, m, n, D, Pl, hcs, _, hl, hm, hmm, _, hi⟩
  · simp [Value.cells] at hcs
    obtain ⟨rfl, rfl, rfl⟩ := hcs
    exact ⟨none, 0, [], rfl, fun k hk => absurd hk (Nat.not_lt_zero _), by simp [maxLen], fun k => by simp [maxLen]⟩
  · simp [Value.cells] at hcs
    obtain ⟨rfl, rfl, rfl⟩ := hcs
    simp only [if_true] at hmm
    subst hmm
    have hex : ∀ i : Nat, ∃ t : List A2, t.length ≤ maxLen ∧ (i < len → ∃ ad cp, W.cell? (a.add (i * 1)) = some (.slice ad t.length cp) ∧ t.length ≤ cp ∧ Row2 W ad t) := by
      intro i
      by_cases hil : i < len
      · obtain ⟨cs', hc, ht⟩ := hi i (by omega)
        rw [cellsLawArr1] at hc
        obtain ⟨_, hcl, hat⟩ := World.cells?_some hc
        match cs', hcl with
        | [v0], _ =>
          obtain ⟨ad, cp, t, rfl, h1, h2, h3⟩ := rowArrival_of_field ht
          exact ⟨t, h3, fun _ => ⟨ad, cp, by simpa [Addr.add] using hat 0 (by omega), h2, h1⟩⟩
      · exact ⟨[], by simp [maxLen], fun h => absurd h hil⟩
    obtain ⟨T, hT⟩ := Classical.axiomOfChoice hex
    have hg : ∀ k, k < len → ((List.range len).map T).getD k [] = T k := fun k hk => by simp [List.getD, hk]
    refine ⟨some a, m, (List.range len).map T, by simp, ?_, by simp; omega, fun k => ?_⟩
    · intro k hk
      have hkl : k < len := by simpa using hk
      rw [hg k hkl]
      obtain ⟨b, off, spot⟩ := a
      have hsp : spot = none := by
        obtain ⟨ad, cp, h0, _⟩ := (hT 0).2 (by omega)
        have := World.cell?_spot h0
        simpa [Addr.add] using this
      subst hsp
      obtain ⟨ad, cp, h0, h1, h2⟩ := (hT k).2 hkl
      have hadd : (⟨b, off, none⟩ : Addr).add (k * 1) = ⟨b, off + k, none⟩ := by
        rw [Nat.mul_one]
        unfold Addr.add
        split
        · simp_all
        · rfl
      rw [hadd] at h0
      refine ⟨b, off, ad, cp, rfl, ?_, h0, h1, h2⟩
      by_cases hb : b < W.heap.size
      · exact hb
      · have hnone : W.heap[b]? = none := Array.getElem?_eq_none (by omega)
        simp [World.cell?, hnone] at h0
    · by_cases hkl : k < len
      · rw [hg k hkl]; exact (hT k).1
      · have : ((List.range len).map T).getD k [] = [] := by simp [List.getD, hkl]
        rw [this]
        simp [maxLen]

end Go.Proofs.Ytipnemngphglkaa
