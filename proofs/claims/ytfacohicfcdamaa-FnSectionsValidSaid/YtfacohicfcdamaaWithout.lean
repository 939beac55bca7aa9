/- The contract of laws.without: a task set without the task at index i, in new memory. Conditions: the slice's cells hold tasks; i is one of its indexes; it has at most 12 tasks. -/
import Derived.Test.YtfacohicfcdamaaDrawSet
namespace Go.Proofs.Ytfacohicfcdamaa
open Go.RowKit Go.Deep

/-- The cells news lie, one behind the other, from off on in block b. -/
def Lies (w : World) (b off : Nat) (news : List Value) : Prop := b < w.heap.size ∧ ∀ (j : Nat) (u : Value), news[j]? = some u → w.cell? ((⟨b, off, none⟩ : Addr).add j) = some u
theorem addr_add (b off j : Nat) : (⟨b, off, none⟩ : Addr).add j = ⟨b, off + j, none⟩ := by
  unfold Addr.add
  split
  · simp_all
  · rfl
theorem flat_find (ts : List (Int × Int × Int)) (j : Nat) (u : Value) (h : (flat ts)[j]? = some u) : ∃ k t, ts[k]? = some t ∧ ((j = k * 3 ∧ u = .int .i64 t.1) ∨ (j = k * 3 + 1 ∧ u = .int .i64 t.2.1) ∨ (j = k * 3 + 2 ∧ u = .int .i64 t.2.2)) := by
  have hj : j < ts.length * 3 := by rw [← flat_length]; exact (List.getElem?_eq_some_iff.1 h).1
  have hk : j / 3 < ts.length := by omega
  obtain ⟨h0, h1, h2⟩ := flat_at ts (j / 3) _ (List.getElem?_eq_getElem hk)
  refine ⟨j / 3, ts[j / 3], List.getElem?_eq_getElem hk, ?_⟩
  have h3 : j % 3 = 0 ∨ j % 3 = 1 ∨ j % 3 = 2 := by omega
  rcases h3 with h3 | h3 | h3
  · have e : j / 3 * 3 = j := by omega
    rw [e, h] at h0
    exact .inl ⟨by omega, by simpa using h0⟩
  · have e : j / 3 * 3 + 1 = j := by omega
    rw [e, h] at h1
    exact .inr (.inl ⟨by omega, by simpa using h1⟩)
  · have e : j / 3 * 3 + 2 = j := by omega
    rw [e, h] at h2
    exact .inr (.inr ⟨by omega, by simpa using h2⟩)
theorem Row.lies {w : World} {b off m : Nat} {ts us : List (Int × Int × Int)} (h : Row w (some ⟨b, off, none⟩) ts) (hb : b < w.heap.size) (hu : ∀ k t, us[k]? = some t → ts[m + k]? = some t) : Lies w b (off + m * 3) (flat us) := by
  refine ⟨hb, fun j u hj => ?_⟩
  obtain ⟨k, t, hk, hc⟩ := flat_find us j u hj
  obtain ⟨b', off', e, _, h0, h1, h2⟩ := h (m + k) t (hu k t hk)
  simp only [Option.some.injEq, Addr.mk.injEq, and_true] at e
  obtain ⟨rfl, rfl⟩ := e
  rw [addr_add]
  have e1 : off + (m + k) * 3 = off + m * 3 + k * 3 := by omega
  rw [e1] at h0 h1 h2
  rcases hc with ⟨rfl, rfl⟩ | ⟨rfl, rfl⟩ | ⟨rfl, rfl⟩
  · exact h0
  · rw [← h1]; congr 2
  · rw [← h2]; congr 2
theorem Lies.drewalloc {w : World} {b off : Nat} {news : List Value} {o : Obj} (h : Lies w b off news) : ∀ (j : Nat) (u : Value), news[j]? = some u → (w.alloc o).drew.cell? ((⟨b, off, none⟩ : Addr).add j) = some u := fun j u hj => by
  rw [addr_add]
  have := h.2 j u hj
  rw [addr_add] at this
  exact ((below_box w o).drew.cell (p := ⟨b, off + j, none⟩) h.1).trans this
theorem Lies.below {w w' : World} {b off : Nat} {news : List Value} (h : Lies w b off news) (hb : Below w.heap.size w w') : ∀ (j : Nat) (u : Value), news[j]? = some u → w'.cell? ((⟨b, off, none⟩ : Addr).add j) = some u := fun j u hj => by
  rw [addr_add]
  have := h.2 j u hj
  rw [addr_add] at this
  exact (hb.cell (p := ⟨b, off + j, none⟩) h.1).trans this
theorem flat_one (ts : List (Int × Int × Int)) : ∀ u ∈ flat ts, u.oneCell' = true := by
  intro u hu
  simp only [flat, List.mem_flatMap] at hu
  obtain ⟨t, _, ht⟩ := hu
  exact one3 _ _ _ u ht
theorem own_empty (w : World) : (w.alloc (.cells #[] 50)).drew.ownsRow w.heap.size 50 3 (.slice (some ⟨w.heap.size, 0, none⟩) 0 0) 0 [] :=
  ⟨rfl, .inr ⟨w.heap.size, 0, #[], rfl, Nat.le_refl _, blk_alloc_new _ _, Nat.le_refl _, by simp [maxLen], rfl, rfl⟩⟩
theorem own_from {w : World} {base e size n : Nat} {v : Value} {xs : List Value} (h : w.ownsRow base e size v n xs) : ∀ k, v.ownBlock = some k → base ≤ k := by
  intro k hk
  obtain ⟨_, ⟨rfl, _⟩ | ⟨g, cap, cur, rfl, hb, _⟩⟩ := h
  · simp [Value.ownBlock] at hk
  · simp only [Value.ownBlock, Option.some.injEq] at hk
    omega

/-- What without leaves: the tasks us in new memory. -/
def Left (w : World) (us : List (Int × Int × Int)) (e : Ending) (w' : World) : Prop :=
  ∃ (a : Option Addr) (cap : Nat), e = .returned (.slice a us.length cap) ∧ us.length ≤ cap ∧ cap ≤ maxLen ∧ Row w' a us ∧ Below w.heap.size w w'

theorem without_end {w w2 : World} {v2 : Value} {i : Nat} {ts : List (Int × Int × Int)} (hi : i < ts.length) (ho : w2.ownsRow w.heap.size 50 3 v2 (0 + i + (ts.length - (i + 1))) ([] ++ flat (ts.take i) ++ flat (ts.drop (i + 1)))) (hb : Below w.heap.size w w2) :
    Left w (wo ts i) (.returned v2) w2 := by
  show Left w (ts.take i ++ ts.drop (i + 1)) (.returned v2) w2
  have hl : (ts.take i ++ ts.drop (i + 1)).length = 0 + i + (ts.length - (i + 1)) := by
    rw [List.length_append, List.length_take, List.length_drop, Nat.min_eq_left (by omega)]
    omega
  have hf : flat (ts.take i ++ ts.drop (i + 1)) = [] ++ flat (ts.take i) ++ flat (ts.drop (i + 1)) := by simp [flat]
  have hown : Own w2 w.heap.size v2 (ts.take i ++ ts.drop (i + 1)) := by
    unfold Own
    rw [hl, hf]
    exact ho
  obtain ⟨a, cap, rfl, hrow, h1, h2⟩ := hown.row
  exact ⟨a, cap, rfl, h1, h2, hrow, hb⟩

theorem without_end0 {w w2 : World} {v2 : Value} {i : Nat} {ts : List (Int × Int × Int)} (hi : i < ts.length) (h0 : ts.length ≤ i + 1) (ho : w2.ownsRow w.heap.size 50 3 v2 (0 + i + 0) ([] ++ flat (ts.take i) ++ flat (ts.drop (i + 1)))) (hb : Below w.heap.size w w2) :
    Left w (wo ts i) (.returned v2) w2 :=
  without_end hi (by have e : ts.length - (i + 1) = 0 := (by omega); rw [e]; exact ho) hb

end Go.Proofs.Ytfacohicfcdamaa
