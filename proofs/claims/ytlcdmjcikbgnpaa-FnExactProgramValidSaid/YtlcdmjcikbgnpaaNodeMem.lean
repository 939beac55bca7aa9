/- Slices of nodes in memory: those that are read, and those of one's own. Conditions: those of each theorem. -/
import Derived.Test.YtlcdmjcikbgnpaaPrg
import Derived.Test.YtlcdmjcikbgnpaaDrawSet
import Derived.Test.YtlcdmjcikbgnpaaMem
namespace Go.Proofs.Ytlcdmjcikbgnpaa
open Go.RowKit Go.Deep

theorem nodeInfo : (Try.prog.info? 28).map (fun i => (i.zero, i.size, i.bytes)) = some (some (.agg #[.int .i64 0, .int .i64 0, .int .i64 0, .int .i64 0, .int .i64 0]), 5, 40) := by kernel_rfl
/-- A slice that holds these nodes. -/
def RowN (w : World) (a : Option Addr) (ps : List N5) : Prop :=
  ∀ k, k < ps.length → ∃ b off, a = some ⟨b, off, none⟩ ∧ b < w.heap.size ∧ w.cell? ⟨b, off + k * 5, none⟩ = some (.int .i64 (nd8 ps k).1) ∧ w.cell? ⟨b, off + k * 5 + 1, none⟩ = some (.int .i64 (nd8 ps k).2.1) ∧ w.cell? ⟨b, off + k * 5 + 2, none⟩ = some (.int .i64 (nd8 ps k).2.2.1) ∧ w.cell? ⟨b, off + k * 5 + 3, none⟩ = some (.int .i64 (nd8 ps k).2.2.2.1) ∧ w.cell? ⟨b, off + k * 5 + 4, none⟩ = some (.int .i64 (nd8 ps k).2.2.2.2)
theorem RowN.below {w w' : World} {a : Option Addr} {ps : List N5} (h : RowN w a ps) (hb : Below w.heap.size w w') : RowN w' a ps := by
  intro k hk
  obtain ⟨b, off, ha, hlt, h0, h1, h2, h3, h4⟩ := h k hk
  have hk := hb.block b hlt
  exact ⟨b, off, ha, Nat.lt_of_lt_of_le hlt hb.size, (World.cell?_of_block (w := w) (a := ⟨b, off + k * 5, none⟩) hk).trans h0, (World.cell?_of_block (w := w) (a := ⟨b, off + k * 5 + 1, none⟩) hk).trans h1, (World.cell?_of_block (w := w) (a := ⟨b, off + k * 5 + 2, none⟩) hk).trans h2, (World.cell?_of_block (w := w) (a := ⟨b, off + k * 5 + 3, none⟩) hk).trans h3, (World.cell?_of_block (w := w) (a := ⟨b, off + k * 5 + 4, none⟩) hk).trans h4⟩
theorem rowN_nil (w : World) (a : Option Addr) : RowN w a [] := fun _ hk => absurd hk (Nat.not_lt_zero _)
def flatN (ps : List N5) : List Value := ps.flatMap fun n => [.int .i64 n.1, .int .i64 n.2.1, .int .i64 n.2.2.1, .int .i64 n.2.2.2.1, .int .i64 n.2.2.2.2]
theorem flatN_len (ps : List N5) : (flatN ps).length = ps.length * 5 := by
  induction ps with
  | nil => rfl
  | cons n ps ih =>
    unfold flatN at ih ⊢
    simp only [List.flatMap_cons, List.length_append, List.length_cons, List.length_nil, ih]
    omega
theorem flatN_snoc (ps : List N5) (q c a b m : Int) : flatN (ps ++ [(q, c, a, b, m)]) = flatN ps ++ [.int .i64 q, .int .i64 c, .int .i64 a, .int .i64 b, .int .i64 m] := by simp [flatN]
theorem flatN_app (l r : List N5) : flatN (l ++ r) = flatN l ++ flatN r := by simp [flatN]
theorem flatN_at (ps : List N5) (k : Nat) (hk : k < ps.length) : (flatN ps)[k * 5]? = some (.int .i64 (nd8 ps k).1) ∧ (flatN ps)[k * 5 + 1]? = some (.int .i64 (nd8 ps k).2.1) ∧ (flatN ps)[k * 5 + 2]? = some (.int .i64 (nd8 ps k).2.2.1) ∧ (flatN ps)[k * 5 + 3]? = some (.int .i64 (nd8 ps k).2.2.2.1) ∧ (flatN ps)[k * 5 + 4]? = some (.int .i64 (nd8 ps k).2.2.2.2) := by
  have e : ps = ps.take k ++ [nd8 ps k] ++ ps.drop (k + 1) := by
    have e1 : nd8 ps k = ps[k] := by simp [nd8, hk]
    rw [e1, List.take_append_getElem, List.take_append_drop]
  have hl : (flatN (ps.take k)).length = k * 5 := by rw [flatN_len, List.length_take]; omega
  have key : ∀ c, c < 5 → (flatN ps)[k * 5 + c]? = (flatN [nd8 ps k])[c]? := by
    intro c hc
    have h1 : (flatN [nd8 ps k]).length = 5 := rfl
    rw [show flatN ps = flatN (ps.take k) ++ (flatN [nd8 ps k] ++ flatN (ps.drop (k + 1))) by rw [← flatN_app, ← flatN_app, ← List.append_assoc, ← e]]
    rw [List.getElem?_append_right (by omega), hl, show k * 5 + c - k * 5 = c by omega, List.getElem?_append_left (by omega)]
  refine ⟨key 0 (by omega), key 1 (by omega), key 2 (by omega), key 3 (by omega), key 4 (by omega)⟩
/-- From block base on: a slice of its own that holds these nodes. -/
def OwnN (w : World) (base : Nat) (v : Value) (ps : List N5) : Prop := w.ownsRow base 28 5 v ps.length (flatN ps)
theorem OwnN.row {w : World} {base : Nat} {v : Value} {ps : List N5} (h : OwnN w base v ps) : ∃ a cap, v = .slice a ps.length cap ∧ RowN w a ps ∧ ps.length ≤ cap ∧ cap ≤ maxLen := by
  obtain ⟨_, ⟨rfl, hn⟩ | ⟨g, cap, cur, rfl, _, hb, hnc, hcm, hsz, hx⟩⟩ := h
  · exact ⟨none, 0, by rw [hn], fun k hk => by omega, by omega, by simp [maxLen]⟩
  · refine ⟨some ⟨g, 0, none⟩, cap, rfl, fun k hk => ?_, hnc, hcm⟩
    have hg : g < w.heap.size := (Array.getElem?_eq_some_iff.1 hb).1
    have key : ∀ j u, (flatN ps)[j]? = some u → w.cell? ⟨g, 0 + j, none⟩ = some u := fun j u hj => by
      have hjl := (List.getElem?_eq_some_iff.1 hj).1
      rw [flatN_len] at hjl
      rw [← hx, List.getElem?_take_of_lt (by omega), Array.getElem?_toList] at hj
      simp [World.cell?, hb, hj]
    obtain ⟨f0, f1, f2, f3, f4⟩ := flatN_at ps k hk
    exact ⟨g, 0, rfl, hg, key _ _ f0, key _ _ f1, key _ _ f2, key _ _ f3, key _ _ f4⟩
theorem OwnN.lt {w : World} {base : Nat} {v : Value} {ps : List N5} (h : OwnN w base v ps) : ∀ k, v.ownBlock = some k → base ≤ k ∧ k < w.heap.size := World.ownsRow.lt h
theorem OwnN.below {w w' : World} {base : Nat} {v : Value} {ps : List N5} (h : OwnN w base v ps) (hb : Below w.heap.size w w') : OwnN w' base v ps :=
  World.ownsRow.kept h (gb_of_below hb none) (by cases e : v.ownBlock with
    | none => exact .inl rfl
    | some k => exact .inr (by simp))
theorem OwnN.mono {w : World} {base base' : Nat} {v : Value} {ps : List N5} (h : OwnN w base v ps) (hb : base' ≤ base) : OwnN w base' v ps := by
  obtain ⟨h1, h2 | ⟨g, cap, cur, h2, h3, h4⟩⟩ := h
  · exact ⟨h1, .inl h2⟩
  · exact ⟨h1, .inr ⟨g, cap, cur, h2, Nat.le_trans hb h3, h4⟩⟩
theorem OwnN.nil (w : World) (base : Nat) : OwnN w base (.slice none 0 0) [] := ⟨rfl, .inl ⟨rfl, rfl⟩⟩
theorem OwnN.empty (w : World) : OwnN (w.alloc (.cells #[] 28)) w.heap.size (.slice (some ⟨w.heap.size, 0, none⟩) 0 0) [] :=
  ⟨rfl, .inr ⟨w.heap.size, 0, #[], rfl, Nat.le_refl _, blk_alloc_new _ _, Nat.le_refl _, by simp [maxLen], rfl, rfl⟩⟩
theorem OwnN.one (w : World) (q c a b m : Int) : OwnN (w.alloc (.cells #[.int .i64 q, .int .i64 c, .int .i64 a, .int .i64 b, .int .i64 m] 28)) w.heap.size (.slice (some ⟨w.heap.size, 0, none⟩) 1 1) [(q, c, a, b, m)] :=
  ⟨rfl, .inr ⟨w.heap.size, 1, _, rfl, Nat.le_refl _, blk_alloc_new _ _, Nat.le_refl _, by simp [maxLen], rfl, rfl⟩⟩
theorem OwnN.push {w' : World} {base : Nat} {v' : Value} {ps : List N5} {q c a b m : Int} (ho : w'.ownsRow base 28 5 v' (ps.length + 1) (flatN ps ++ [.int .i64 q, .int .i64 c, .int .i64 a, .int .i64 b, .int .i64 m])) : OwnN w' base v' (ps ++ [(q, c, a, b, m)]) := by
  unfold OwnN
  rw [flatN_snoc, List.length_append]
  exact ho
theorem OwnN.at {w : World} {base : Nat} {v : Value} {ps : List N5} (h : OwnN w base v ps) (hn : 0 < ps.length) : ∃ g cap, v = .slice (some ⟨g, 0, none⟩) ps.length cap ∧ base ≤ g ∧ g < w.heap.size ∧ ps.length ≤ cap ∧ ∀ k, w.frozen? ⟨g, k, none⟩ = false := by
  obtain ⟨_, ⟨_, e⟩ | ⟨g, cap, cur, rfl, h3, hb, hnc, hcm, hsz, hx⟩⟩ := h
  · omega
  · exact ⟨g, cap, rfl, h3, (Array.getElem?_eq_some_iff.1 hb).1, hnc, fun k => by simp [World.frozen?, hb]⟩
/-- Without the last node. -/
theorem OwnN.drop {w : World} {base g cap : Nat} {ps : List N5} {n : N5} (h : OwnN w base (.slice (some ⟨g, 0, none⟩) (ps ++ [n]).length cap) (ps ++ [n])) : OwnN w base (.slice (some ⟨g, 0, none⟩) ps.length cap) ps := by
  obtain ⟨_, ⟨e, _⟩ | ⟨g', cap', cur, e, h3, hb, hnc, hcm, hsz, hx⟩⟩ := h
  · simp at e
  · simp only [Value.slice.injEq, Option.some.injEq, Addr.mk.injEq, and_true, true_and] at e
    obtain ⟨rfl, rfl⟩ := e
    refine ⟨flatN_len ps, .inr ⟨g, cap, cur, rfl, h3, hb, by rw [List.length_append] at hnc; simp at hnc; omega, hcm, hsz, ?_⟩⟩
    rw [flatN_app] at hx
    have hl : (flatN ps).length = ps.length * 5 := flatN_len ps
    have := congrArg (List.take (ps.length * 5)) hx
    rw [List.take_take, List.take_append_of_le_length (by omega), List.take_of_length_le (l := flatN ps) (by omega)] at this
    rw [← this]
    congr 1
    simp
/-- The node with one field turned. -/
def turnN (n : N5) (c : Nat) (x : Int) : N5 := match c with
  | 0 => (x, n.2)
  | 1 => (n.1, x, n.2.2)
  | 2 => (n.1, n.2.1, x, n.2.2.2)
  | 3 => (n.1, n.2.1, n.2.2.1, x, n.2.2.2.2)
  | _ => (n.1, n.2.1, n.2.2.1, n.2.2.2.1, x)
theorem flatN_set (ps : List N5) (k c : Nat) (x : Int) (hk : k < ps.length) (hc : c < 5) : (flatN ps).set (k * 5 + c) (.int .i64 x) = flatN (ps.set k (turnN (nd8 ps k) c x)) := by
  have e1 : nd8 ps k = ps[k] := by simp [nd8, hk]
  have e : ps = ps.take k ++ (nd8 ps k :: ps.drop (k + 1)) := by
    rw [e1, ← List.drop_eq_getElem_cons hk, List.take_append_drop]
  have hl : (flatN (ps.take k)).length = k * 5 := by rw [flatN_len, List.length_take]; omega
  have h2 : flatN ps = flatN (ps.take k) ++ (flatN [nd8 ps k] ++ flatN (ps.drop (k + 1))) := by
    rw [← flatN_app, ← flatN_app]
    exact congrArg flatN e
  have h3 : flatN (ps.set k (turnN (nd8 ps k) c x)) = flatN (ps.take k) ++ (flatN [turnN (nd8 ps k) c x] ++ flatN (ps.drop (k + 1))) := by
    rw [← flatN_app, ← flatN_app]
    refine congrArg flatN ?_
    rw [List.set_eq_take_append_cons_drop, if_pos hk]
    rfl
  rw [h2, h3, List.set_append_right _ _ (by omega), hl, show k * 5 + c - k * 5 = c by omega]
  congr 1
  obtain ⟨q, cc, a, b, m⟩ := nd8 ps k
  rcases (show c = 0 ∨ c = 1 ∨ c = 2 ∨ c = 3 ∨ c = 4 by omega) with rfl | rfl | rfl | rfl | rfl <;> rfl
theorem OwnN.set {w : World} {base g cap k c : Nat} {ps : List N5} (h : OwnN w base (.slice (some ⟨g, 0, none⟩) ps.length cap) ps) (hk : k < ps.length) (hc : c < 5) (x : Int) :
    OwnN (w.setCell ⟨g, k * 5 + c, none⟩ (.int .i64 x)) base (.slice (some ⟨g, 0, none⟩) ps.length cap) (ps.set k (turnN (nd8 ps k) c x)) := by
  obtain ⟨h1, ⟨e, _⟩ | ⟨g', cap', cur, e, h3, hb, hnc, hcm, hsz, hx⟩⟩ := h
  · simp at e
  · simp only [Value.slice.injEq, Option.some.injEq, Addr.mk.injEq, and_true, true_and] at e
    obtain ⟨rfl, rfl⟩ := e
    refine ⟨by rw [flatN_len], .inr ⟨g, cap, cur.setIfInBounds (k * 5 + c) (.int .i64 x), by rw [List.length_set], h3, ?_, by rw [List.length_set]; exact hnc, hcm, by simpa using hsz, ?_⟩⟩
    · simp [World.setCell, Array.getElem?_modify, hb]
    · rw [List.length_set, ← flatN_set ps k c x hk hc, ← hx, Array.toList_setIfInBounds, List.take_set]
theorem news5 (w : World) (q c a b m : Int) (t : TypeId) : ∀ (j : Nat) (u : Value), [Value.int .i64 q, .int .i64 c, .int .i64 a, .int .i64 b, .int .i64 m][j]? = some u → (w.alloc (.cells #[.int .i64 q, .int .i64 c, .int .i64 a, .int .i64 b, .int .i64 m] t)).cell? ((⟨w.heap.size, 0, none⟩ : Addr).add j) = some u := by
  intro j u hj
  match j, hj with
  | 0, hj => simp at hj; subst hj; simp [Addr.add, go_sem]
  | 1, hj => simp at hj; subst hj; simp [Addr.add, go_sem]
  | 2, hj => simp at hj; subst hj; simp [Addr.add, go_sem]
  | 3, hj => simp at hj; subst hj; simp [Addr.add, go_sem]
  | 4, hj => simp at hj; subst hj; simp [Addr.add, go_sem]
  | j + 5, hj => simp at hj
theorem one5 (q c a b m : Int) : ∀ u ∈ [Value.int .i64 q, .int .i64 c, .int .i64 a, .int .i64 b, .int .i64 m], u.oneCell' = true := by
  intro u hu
  simp at hu
  rcases hu with rfl | rfl | rfl | rfl | rfl <;> rfl

end Go.Proofs.Ytlcdmjcikbgnpaa
