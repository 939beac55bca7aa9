/- Blocks of one's own, and several of them side by side. No function is walked. Conditions: those that each theorem names. -/
import Derived.Test.YtlagghoohloklaaMem
namespace Go.Proofs.Ytlagghoohloklaa
open Go.RowKit Go.Deep

/-- The first m cells as F tells them. -/
def vF (F : Nat → Value) (m : Nat) : List Value := (List.range m).map F
theorem vF_len (F : Nat → Value) (m : Nat) : (vF F m).length = m := by simp [vF]
theorem vF_at (F : Nat → Value) {m k : Nat} (h : k < m) : (vF F m)[k]? = some (F k) := by simp [vF, h]
theorem vF_congr {F G : Nat → Value} {m : Nat} (e : ∀ k, k < m → F k = G k) : vF F m = vF G m := List.map_congr_left fun k hk => e k (List.mem_range.1 hk)
theorem vF_add (F : Nat → Value) (m s : Nat) : vF F (m + s) = vF F m ++ (List.range s).map fun c => F (m + c) := by
  unfold vF
  rw [List.range_add, List.map_append, List.map_map]
  rfl
/-- From block base on: a slice of its own, n entries of size cells each, of elements of type t. -/
def OwnF (t : TypeId) (size : Nat) (w : World) (base : Nat) (v : Value) (n : Nat) (F : Nat → Value) : Prop := w.ownsRow base t size v n (vF F (n * size))
variable {t : TypeId} {size : Nat} {w w' : World} {base base' : Nat} {v v' u x : Value} {n g cap k m : Nat} {F G : Nat → Value}
theorem OwnF.lt (h : OwnF t size w base v n F) : ∀ k, v.ownBlock = some k → base ≤ k ∧ k < w.heap.size := World.ownsRow.lt h
theorem OwnF.congr (h : OwnF t size w base v n F) (e : ∀ k, k < n * size → F k = G k) : OwnF t size w base v n G := by
  unfold OwnF at h ⊢
  rw [← vF_congr e]
  exact h
theorem OwnF.mono (h : OwnF t size w base v n F) (hb : base' ≤ base) : OwnF t size w base' v n F := by
  obtain ⟨h1, h2 | ⟨g, cap, cur, h2, h3, h4⟩⟩ := h
  · exact ⟨h1, .inl h2⟩
  · exact ⟨h1, .inr ⟨g, cap, cur, h2, Nat.le_trans hb h3, h4⟩⟩
theorem OwnF.below (h : OwnF t size w base v n F) (hb : Below w.heap.size w w') : OwnF t size w' base v n F :=
  World.ownsRow.kept h (gb_of_below hb none) (by cases e : v.ownBlock with
    | none => exact .inl rfl
    | some k => exact .inr (by simp))
theorem OwnF.grown (h : OwnF t size w base v n F) (hg : w.grownBy w' u.ownBlock) (ha : Apart v u) : OwnF t size w' base v n F :=
  World.ownsRow.kept h hg (by cases e : v.ownBlock with
    | none => exact .inl rfl
    | some k => exact .inr (fun h => ha k e h.symm))
theorem OwnF.other {a : Addr} (h : OwnF t size w base v n F) (ha : v.ownBlock ≠ some a.block) (x : Value) : OwnF t size (w.setCell a x) base v n F := ownsRow_setCell_other h ha x
theorem OwnF.empty (t : TypeId) (size : Nat) (w : World) (F : Nat → Value) : OwnF t size (w.alloc (.cells #[] t)) w.heap.size (.slice (some ⟨w.heap.size, 0, none⟩) 0 0) 0 F :=
  ⟨by simp [vF], .inr ⟨w.heap.size, 0, #[], rfl, Nat.le_refl _, blk_alloc_new _ _, Nat.le_refl _, by simp [maxLen], by simp, by simp [vF]⟩⟩
theorem OwnF.nil (t : TypeId) (size : Nat) (w : World) (base : Nat) (F : Nat → Value) : OwnF t size w base (.slice none 0 0) 0 F := ⟨by simp [vF], .inl ⟨rfl, rfl⟩⟩
theorem OwnF.push (ho : w'.ownsRow base t size v' (n + 1) (vF F (n * size) ++ (List.range size).map fun c => G (n * size + c))) (e : ∀ k, k < n * size → F k = G k) : OwnF t size w' base v' (n + 1) G := by
  unfold OwnF
  rw [Nat.add_mul, Nat.one_mul, vF_add, ← vF_congr e]
  exact ho
theorem OwnF.at (h : OwnF t size w base (.slice (some ⟨g, 0, none⟩) n cap) n F) : g < w.heap.size ∧ base ≤ g ∧ n ≤ cap ∧ (∀ k, w.frozen? ⟨g, k, none⟩ = false) ∧ ∀ k, k < n * size → w.cell? ⟨g, k, none⟩ = some (F k) := by
  obtain ⟨_, ⟨e, _⟩ | ⟨g', cap', cur, e, h3, hb, hnc, hcm, hsz, hx⟩⟩ := h
  · simp at e
  · simp only [Value.slice.injEq, Option.some.injEq, Addr.mk.injEq, and_true, true_and] at e
    obtain ⟨rfl, rfl⟩ := e
    have hg : g < w.heap.size := (Array.getElem?_eq_some_iff.1 hb).1
    refine ⟨hg, h3, hnc, fun k => by simp [World.frozen?, hb], fun k hk => ?_⟩
    rw [← vF_at F hk, ← hx, List.getElem?_take_of_lt (by omega), Array.getElem?_toList]
    simp [World.cell?, hb]
theorem OwnF.has (h : OwnF t size w base v n F) (hn : 0 < n) : ∃ g cap, v = .slice (some ⟨g, 0, none⟩) n cap := by
  obtain ⟨_, ⟨rfl, e⟩ | ⟨g, cap, cur, rfl, _⟩⟩ := h
  · omega
  · exact ⟨_, _, rfl⟩
theorem OwnF.set (h : OwnF t size w base (.slice (some ⟨g, 0, none⟩) n cap) n F) (hm : m < n * size) (x : Value) : OwnF t size (w.setCell ⟨g, m, none⟩ x) base (.slice (some ⟨g, 0, none⟩) n cap) n (fun j => if j = m then x else F j) := by
  obtain ⟨h1, ⟨e, _⟩ | ⟨g', cap', cur, e, h3, hb, hnc, hcm, hsz, hx⟩⟩ := h
  · simp at e
  · simp only [Value.slice.injEq, Option.some.injEq, Addr.mk.injEq, and_true, true_and] at e
    obtain ⟨rfl, rfl⟩ := e
    refine ⟨by rw [vF_len], .inr ⟨g, cap, cur.setIfInBounds m x, rfl, h3, ?_, hnc, hcm, by simpa using hsz, ?_⟩⟩
    · simp [World.setCell, Array.getElem?_modify, hb]
    · rw [Array.toList_setIfInBounds, List.take_set, hx]
      apply List.ext_getElem?
      intro j
      rw [List.getElem?_set, vF_len]
      by_cases hj : j < n * size
      · rw [vF_at _ hj, vF_at _ hj]
        by_cases e : m = j
        · subst e
          simp [hm]
        · simp [e, show ¬ j = m from fun h => e h.symm]
      · have z1 : (vF F (n * size))[j]? = none := by rw [List.getElem?_eq_none_iff, vF_len]; omega
        have z2 : (vF (fun j => if j = m then x else F j) (n * size))[j]? = none := by rw [List.getElem?_eq_none_iff, vF_len]; omega
        rw [z1, z2, if_neg (by omega)]

end Go.Proofs.Ytlagghoohloklaa

namespace Go.Proofs.Ytlagghoohloklaa
open Go.RowKit Go.Deep

/-- One slice: its value, the type of its elements, their size, their number, its cells. -/
structure It where
  v : Value
  t : TypeId
  size : Nat
  n : Nat
  F : Nat → Value
/-- The slices lie from block base on, each in a block of its own. -/
structure Pool (w : World) (base : Nat) (its : List It) : Prop where
  ow : ∀ (j : Nat) (i : It), its[j]? = some i → OwnF i.t i.size w base i.v i.n i.F
  ap : ∀ (j k : Nat) (a b : It), j ≠ k → its[j]? = some a → its[k]? = some b → Apart a.v b.v
variable {w w' : World} {base base' : Nat} {its its' : List It} {i i' : It} {j k : Nat}
theorem Pool.below (h : Pool w base its) (hb : Below w.heap.size w w') : Pool w' base its := ⟨fun j i hj => (h.ow j i hj).below hb, h.ap⟩
theorem Pool.alloc (h : Pool w base its) (o : Obj) : Pool (w.alloc o) base its := h.below (below_box _ _)
theorem Pool.nil (w : World) (base : Nat) : Pool w base [] := ⟨fun j i hj => by simp at hj, fun j k a b _ hj => by simp at hj⟩
theorem Pool.lt (h : Pool w base its) (hj : its[j]? = some i) : ∀ k, i.v.ownBlock = some k → base ≤ k ∧ k < w.heap.size := (h.ow j i hj).lt
/-- What an item becomes, everything else being as it was. -/
theorem Pool.turn (h : Pool w base its) (hj : its[j]? = some i) (hi : OwnF i'.t i'.size w' base i'.v i'.n i'.F) (hk : ∀ k b, k ≠ j → its[k]? = some b → OwnF b.t b.size w' base b.v b.n b.F) (ha : ∀ k b, k ≠ j → its[k]? = some b → Apart b.v i'.v) : Pool w' base (its.set j i') := by
  have hl : j < its.length := (List.getElem?_eq_some_iff.1 hj).1
  have hg : ∀ k b, (its.set j i')[k]? = some b → (k = j ∧ b = i') ∨ (k ≠ j ∧ its[k]? = some b) := fun k b hb => by
    rw [List.getElem?_set] at hb
    by_cases e : j = k
    · subst e
      rw [if_pos rfl, if_pos hl] at hb
      exact .inl ⟨rfl, (Option.some.inj hb).symm⟩
    · rw [if_neg e] at hb
      exact .inr ⟨fun h => e h.symm, hb⟩
  refine ⟨fun k b hb => ?_, fun k l a b hne hka hlb => ?_⟩
  · rcases hg k b hb with ⟨_, rfl⟩ | ⟨e, hb'⟩
    · exact hi
    · exact hk k b e hb'
  · rcases hg k a hka with ⟨e1, rfl⟩ | ⟨e1, ha'⟩
    · rcases hg l b hlb with ⟨e2, rfl⟩ | ⟨e2, hb'⟩
      · exact absurd (e1.trans e2.symm) hne
      · exact (ha l b e2 hb').symm
    · rcases hg l b hlb with ⟨e2, rfl⟩ | ⟨e2, hb'⟩
      · exact ha k a e1 ha'
      · exact h.ap k l a b hne ha' hb'
/-- A store into item j. -/
theorem Pool.set {g n cap m : Nat} (h : Pool w base its) (hj : its[j]? = some i) (hv : i.v = .slice (some ⟨g, 0, none⟩) n cap) (hn : n = i.n) (hm : m < i.n * i.size) (x : Value) :
    Pool (w.setCell ⟨g, m, none⟩ x) base (its.set j ⟨i.v, i.t, i.size, i.n, fun l => if l = m then x else i.F l⟩) := by
  subst hn
  refine h.turn hj ?_ (fun k b hk hb => (h.ow k b hb).other (fun e => h.ap k j b i hk hb hj _ e (by rw [hv]; rfl)) x) (fun k b hk hb => h.ap k j b i hk hb hj)
  have h1 := h.ow j i hj
  rw [hv] at h1 ⊢
  exact h1.set hm x
/-- An append to item j. -/
theorem Pool.push {v' : Value} {G : Nat → Value} (h : Pool w base its) (hj : its[j]? = some i) (ho : w'.ownsRow base i.t i.size v' (i.n + 1) (vF i.F (i.n * i.size) ++ (List.range i.size).map fun c => G (i.n * i.size + c)))
    (e : ∀ k, k < i.n * i.size → i.F k = G k) (hg : w.grownBy w' i.v.ownBlock) (hp : v'.ownBlock = i.v.ownBlock ∨ v'.ownBlock = some w.heap.size) : Pool w' base (its.set j ⟨v', i.t, i.size, i.n + 1, G⟩) := by
  refine h.turn hj (OwnF.push ho e) (fun k b hk hb => (h.ow k b hb).grown hg (h.ap k j b i hk hb hj)) (fun k b hk hb l hl hv => ?_)
  rcases hp with e1 | e1
  · exact h.ap k j b i hk hb hj l hl (e1 ▸ hv)
  · have hv' : v'.ownBlock = some l := hv
    rw [e1] at hv'
    have := (h.lt hb l hl).2
    simp only [Option.some.injEq] at hv'
    omega
/-- One item more, in a new block. -/
theorem Pool.add (h : Pool w base its) (hb : Below w.heap.size w w') (hi : OwnF i.t i.size w' w.heap.size i.v i.n i.F) (hs : base ≤ w.heap.size) : Pool w' base (its ++ [i]) := by
  have hg : ∀ k b, (its ++ [i])[k]? = some b → (k < its.length ∧ its[k]? = some b) ∨ (k = its.length ∧ b = i) := fun k b hk => by
    by_cases e : k < its.length
    · rw [List.getElem?_append_left e] at hk
      exact .inl ⟨e, hk⟩
    · have hl := (List.getElem?_eq_some_iff.1 hk).1
      simp at hl
      obtain rfl : k = its.length := by omega
      exact .inr ⟨rfl, by simpa using hk.symm⟩
  have hx : ∀ (k : Nat) (b : It), its[k]? = some b → Apart b.v i.v := fun k b hk l hl hv => by
    have := (h.lt hk l hl).2
    have := (hi.lt l hv).1
    omega
  refine ⟨fun k b hk => ?_, fun k l a b hne hka hlb => ?_⟩
  · rcases hg k b hk with ⟨_, hk'⟩ | ⟨_, rfl⟩
    · exact (h.ow k b hk').below hb
    · exact hi.mono hs
  · rcases hg k a hka with ⟨_, hk'⟩ | ⟨e1, rfl⟩
    · rcases hg l b hlb with ⟨_, hl'⟩ | ⟨_, rfl⟩
      · exact h.ap k l a b hne hk' hl'
      · exact hx k a hk'
    · rcases hg l b hlb with ⟨_, hl'⟩ | ⟨e2, rfl⟩
      · exact (hx l b hl').symm
      · exact absurd (e1.trans e2.symm) hne
/-- A store outside leaves all. -/
theorem Pool.other {a : Addr} (h : Pool w base its) (ha : a.block < base) (x : Value) : Pool (w.setCell a x) base its :=
  ⟨fun j i hj => (h.ow j i hj).other (fun e => by have := (h.lt hj _ e).1; omega) x, h.ap⟩
theorem Pool.congr {G : Nat → Value} (h : Pool w base its) (hj : its[j]? = some i) (e : ∀ k, k < i.n * i.size → i.F k = G k) : Pool w base (its.set j ⟨i.v, i.t, i.size, i.n, G⟩) :=
  h.turn hj ((h.ow j i hj).congr e) (fun k b _ hb => h.ow k b hb) (fun k b hk hb => h.ap k j b i hk hb hj)

end Go.Proofs.Ytlagghoohloklaa
