/- Many slices and structs of one's own at once, told by names: no two lie in one block. What a store into one, an append to one, a new one leave of the others. No function is walked. No condition beyond those that each theorem names. -/
import Derived.Test.YtlkibehieekceaaSrvState
namespace Go.Proofs.Ytlkibehieekceaa
open Go.RowKit Go.Deep

/-- A name: a kind and a number. -/
abbrev Nm := Nat × Nat
/-- What the named slices are; D: the names in use. -/
structure Fam (w : World) (base : Nat) (D : Nm → Prop) (I : Nm → It) : Prop where
  ow : ∀ a, D a → OwnF (I a).t (I a).size w base (I a).v (I a).n (I a).F
  ap : ∀ a b, a ≠ b → D a → D b → Apart (I a).v (I b).v
/-- One item turned. -/
def updI (I : Nm → It) (a : Nm) (i : It) : Nm → It := fun b => if b = a then i else I b
/-- One name more. -/
def And1 (D : Nm → Prop) (a : Nm) : Nm → Prop := fun b => b = a ∨ D b
theorem updI_self (I : Nm → It) (a : Nm) (i : It) : updI I a i a = i := if_pos rfl
theorem updI_ne (I : Nm → It) {a b : Nm} (i : It) (h : b ≠ a) : updI I a i b = I b := if_neg h
theorem updI_updI (I : Nm → It) (a : Nm) (i j : It) : updI (updI I a i) a j = updI I a j := by
  funext b
  unfold updI
  split <;> rfl
/-- A struct in a block of its own, as a slice of one. -/
def itB (b : Nat) (t : TypeId) (size : Nat) (F : Nat → Value) : It := ⟨.slice (some ⟨b, 0, none⟩) 1 1, t, size, 1, F⟩
variable {w w' : World} {base base' : Nat} {D D' : Nm → Prop} {I I' : Nm → It} {a b : Nm} {i i' : It}
theorem Fam.below (h : Fam w base D I) (hb : Below w.heap.size w w') : Fam w' base D I := ⟨fun a ha => (h.ow a ha).below hb, h.ap⟩
theorem Fam.alloc (h : Fam w base D I) (o : Obj) : Fam (w.alloc o) base D I := h.below (below_box _ _)
theorem Fam.mono (h : Fam w base D I) (hb : base' ≤ base) : Fam w base' D I := ⟨fun a ha => (h.ow a ha).mono hb, h.ap⟩
theorem Fam.sub (h : Fam w base D I) (hd : ∀ a, D' a → D a) : Fam w base D' I := ⟨fun a ha => h.ow a (hd a ha), fun a b hn ha hb => h.ap a b hn (hd a ha) (hd b hb)⟩
theorem Fam.lt (h : Fam w base D I) (ha : D a) : ∀ k, (I a).v.ownBlock = some k → base ≤ k ∧ k < w.heap.size := (h.ow a ha).lt
theorem Fam.turn (h : Fam w base D I) (hi : OwnF i'.t i'.size w' base i'.v i'.n i'.F) (hk : ∀ b, b ≠ a → D b → OwnF (I b).t (I b).size w' base (I b).v (I b).n (I b).F) (ha : ∀ b, b ≠ a → D b → Apart (I b).v i'.v) : Fam w' base D (updI I a i') := by
  refine ⟨fun b hb => ?_, fun b c hne hb hc => ?_⟩
  · by_cases e : b = a
    · subst e; rw [updI_self]; exact hi
    · rw [updI_ne _ _ e]; exact hk b e hb
  · by_cases e : b = a
    · subst e
      rw [updI_self, updI_ne _ _ (Ne.symm hne)]
      exact (ha c (Ne.symm hne) hc).symm
    · rw [updI_ne _ _ e]
      by_cases e2 : c = a
      · subst e2
        rw [updI_self]
        exact ha b e hb
      · rw [updI_ne _ _ e2]
        exact h.ap b c hne hb hc
/-- A store into item a. -/
theorem Fam.set {g n cap m : Nat} (h : Fam w base D I) (ha : D a) (hv : (I a).v = .slice (some ⟨g, 0, none⟩) n cap) (hn : n = (I a).n) (hm : m < (I a).n * (I a).size) (x : Value) :
    Fam (w.setCell ⟨g, m, none⟩ x) base D (updI I a ⟨(I a).v, (I a).t, (I a).size, (I a).n, fun l => if l = m then x else (I a).F l⟩) := by
  subst hn
  refine h.turn ?_ (fun b hk hb => (h.ow b hb).other (fun e => h.ap b a hk hb ha _ e (by rw [hv]; rfl)) x) (fun b hk hb => h.ap b a hk hb ha)
  have h1 := h.ow a ha
  rw [hv] at h1 ⊢
  exact h1.set hm x
/-- The same item, told otherwise. -/
theorem Fam.congr {G : Nat → Value} (h : Fam w base D I) (ha : D a) (e : ∀ k, k < (I a).n * (I a).size → (I a).F k = G k) : Fam w base D (updI I a ⟨(I a).v, (I a).t, (I a).size, (I a).n, G⟩) :=
  h.turn ((h.ow a ha).congr e) (fun b _ hb => h.ow b hb) (fun b hk hb => h.ap b a hk hb ha)
theorem Fam.push {v' : Value} {G : Nat → Value} (h : Fam w base D I) (ha : D a) (ho : w'.ownsRow base (I a).t (I a).size v' ((I a).n + 1) (vF (I a).F ((I a).n * (I a).size) ++ (List.range (I a).size).map fun c => G ((I a).n * (I a).size + c)))
    (e : ∀ k, k < (I a).n * (I a).size → (I a).F k = G k) (hg : w.grownBy w' (I a).v.ownBlock) (hp : v'.ownBlock = (I a).v.ownBlock ∨ v'.ownBlock = some w.heap.size) : Fam w' base D (updI I a ⟨v', (I a).t, (I a).size, (I a).n + 1, G⟩) := by
  refine h.turn (OwnF.push ho e) (fun b hk hb => (h.ow b hb).grown hg (h.ap b a hk hb ha)) (fun b hk hb l hl hv => ?_)
  rcases hp with e1 | e1
  · exact h.ap b a hk hb ha l hl (e1 ▸ hv)
  · have hv' : v'.ownBlock = some l := hv
    rw [e1] at hv'
    have := (h.lt hb l hl).2
    simp only [Option.some.injEq] at hv'
    omega
/-- One item more, in a new block. -/
theorem Fam.add (h : Fam w base D I) (ha : ¬ D a) (hb : Below w.heap.size w w') (hi : OwnF i.t i.size w' w.heap.size i.v i.n i.F) (hs : base ≤ w.heap.size) : Fam w' base (And1 D a) (updI I a i) := by
  have hx : ∀ b, D b → Apart (I b).v i.v := fun b hb' l hl hv => by
    have := (h.lt hb' l hl).2
    have := (hi.lt l hv).1
    omega
  have hne : ∀ b, D b → b ≠ a := fun b hb' e => ha (e ▸ hb')
  refine ⟨fun b hb' => ?_, fun b c hn hb' hc => ?_⟩
  · by_cases e : b = a
    · subst e; rw [updI_self]; exact hi.mono hs
    · rw [updI_ne _ _ e]; exact (h.ow b (hb'.resolve_left e)).below hb
  · by_cases e : b = a
    · subst e
      have hc' := hc.resolve_left (Ne.symm hn)
      rw [updI_self, updI_ne _ _ (hne c hc')]
      exact (hx c hc').symm
    · have hb2 := hb'.resolve_left e
      rw [updI_ne _ _ e]
      by_cases e2 : c = a
      · subst e2; rw [updI_self]; exact hx b hb2
      · rw [updI_ne _ _ e2]; exact h.ap b c hn hb2 (hc.resolve_left e2)
theorem Fam.same (h : Fam w base D I) (e : ∀ a, D a → I a = I' a) : Fam w base D I' :=
  ⟨fun a ha => by rw [← e a ha]; exact h.ow a ha, fun a b hn ha hb => by rw [← e a ha, ← e b hb]; exact h.ap a b hn ha hb⟩
/-- A new block of cells, as a struct. -/
theorem own_box (w : World) (t : TypeId) (size : Nat) (xs : Array Value) (F : Nat → Value) (hz : xs.size = size) (hF : ∀ k, k < size → xs[k]? = some (F k)) :
    OwnF t size (w.alloc (.cells xs t)) w.heap.size (.slice (some ⟨w.heap.size, 0, none⟩) 1 1) 1 F := by
  subst hz
  refine ⟨by rw [vF_len], .inr ⟨w.heap.size, 1, xs, rfl, Nat.le_refl _, blk_alloc_new _ _, Nat.le_refl _, by simp [maxLen], by simp, ?_⟩⟩
  apply List.ext_getElem?
  intro j
  by_cases hj : j < 1 * xs.size
  · rw [vF_at _ hj, ← hF j (by omega), List.getElem?_take_of_lt hj, Array.getElem?_toList]
  · rw [List.getElem?_eq_none_iff.2 (show (List.take (1 * xs.size) xs.toList).length ≤ j by simp; omega), List.getElem?_eq_none_iff.2 (show (vF F (1 * xs.size)).length ≤ j by rw [vF_len]; omega)]
/-- What a struct's block reads. -/
theorem Fam.box {t : TypeId} {size g : Nat} {F : Nat → Value} (h : Fam w base D I) (ha : D a) (hI : I a = itB g t size F) : g < w.heap.size ∧ base ≤ g ∧ (∀ k, w.frozen? ⟨g, k, none⟩ = false) ∧ ∀ k, k < size → w.cell? ⟨g, k, none⟩ = some (F k) := by
  have h1 := h.ow a ha
  rw [hI] at h1
  obtain ⟨q1, q2, _, q4, q5⟩ := OwnF.at (show OwnF t size w base (.slice (some ⟨g, 0, none⟩) 1 1) 1 F from h1)
  exact ⟨q1, q2, q4, fun k hk => q5 k (by omega)⟩
/-- A store into a struct. -/
theorem Fam.setB {t : TypeId} {size g m : Nat} {F G : Nat → Value} (h : Fam w base D I) (ha : D a) (hI : I a = itB g t size F) (hm : m < size) (x : Value) (e : ∀ k, k < size → (if k = m then x else F k) = G k) :
    Fam (w.setCell ⟨g, m, none⟩ x) base D (updI I a (itB g t size G)) := by
  have h1 := h.set (g := g) (n := 1) (cap := 1) (m := m) ha (by rw [hI]; rfl) (by rw [hI]; rfl) (by rw [hI]; show m < 1 * size; omega) x
  have h2 := h1.congr (a := a) (G := G) ha (by
    rw [updI_self, hI]
    intro k hk
    exact e k (by have : k < 1 * size := hk; omega))
  rw [updI_self, updI_updI, hI] at h2
  exact h2
/-- A store into a slice of numbers. -/
theorem Fam.setI {g n cap m : Nat} {f f' : Nat → Int} {x : Int} (h : Fam w base D I) (ha : D a) (hI : I a = itI (.slice (some ⟨g, 0, none⟩) n cap) n f) (hm : m < n) (e : ∀ k, k < n → (if k = m then x else f k) = f' k) :
    Fam (w.setCell ⟨g, m, none⟩ (.int .i64 x)) base D (updI I a (itI (.slice (some ⟨g, 0, none⟩) n cap) n f')) := by
  have h1 := h.set (g := g) (n := n) (cap := cap) (m := m) ha (by rw [hI]; rfl) (by rw [hI]; rfl) (by rw [hI]; show m < n * 1; omega) (.int .i64 x)
  have h2 := h1.congr (a := a) (G := fun k => .int .i64 (f' k)) ha (by
    rw [updI_self, hI]
    intro k hk
    have hk' : k < n * 1 := hk
    show (if k = m then Value.int .i64 x else .int .i64 (f k)) = .int .i64 (f' k)
    rw [← e k (by omega)]
    split <;> rfl)
  rw [updI_self, updI_updI, hI] at h2
  exact h2
theorem Fam.getI {n : Nat} {v : Value} {f : Nat → Int} (h : Fam w base D I) (ha : D a) (hI : I a = itI v n f) : OwnI w base v n f := by
  have h1 := h.ow a ha
  rw [hI] at h1
  exact ownF_I h1
/-- The names as a list. -/
theorem Fam.pool {its : List It} (h : Fam w base D I) (f : Nat → Nm) (hf : ∀ a b, a ≠ b → f a ≠ f b) (hs : ∀ (j : Nat) (i : It), its[j]? = some i → D (f j) ∧ I (f j) = i) : Pool w base its :=
  ⟨fun j i hj => by have := h.ow _ (hs j i hj).1; rw [(hs j i hj).2] at this; exact this, fun j k a b hne hj hk => by
    have := h.ap _ _ (hf j k hne) (hs j a hj).1 (hs k b hk).1
    rw [(hs j a hj).2, (hs k b hk).2] at this
    exact this⟩

end Go.Proofs.Ytlkibehieekceaa
