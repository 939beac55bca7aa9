/- Contracts of the functions that draw a task set: spec.l20Set and, by it, spec.DrawSetValid, spec.DrawHyperperiod, spec.DrawUtilization. What is drawn is not told, only that it is a slice of at most 12 tasks in new memory. Conditions: the reader's two cells are as they should be; its place is at most 8*10^8. -/
import Derived.Test.YtdgihkmiolnglaaDoorDraw
import Derived.Test.YtdgihkmiolnglaaDoorCopy
import Derived.OwnWalk
namespace Go.Proofs.YtdgihkmiolnglaaDoor
open Go.RowKit Go.Deep

def flat (ts : List (Int × Int × Int)) : List Value := ts.flatMap fun t => [.int .i64 t.1, .int .i64 t.2.1, .int .i64 t.2.2]
theorem flat_length (ts : List (Int × Int × Int)) : (flat ts).length = ts.length * 3 := by
  induction ts with
  | nil => rfl
  | cons t ts ih => simp only [flat, List.flatMap_cons, List.length_append, List.length_cons, List.length_nil] at ih ⊢; omega
theorem flat_snoc (ts : List (Int × Int × Int)) (c d p : Int) : flat (ts ++ [(c, d, p)]) = flat ts ++ [.int .i64 c, .int .i64 d, .int .i64 p] := by simp [flat]
theorem flat_at (ts : List (Int × Int × Int)) : ∀ (k : Nat) (t : Int × Int × Int), ts[k]? = some t → (flat ts)[k * 3]? = some (.int .i64 t.1) ∧ (flat ts)[k * 3 + 1]? = some (.int .i64 t.2.1) ∧ (flat ts)[k * 3 + 2]? = some (.int .i64 t.2.2) := by
  induction ts with
  | nil => intro k t h; simp at h
  | cons x ts ih =>
    intro k t h
    cases k with
    | zero => simp at h; subst h; simp [flat]
    | succ k =>
      have := ih k t (by simpa using h)
      have e : (k + 1) * 3 = k * 3 + 3 := by omega
      rw [e]
      simp only [flat, List.flatMap_cons] at this ⊢
      simpa using this

/-- The tasks ts lie, one behind the other, in memory of the call's own (blocks from base on). -/
def Own (w : World) (base : Nat) (v : Value) (ts : List (Int × Int × Int)) : Prop := w.ownsRow base 24 3 v ts.length (flat ts)

theorem Own.row {w : World} {base : Nat} {v : Value} {ts : List (Int × Int × Int)} (h : Own w base v ts) : ∃ a cap, v = .slice a ts.length cap ∧ Row w a ts ∧ ts.length ≤ cap ∧ cap ≤ maxLen := by
  obtain ⟨_, ⟨rfl, hn⟩ | ⟨g, cap, cur, rfl, _, hb, hnc, hcm, hsz, hx⟩⟩ := h
  · refine ⟨none, 0, by rw [hn], fun k t hk => ?_, by omega, by simp [maxLen]⟩
    rw [List.length_eq_zero_iff.1 hn] at hk
    simp at hk
  · refine ⟨some ⟨g, 0, none⟩, cap, rfl, fun k t hk => ?_, hnc, hcm⟩
    have hlt : k < ts.length := (List.getElem?_eq_some_iff.1 hk).1
    obtain ⟨h0, h1, h2⟩ := flat_at ts k t hk
    have hg : g < w.heap.size := (Array.getElem?_eq_some_iff.1 hb).1
    have hcell : ∀ j, j < ts.length * 3 → w.cell? ⟨g, j, none⟩ = (flat ts)[j]? := by
      intro j hj
      rw [← hx, List.getElem?_take_of_lt hj, Array.getElem?_toList]
      simp [World.cell?, hb]
    refine ⟨g, 0, rfl, hg, ?_, ?_, ?_⟩
    · rw [Nat.zero_add, hcell _ (by omega), h0]
    · rw [Nat.zero_add, hcell _ (by omega), h1]
    · rw [Nat.zero_add, hcell _ (by omega), h2]

/-- Drawn so far. -/
structure Sofar (w : World) (rb q : Nat) (v : Value) (ts : List (Int × Int × Int)) (wr : World) : Prop where
  gb : w.grownBy wr (some rb)
  rd : Rd wr rb q
  own : Own wr w.heap.size v ts
  lt : rb < w.heap.size
  nn : v ≠ .slice none 0 0

theorem Own.notNil {w : World} {base : Nat} {v : Value} {ts : List (Int × Int × Int)} (h : Own w base v ts) (hn : v ≠ .slice none 0 0) : ∃ g cap, v = .slice (some ⟨g, 0, none⟩) ts.length cap := by
  obtain ⟨_, ⟨rfl, _⟩ | ⟨g, cap, cur, rfl, _⟩⟩ := h
  · exact absurd rfl hn
  · exact ⟨g, cap, rfl⟩

def SetDrawn (rb p : Nat) (w : World) (e : Ending) (w' : World) : Prop :=
  ∃ (a : Option Addr) (cap : Nat) (ts : List (Int × Int × Int)), e = .returned (.slice a ts.length cap) ∧ ts.length ≤ 12 ∧ ts.length ≤ cap ∧ cap ≤ maxLen ∧ Row w' a ts ∧ w.grownBy w' (some rb) ∧ Rd w' rb (p + 200) ∧ ∃ g, a = some ⟨g, 0, none⟩

theorem Sofar.start {w w1 : World} {rb q : Nat} (hlt : rb < w.heap.size) (hg : (w.alloc (.cells #[] 24)).grownBy w1 (some rb)) (hr : Rd w1 rb q) : Sofar w rb q (.slice (some ⟨w.heap.size, 0, none⟩) 0 0) [] w1 :=
  ⟨gb_trans (gb_below (below_box _ _)) hg, hr, ⟨rfl, .inr ⟨w.heap.size, 0, #[], rfl, Nat.le_refl _, by
    rw [hg.block w.heap.size (by simp) (by simp; omega)]
    exact blk_alloc_new _ _, Nat.le_refl _, by simp [maxLen], rfl, rfl⟩⟩, hlt, by simp⟩
theorem Sofar.task {w wr wt : World} {rb q q' : Nat} {v : Value} {ts : List (Int × Int × Int)} (h : Sofar w rb q v ts wr) (hg : wr.grownBy wt (some rb)) (hr : Rd wt rb q') : Sofar w rb q' v ts wt :=
  ⟨gb_trans h.gb hg, hr, h.own.kept hg (by
    obtain ⟨_, ⟨rfl, _⟩ | ⟨g, cap, cur, rfl, hb, _⟩⟩ := h.own
    · exact .inl rfl
    · right
      have := h.lt
      simp only [Value.ownBlock, ne_eq, Option.some.injEq]
      omega), h.lt, h.nn⟩
theorem Sofar.alloc {w wr : World} {rb q : Nat} {v : Value} {ts : List (Int × Int × Int)} (h : Sofar w rb q v ts wr) (o : Obj) : Sofar w rb q v ts (wr.alloc o) := ⟨gb_alloc h.gb o, h.rd.alloc o, World.ownsRow.alloc h.own o, h.lt, h.nn⟩
theorem own_ge {w wr : World} {rb q : Nat} {v : Value} {ts : List (Int × Int × Int)} (h : Sofar w rb q v ts wr) : ∀ k, v.ownBlock = some k → w.heap.size ≤ k := by
  intro k hk
  obtain ⟨_, ⟨rfl, _⟩ | ⟨g, cap, cur, rfl, hb, _⟩⟩ := h.own
  · simp [Value.ownBlock] at hk
  · simp only [Value.ownBlock, Option.some.injEq] at hk
    omega
theorem Sofar.push {w wr wx : World} {rb q : Nat} {v v' : Value} {ts : List (Int × Int × Int)} {c d p : Int} (h : Sofar w rb q v ts wr)
    (hown : wx.ownsRow w.heap.size 24 3 v' (ts.length + 1) (flat ts ++ [.int .i64 c, .int .i64 d, .int .i64 p])) (hg : wr.grownBy wx v.ownBlock) (hnn : v' ≠ .slice none 0 0) : Sofar w rb q v' (ts ++ [(c, d, p)]) wx := by
  have hge := own_ge h
  have hlt := h.lt
  refine ⟨⟨hg.os.trans h.gb.os, hg.tape.trans h.gb.tape, hg.output.trans h.gb.output, Nat.le_trans h.gb.size hg.size, fun i hi hne => (hg.block i (Nat.lt_of_lt_of_le hi h.gb.size) ?_).trans (h.gb.block i hi hne)⟩, h.rd.kept hg.size fun i hi => hg.block i (by have := h.rd.lt; omega) ?_, ?_, h.lt, hnn⟩
  · intro e; have := hge i e.symm; omega
  · intro e; have := hge i e.symm; omega
  · show wx.ownsRow _ _ _ _ _ _
    rw [List.length_append, flat_snoc]
    exact hown
theorem news3 (w : World) (c d p : Int) (t : TypeId) : ∀ (j : Nat) (u : Value), [Value.int .i64 c, .int .i64 d, .int .i64 p][j]? = some u → (w.alloc (.cells #[.int .i64 c, .int .i64 d, .int .i64 p] t)).cell? ((⟨w.heap.size, 0, none⟩ : Addr).add j) = some u := by
  intro j u hj
  match j, hj with
  | 0, hj => simp at hj; subst hj; simp [Addr.add, go_sem]
  | 1, hj => simp at hj; subst hj; simp [Addr.add, go_sem]
  | 2, hj => simp at hj; subst hj; simp [Addr.add, go_sem]
  | j + 3, hj => simp at hj
theorem one3 (c d p : Int) : ∀ u ∈ [Value.int .i64 c, .int .i64 d, .int .i64 p], u.oneCell' = true := by
  intro u hu
  simp at hu
  rcases hu with rfl | rfl | rfl <;> rfl

theorem sv_of {ts : List (Int × Int × Int)} (h : ts.all tv = true) (hl : ts.length ≤ 5) : svB ts = true := by simp [svB, h, hl]

/-- A task set was drawn. -/
def GotSet (w : World) (e : Ending) (w' : World) : Prop :=
  ∃ (a : Option Addr) (cap : Nat) (ts : List (Int × Int × Int)), e = .returned (.slice a ts.length cap) ∧ ts.length ≤ 12 ∧ ts.length ≤ cap ∧ cap ≤ maxLen ∧ Row w' a ts ∧ Below w.heap.size w w'

/-- A task set was drawn, and it is not nil. -/
def GotSome (w : World) (e : Ending) (w' : World) : Prop :=
  ∃ (g cap : Nat) (ts : List (Int × Int × Int)), e = .returned (.slice (some ⟨g, 0, none⟩) ts.length cap) ∧ ts.length ≤ 12 ∧ ts.length ≤ cap ∧ cap ≤ maxLen ∧ Row w' (some ⟨g, 0, none⟩) ts ∧ Below w.heap.size w w'

end Go.Proofs.YtdgihkmiolnglaaDoor
