/- A range over an iterator whose loop body always leaves by return at its first round, over an iterator that says of what it hands out what it is in memory: the law at an outermost loop and within a round of another loop. No dump. Conditions: those of each theorem. -/
import Derived.RangeFuncNested
import Derived.RangeFuncBound
import Derived.RangeFuncLeaves
import Derived.RangeFuncCalls
import Derived.TacticsIn
import Derived.OrdersIn
import Derived.Deep.RegionHeld
namespace Go.Proofs.YtdgihkmiolnglaaGreatDoor
open Go.RowKit

variable {P : Program}

theorem room_free (k : Nat) : Fence.wide.room k := room_wide k
theorem roundAny {m m' : Nat} {l : Nat} {f : FuncId} {tmps : Array Value} {assign body : Code} {w : World} {R : Ending → World → Prop} (h : RoundIn Fence.wide m P l f tmps assign body w R) : RoundIn Fence.wide m' P l f tmps assign body w R :=
  ⟨h.1, fun c cs _ => h.2 c cs (room_wide _)⟩
theorem yieldAny {m : Nat} (m' : Nat) {l : Nat} {args : Array Value} {W : World} {R : Ending → World → Prop} (h : YieldAt Fence.wide m P l args W R) : YieldAt Fence.wide m' P l args W R := by
  obtain ⟨fn, tmps, assign, body, hy, hR⟩ := h
  exact ⟨fn, tmps, assign, body, hy, roundAny hR⟩

/-- An iterator over at most one round: either nothing comes (`no`), and what lay lies; or yield is called once, with something of which `Kn` holds then, answers false, and all is as yield left it (`X`); of what came `Fst` holds. -/
def Gives1 {α : Type} (P : Program) (gf : Nat) (lb : Array Value) (encs : α → Array Value) (Kn : α → World → Prop) (no : Prop) (Fst : α → Prop) (w : World) : Prop :=
  ∀ (l : Nat) (X : α → World → Prop) (W : World), Below w.heap.size w W → OwnFrom W.heap.size X →
    (∀ x W1, Below W.heap.size W W1 → Kn x W1 → YieldAt Fence.wide 0 P l (encs x) W1 fun e W2 => e = .returned (.bool false) ∧ KeepsFrom W.heap.size W1 W2 ∧ X x W2) →
    Calls P gf (#[.func (.yield l) #[] #[]] ++ lb) W fun e W' => (∃ v, e = .returned v) ∧ ((no ∧ Below W.heap.size W W') ∨ ∃ x, Fst x ∧ X x W')

theorem keepsFrom_up {B B' : Nat} {W W' : World} (h : KeepsFrom B W W') (hb : B ≤ B') : KeepsFrom B' W W' := ⟨h.size, fun k o hk => h.same k o (Nat.le_trans hb hk)⟩
theorem keeps_put {B l : Nat} {W : World} {o : Obj} (h : l < B) : KeepsFrom B W (W.putObj l o) := ⟨by simp, fun k o' hk h0 _ => (World.putObj_heap_other (by omega)).trans h0⟩
theorem below_put {B l : Nat} {W W' : World} {o : Obj} (h : Below B W W') (hs : B ≤ W.heap.size) (hl : B ≤ l) : Below B W (W'.putObj l o) :=
  h.grown (grownBy_putObj' W' l o) (Nat.le_trans hs h.size) (fun k e => by cases e; exact hl)

/-- One loop of that kind, its record laid: the iterator's call. -/
theorem range1_core {α : Type} {ps : Array Tmp} {assign body : Code} {gf : Nat} {lb : Array Value} {encs : α → Array Value} {Kn : α → World → Prop} {no : Prop} {Fst : α → Prop} {w0 : World} (hseq : Gives1 P gf lb encs Kn no Fst w0)
    {fn : FuncId} {tmps : Array Value} {dfr : Nat} (rec : LoopState → Option Code → Loop) (hrec : rec = fun st pe => { state := st, pending := pe, fn, tmps, params := ps, assign, body, defers := dfr })
    {B l : Nat} {W1 : World} (hB : B ≤ l) (hb0 : Below w0.heap.size w0 W1) (hL : W1.heap[l]? = some (.loop (rec .ready none))) (od : Option Nat) (hod : ∀ D, od = some D → B ≤ D ∧ D ≠ l ∧ W1.heap[D]? = some (.deferred (some [])))
    (hps : ∀ x, (encs x).size = ps.size) (X : α → World → Prop) (hX : OwnFrom B X) (hKn : ∀ x, OwnFrom B (fun (_ : Unit) W => Kn x W)) (a₁ : α → Act)
    (hassign : ∀ (x : α) (W : World) (K : Act → World → Prop), K (a₁ x) W → assign.wpIn (Fence.wide.inRound l) 0 P (Exit.then K (fun _ _ _ => False)) { tmps := (ps.zip (encs x)).foldl (fun t (p, v) => t.setIfInBounds p v) tmps, defers := [] } W)
    (hbody : ∀ (x : α) (W W2 : World), Below W1.heap.size W1 W → Kn x W2 → (∃ r, W2.heap[l]? = some (.loop r)) → W2 = W.putObj l (.loop (rec .busy none)) → body.wpIn (Fence.wide.inRound l) 0 P (fun e _ W' => e = .ret ∧ KeepsFrom B W2 W' ∧ X x W') (a₁ x) W2) :
    Calls P gf (#[.func (.yield l) #[] #[]] ++ lb) W1 fun e W' => (∃ v, e = .returned v) ∧ ((no ∧ Below W1.heap.size W1 W') ∨ ∃ x, Fst x ∧ X x W' ∧ W'.heap[l]? = some (.loop (rec .done (some .ret))) ∧ ∀ D, od = some D → W'.heap[D]? = some (.deferred (some []))) := by
  have hl1 : l < W1.heap.size := (Array.getElem?_eq_some_iff.1 hL).1
  have hB1 : B ≤ W1.heap.size := by omega
  refine hseq l (fun x W' => X x W' ∧ W'.heap[l]? = some (.loop (rec .done (some .ret))) ∧ ∀ D, od = some D → W'.heap[D]? = some (.deferred (some []))) W1 hb0 ?_ ?_
  · rintro x A C row ⟨h1, h2, h3⟩ hg hr
    refine ⟨hX x A C row h1 hg (fun r e => ⟨Nat.le_trans hB1 (hr r e).1, (hr r e).2⟩), (hg.block l (Array.getElem?_eq_some_iff.1 h2).1 (fun e => ?_)).trans h2, fun D hD => (hg.block D (Array.getElem?_eq_some_iff.1 (h3 D hD)).1 (fun e => ?_)).trans (h3 D hD)⟩
    · have := (hr l e.symm).1; omega
    · have h5 := (hr D e.symm).1
      have h6 := (Array.getElem?_eq_some_iff.1 (hod D hD).2.2).1
      omega
  · intro x W hW hkn
    have hLW : W.heap[l]? = some (.loop (rec .ready none)) := (hW.block l hl1).trans hL
    have hlW : l < W.heap.size := (Array.getElem?_eq_some_iff.1 hLW).1
    have hy := run_yield (P := P) (args := encs x) hLW (by rw [hrec]; exact hps x)
    rw [hrec] at hy
    refine ⟨fn, _, assign, body, hy, roundIn_of_wpIn trivial (hassign x W _ ⟨_, run_beginRound hLW (by rw [hrec]), ?_⟩)⟩
    obtain ⟨W2, hW2⟩ : ∃ W2, W2 = W.putObj l (.loop (rec .busy none)) := ⟨_, rfl⟩
    have e2 : W.putObj l (.loop { rec .ready none with state := .busy }) = W2 := by rw [hW2, hrec]
    rw [e2]
    have hL2 : W2.heap[l]? = some (.loop (rec .busy none)) := by rw [hW2]; exact World.putObj_heap_same hlW
    have hkn2 : Kn x W2 := by rw [hW2]; exact (hKn x).putObj (s := ()) _ hkn hB hLW rfl
    refine wpIn_mono (hbody x W W2 hW hkn2 ⟨_, hL2⟩ hW2) ?_
    rintro e a3 W3 ⟨rfl, hk3, hx3⟩
    have hL3 : W3.heap[l]? = some (.loop (rec .busy none)) := hk3.same l _ hB hL2 rfl
    have hend := run_endRound (P := P) (some .ret) hL3
    have e4 : (W3.putObj l (.loop { rec .busy none with state := if (some Code.ret).isNone then .ready else .done, pending := some .ret })) = W3.putObj l (.loop (rec .done (some .ret))) := by rw [hrec]; rfl
    rw [e4] at hend
    refine ⟨_, _, hend, rfl, ?_, hX.putObj _ hx3 hB hL3 rfl, World.putObj_heap_same (Array.getElem?_eq_some_iff.1 hL3).1, fun D hD => ?_⟩
    · rw [hW2] at hk3
      exact ((keeps_put hl1).trans (keepsFrom_up hk3 hB1)).trans (keeps_put hl1)
    · obtain ⟨d1, d2, d3⟩ := hod D hD
      have d4 : W2.heap[D]? = some (.deferred (some [])) := by
        rw [hW2]
        exact (World.putObj_heap_other d2).trans ((hW.block D (Array.getElem?_eq_some_iff.1 d3).1).trans d3)
      exact (World.putObj_heap_other d2).trans (hk3.same D _ d1 d4 rfl)

/-- At an outermost loop. -/
theorem range1_outer {α : Type} {g : Operand} {ps : Array Tmp} {assign body : Code} {Q : Exit → Act → World → Prop} {a : Act} {w : World} {n : Nat}
    {gf : Nat} {lb : Array Value} (hg : a.eval g = .func (.func gf) #[] lb) (eg : ∀ args w, (callFunc gf args).run P w = .ok (.enter gf args) w)
    {encs : α → Array Value} {Kn : α → World → Prop} {no : Prop} {Fst : α → Prop} {w0 : World} (hseq : Gives1 P gf lb encs Kn no Fst w0) (hb0 : Below w0.heap.size w0 w) (hps : ∀ x, (encs x).size = ps.size)
    (X : α → World → Prop) (hX : OwnFrom w.heap.size X) (hKn : ∀ x, OwnFrom w.heap.size (fun (_ : Unit) W => Kn x W)) (a₁ : α → Act)
    (hassign : ∀ (l : Nat) (x : α) (W : World) (K : Act → World → Prop), K (a₁ x) W → assign.wpIn (Fence.wide.inRound l) 0 P (Exit.then K (fun _ _ _ => False)) { tmps := (ps.zip (encs x)).foldl (fun t (p, v) => t.setIfInBounds p v) a.tmps, defers := [] } W)
    (hbody : ∀ (l : Nat) (x : α) (W : World), w.heap.size ≤ l → (∃ r, W.heap[l]? = some (.loop r)) → Below w.heap.size w W → Kn x W → body.wpIn (Fence.wide.inRound l) 0 P (fun e _ W' => e = .ret ∧ KeepsFrom w.heap.size W W' ∧ X x W') (a₁ x) W)
    (hnone : ∀ (D : Nat) (W : World), w.heap.size ≤ D → no → Below w.heap.size w W → W.heap[D]? = some (.deferred (some [])) → Q .normal { a with defers := { target := .collected D, args := #[] } :: a.defers } W)
    (hsome : ∀ (D : Nat) (x : α) (W : World), w.heap.size ≤ D → Fst x → X x W → W.heap[D]? = some (.deferred (some [])) → Code.ret.wpIn Fence.wide n P Q { a with defers := { target := .collected D, args := #[] } :: a.defers } W) :
    (Code.rangeFunc g ps assign body).wpIn Fence.wide n P Q a w := by
  refine wpIn_rangeFunc ?_
  intro fn hfn
  obtain ⟨rec, hrec⟩ : ∃ rec : LoopState → Option Code → Loop, rec = fun st pe => { state := st, pending := pe, fn, tmps := a.tmps, params := ps, assign, body, defers := w.heap.size } := ⟨_, rfl⟩
  obtain ⟨W1, hW1⟩ : ∃ W1, (w.alloc (.deferred (some []))).alloc (.loop (rec .ready none)) = W1 := ⟨_, rfl⟩
  have hL1 : W1.heap[w.heap.size + 1]? = some (.loop (rec .ready none)) := by
    rw [← hW1]
    have := World.alloc_heap_new (w.alloc (.deferred (some []))) (.loop (rec .ready none))
    rwa [World.size_alloc] at this
  have hD1 : W1.heap[w.heap.size]? = some (.deferred (some [])) := by
    rw [← hW1]
    exact (Below.heap_alloc _ _ _ (by simp)).trans (World.alloc_heap_new w _)
  have hbw : Below w.heap.size w W1 := by rw [← hW1]; exact ((Below.refl _ w).alloc (Nat.le_refl _) _).alloc (by simp) _
  refine ⟨w.heap.size + 1, [{ target := .collected w.heap.size, args := #[] }], W1, { target := .fn (.func gf) lb, args := #[.func (.yield (w.heap.size + 1)) #[] #[]] }, W1, gf,
    #[.func (.yield (w.heap.size + 1)) #[] #[]] ++ lb, W1, ?_, ?_, fun _ _ => trivial, ?_, fun h => (by simp [Fence.wide] at h), ?_⟩
  · rw [← hW1, hrec]
    exact run_enterLoop_outer _ _ _ _ _
  · simp only [resolve, hg]
    simp [go_sem]
  · simp [invoke, go_sem, eg]
  · refine callsIn_wide.2 ((range1_core hseq rec hrec (B := w.heap.size) (l := w.heap.size + 1) (W1 := W1) (by omega) (hb0.trans (hbw.mono hb0.size)) hL1 (some w.heap.size) (fun D e => by cases e; exact ⟨Nat.le_refl _, by omega, hD1⟩) hps X hX hKn a₁
      (hassign _) (fun x W W2 hW hk hr e => hbody _ x W2 (by omega) hr (by rw [e]; exact below_put (hbw.trans (hW.mono hbw.size)) (Nat.le_refl _) (by omega)) hk)).mono ?_)
    rintro e W' ⟨⟨v, rfl⟩, ⟨hno, hbl⟩ | ⟨x, hf, hx, hl, hd⟩⟩
    · have hl : W'.heap[w.heap.size + 1]? = some (.loop (rec .ready none)) := (hbl.block _ (Array.getElem?_eq_some_iff.1 hL1).1).trans hL1
      have hd : W'.heap[w.heap.size]? = some (.deferred (some [])) := (hbl.block _ (Array.getElem?_eq_some_iff.1 hD1).1).trans hD1
      have hend := run_endLoop (P := P) hl (by rw [hrec]; simp)
      rw [hrec] at hend
      exact ⟨none, _, hend, hnone _ _ (Nat.le_refl _) hno (below_put (hbw.trans (hbl.mono hbw.size)) (Nat.le_refl _) (by omega)) ((World.putObj_heap_other (by omega)).trans hd)⟩
    · have hend := run_endLoop (P := P) hl (by rw [hrec]; simp)
      rw [hrec] at hend
      exact ⟨some .ret, _, hend, hsome _ x _ (Nat.le_refl _) hf (hX.putObj _ hx (by omega) hl rfl) ((World.putObj_heap_other (by omega)).trans (hd _ rfl))⟩

/-- Within a round of loop l₀. -/
theorem range1_inner {α : Type} {g : Operand} {ps : Array Tmp} {assign body : Code} {Q : Exit → Act → World → Prop} {a : Act} {w : World} {n l₀ : Nat} {r₀ : Loop} (hl₀ : w.heap[l₀]? = some (.loop r₀))
    {gf : Nat} {lb : Array Value} (hg : a.eval g = .func (.func gf) #[] lb) (eg : ∀ args w, (callFunc gf args).run P w = .ok (.enter gf args) w)
    {encs : α → Array Value} {Kn : α → World → Prop} {no : Prop} {Fst : α → Prop} {w0 : World} (hseq : Gives1 P gf lb encs Kn no Fst w0) (hb0 : Below w0.heap.size w0 w) (hps : ∀ x, (encs x).size = ps.size)
    (X : α → World → Prop) (hX : OwnFrom w.heap.size X) (hKn : ∀ x, OwnFrom w.heap.size (fun (_ : Unit) W => Kn x W)) (a₁ : α → Act)
    (hassign : ∀ (l : Nat) (x : α) (W : World) (K : Act → World → Prop), K (a₁ x) W → assign.wpIn (Fence.wide.inRound l) 0 P (Exit.then K (fun _ _ _ => False)) { tmps := (ps.zip (encs x)).foldl (fun t (p, v) => t.setIfInBounds p v) a.tmps, defers := [] } W)
    (hbody : ∀ (l : Nat) (x : α) (W : World), w.heap.size ≤ l → (∃ r, W.heap[l]? = some (.loop r)) → Below w.heap.size w W → Kn x W → body.wpIn (Fence.wide.inRound l) 0 P (fun e _ W' => e = .ret ∧ KeepsFrom w.heap.size W W' ∧ X x W') (a₁ x) W)
    (hnone : ∀ (W : World), no → Below w.heap.size w W → Q .normal a W)
    (hsome : ∀ (x : α) (W : World), Fst x → X x W → Code.ret.wpIn (Fence.wide.inRound l₀) n P Q a W) :
    (Code.rangeFunc g ps assign body).wpIn (Fence.wide.inRound l₀) n P Q a w := by
  refine wpIn_rangeFunc ?_
  intro fn hfn
  obtain ⟨rec, hrec⟩ : ∃ rec : LoopState → Option Code → Loop, rec = fun st pe => { state := st, pending := pe, fn, tmps := a.tmps, params := ps, assign, body, defers := r₀.defers } := ⟨_, rfl⟩
  obtain ⟨W1, hW1⟩ : ∃ W1, w.alloc (.loop (rec .ready none)) = W1 := ⟨_, rfl⟩
  have hL1 : W1.heap[w.heap.size]? = some (.loop (rec .ready none)) := by rw [← hW1]; exact World.alloc_heap_new w _
  have hbw : Below w.heap.size w W1 := by rw [← hW1]; exact (Below.refl _ w).alloc (Nat.le_refl _) _
  refine ⟨w.heap.size, [], W1, { target := .fn (.func gf) lb, args := #[.func (.yield w.heap.size) #[] #[]] }, W1, gf,
    #[.func (.yield w.heap.size) #[] #[]] ++ lb, W1, ?_, ?_, fun _ _ => trivial, ?_, fun h => (by simp [Fence.wide] at h), ?_⟩
  · rw [← hW1, hrec]
    exact run_enterLoop_inner hl₀ _ _ _ _ _
  · simp only [resolve, hg]
    simp [go_sem]
  · simp [invoke, go_sem, eg]
  · refine CallsIn.inRound l₀ (callsIn_wide.2 ((range1_core hseq rec hrec (B := w.heap.size) (l := w.heap.size) (W1 := W1) (Nat.le_refl _) (hb0.trans (hbw.mono hb0.size)) hL1 none (fun D e => by cases e) hps X hX hKn a₁
      (hassign _) (fun x W W2 hW hk hr e => hbody _ x W2 (Nat.le_refl _) hr (by rw [e]; exact below_put (hbw.trans (hW.mono hbw.size)) (Nat.le_refl _) (Nat.le_refl _)) hk)).mono ?_))
    rintro e W' ⟨⟨v, rfl⟩, ⟨hno, hbl⟩ | ⟨x, hf, hx, hl, -⟩⟩
    · have hl : W'.heap[w.heap.size]? = some (.loop (rec .ready none)) := (hbl.block _ (Array.getElem?_eq_some_iff.1 hL1).1).trans hL1
      have hend := run_endLoop (P := P) hl (by rw [hrec]; simp)
      rw [hrec] at hend
      exact ⟨none, _, hend, hnone _ hno (below_put (hbw.trans (hbl.mono hbw.size)) (Nat.le_refl _) (Nat.le_refl _))⟩
    · have hend := run_endLoop (P := P) hl (by rw [hrec]; simp)
      rw [hrec] at hend
      exact ⟨some .ret, _, hend, hsome x _ hf (hX.putObj _ hx (Nat.le_refl _) hl rfl)⟩

/-! ### A region that draws its order, within a round: the plain laws serve -/
theorem rowsRound {l n : Nat} {row : String} {args : Array Value} {w : World} {R : Value → World → Prop} (h : Rows P row args w R) : RowsIn (Fence.wide.inRound l) n P row args w R :=
  fun c cs _ => let ⟨v, w', r, s⟩ := h c cs; ⟨v, w', r, stepsIn_wide.2 s⟩
theorem operRound {l n : Nat} {o : Oper} {a : Act} {w : World} {K : Act → World → Prop} {Q : Exit → Act → World → Prop} (hd : ∀ c, o.op ≠ .defer c) (hQ : ¬ LetsOut Q) (h : o.wp P a w K Q ∨ (o.asks P a w ∧ LetsOut Q)) : o.wpIn (Fence.wide.inRound l) n P a w K Q := by
  have h1 := h.resolve_right (fun h => hQ h.2)
  refine ⟨fun _ _ => trivial, ?_⟩
  unfold Oper.wp at h1
  rw [show (Fence.wide.inRound l).round = some l from rfl, Oper.semAt_some l _ o hd]
  generalize (execOp a.eval o).run P w = r at h1 ⊢
  cases r with
  | ok x w' =>
    cases x <;> simp only [Oper.upon, Oper.uponIn] at h1 ⊢ <;> first | exact h1 | exact ⟨fun h => (by cases h), CallsIn.inRound l (callsIn_wide.2 h1)⟩ | exact ⟨fun h => (by cases h), rowsRound h1⟩ | exact h1.elim
  | halt x w' => cases x <;> simp only [Oper.upon, Oper.uponIn] at h1 ⊢ <;> first | exact h1 | exact h1.elim
def noDefer (ops : Array Oper) : Bool := ops.toList.all fun o => match o.op with
  | .defer _ => false
  | _ => true
theorem noDefer_at {ops : Array Oper} (h : noDefer ops = true) {i : Nat} {o : Oper} (ho : ops[i]? = some o) : ∀ c, o.op ≠ .defer c := by
  intro c hc
  have h1 := List.all_eq_true.1 h o (by rw [← Array.getElem?_toList] at ho; exact List.mem_of_getElem? ho)
  rw [hc] at h1
  simp at h1
theorem opRound {l n : Nat} {ops : Array Oper} {Q : Exit → Act → World → Prop} {i : Nat} {K : Act → World → Prop} {a : Act} {w : World} (hd : noDefer ops = true) (hQ : ¬ LetsOut Q) (h : wpOp P ops Q i K a w) : wpOpIn (Fence.wide.inRound l) n P ops Q i K a w := by
  unfold wpOp at h
  unfold wpOpIn
  cases ho : ops[i]? with
  | none => rw [ho] at h; exact h
  | some o =>
    rw [ho] at h
    simp only at h ⊢
    split
    · rename_i hw
      rw [if_pos hw] at h
      exact operRound (noDefer_at hd ho) hQ h
    · rename_i hw
      rw [if_neg hw] at h
      exact ⟨fun _ _ => trivial, h⟩
theorem anyRound {l n : Nat} {md : Region.Mode} {ops : Array Oper} {Q : Exit → Act → World → Prop} (hd : noDefer ops = true) (hQ : ¬ LetsOut Q) : ∀ (fuel : Nat) (listed : Array Bool) (a : Act) (w : World), wpAny P md ops Q fuel listed a w → wpAnyIn (Fence.wide.inRound l) n P md ops Q fuel listed a w
  | 0, _, _, _, h => h
  | fuel + 1, _, _, _, h => ⟨h.1, fun i hi => opRound hd hQ (wpOp_mono (fun a' w' h' => anyRound hd hQ fuel _ a' w' h') (h.2 i hi))⟩
/-- A region ends normally. -/
def OnlyNormal (Q : Exit → Act → World → Prop) : Exit → Act → World → Prop
  | .normal, a, w => Q .normal a w
  | _, _, _ => False
theorem onlyNormal_mk {Q : Exit → Act → World → Prop} {a : Act} {w : World} (h : Q .normal a w) : OnlyNormal Q .normal a w := h
/-- The beginning: S is shown of the world behind the draw, once. -/
theorem region_round {l n id : Nat} {ops : Array Oper} {Q : Exit → Act → World → Prop} {S : World → Prop} {a : Act} {w : World} (hm : P.follows .mixedOrders = true) (hd : noDefer ops = true) (hS : S w.drew)
    (h : S w.drew → wpAnyH P .any ops (OnlyNormal Q) S ops.size (Array.replicate ops.size false) a w.drew) : (Code.region id ops true).wpIn (Fence.wide.inRound l) n P Q a w := by
  refine wpIn_mono (Q := OnlyNormal Q) (wpIn_region_any hm (anyRound hd ?_ _ _ _ _ (wpAny_of_held _ _ _ _ (h hS)))) ?_
  · rintro ⟨_, _, h⟩
    exact h
  · intro e a w h
    cases e <;> first | exact h | exact (h : False).elim

end Go.Proofs.YtdgihkmiolnglaaGreatDoor
