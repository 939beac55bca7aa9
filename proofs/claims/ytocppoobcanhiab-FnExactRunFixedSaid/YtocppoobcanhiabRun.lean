/- Contracts of spec.l3Run and spec.RunEdf: the simulation of earliest deadline first. Conditions: the slices hold what is said, at most 60 jobs. -/
import Derived.Test.YtocppoobcanhiabIntsB
namespace Go.Proofs.Ytocppoobcanhiab
open Go.RowKit Go.Deep

/-- The schedule under way: block B is the result, B + 1 the schedule; its slices and the work that is left lie above. -/
structure SB (B : Nat) (w wr : World) (vr vf vl : Value) (nr nf nl : Nat) (fr ff fl : Nat → Int) : Prop where
  r0 : wr.cell? ⟨B, 0, none⟩ = some (.slice none 0 0)
  r1 : wr.cell? ⟨B, 1, none⟩ = some (.slice none 0 0)
  g0 : wr.frozen? ⟨B, 0, none⟩ = false
  g1 : wr.frozen? ⟨B, 1, none⟩ = false
  c0 : wr.cell? ⟨B + 1, 0, none⟩ = some vr
  c1 : wr.cell? ⟨B + 1, 1, none⟩ = some vf
  f0 : wr.frozen? ⟨B + 1, 0, none⟩ = false
  f1 : wr.frozen? ⟨B + 1, 1, none⟩ = false
  ol : OwnI wr (B + 2) vl nl fl
  of : OwnI wr (B + 2) vf nf ff
  or : OwnI wr (B + 2) vr nr fr
  a1 : Apart vl vf
  a2 : Apart vl vr
  a3 : Apart vf vr
  bl : Below B w wr
  sz : B + 2 ≤ wr.heap.size
variable {B : Nat} {w wr w' : World} {vr vf vl : Value} {nr nf nl : Nat} {fr ff fl : Nat → Int}
theorem SB.below (h : SB B w wr vr vf vl nr nf nl fr ff fl) (hb : Below wr.heap.size wr w') : SB B w w' vr vf vl nr nf nl fr ff fl := by
  have hs := h.sz
  have hc : ∀ j, (w'.cell? ⟨B, j, none⟩ = wr.cell? ⟨B, j, none⟩ ∧ w'.frozen? ⟨B, j, none⟩ = wr.frozen? ⟨B, j, none⟩) ∧ w'.cell? ⟨B + 1, j, none⟩ = wr.cell? ⟨B + 1, j, none⟩ ∧ w'.frozen? ⟨B + 1, j, none⟩ = wr.frozen? ⟨B + 1, j, none⟩ := fun j =>
    ⟨⟨hb.cell (p := ⟨B, j, none⟩) (by simp; omega), hb.frozen (p := ⟨B, j, none⟩) (by simp; omega)⟩, hb.cell (p := ⟨B + 1, j, none⟩) (by simp; omega), hb.frozen (p := ⟨B + 1, j, none⟩) (by simp; omega)⟩
  exact ⟨(hc 0).1.1.trans h.r0, (hc 1).1.1.trans h.r1, (hc 0).1.2.trans h.g0, (hc 1).1.2.trans h.g1, (hc 0).2.1.trans h.c0, (hc 1).2.1.trans h.c1, (hc 0).2.2.trans h.f0, (hc 1).2.2.trans h.f1,
    h.ol.below hb, h.of.below hb, h.or.below hb, h.a1, h.a2, h.a3, h.bl.trans (hb.mono (by omega)), Nat.le_trans hs hb.size⟩
/-- What turns only a block above leaves the two struct blocks as they are. -/
theorem SB.cells (h : SB B w wr vr vf vl nr nf nl fr ff fl) {row : Option Nat} (hg : wr.grownBy w' row) (hr : ∀ k, row = some k → B + 2 ≤ k) :
    (w'.cell? ⟨B, 0, none⟩ = some (.slice none 0 0) ∧ w'.cell? ⟨B, 1, none⟩ = some (.slice none 0 0) ∧ w'.frozen? ⟨B, 0, none⟩ = false ∧ w'.frozen? ⟨B, 1, none⟩ = false) ∧
    w'.cell? ⟨B + 1, 0, none⟩ = some vr ∧ w'.cell? ⟨B + 1, 1, none⟩ = some vf ∧ w'.frozen? ⟨B + 1, 0, none⟩ = false ∧ w'.frozen? ⟨B + 1, 1, none⟩ = false := by
  have hs := h.sz
  have hn : ∀ b, b < B + 2 → w'.heap[b]? = wr.heap[b]? := fun b hb => hg.block b (by omega) (fun e => by have := hr b e.symm; omega)
  have hc : ∀ b j, b < B + 2 → w'.cell? ⟨b, j, none⟩ = wr.cell? ⟨b, j, none⟩ ∧ w'.frozen? ⟨b, j, none⟩ = wr.frozen? ⟨b, j, none⟩ := fun b j hb => ⟨World.cell?_of_block (a := ⟨b, j, none⟩) (hn b hb), World.frozen?_of_block (a := ⟨b, j, none⟩) (hn b hb)⟩
  exact ⟨⟨(hc B 0 (by omega)).1.trans h.r0, (hc B 1 (by omega)).1.trans h.r1, (hc B 0 (by omega)).2.trans h.g0, (hc B 1 (by omega)).2.trans h.g1⟩,
    (hc (B + 1) 0 (by omega)).1.trans h.c0, (hc (B + 1) 1 (by omega)).1.trans h.c1, (hc (B + 1) 0 (by omega)).2.trans h.f0, (hc (B + 1) 1 (by omega)).2.trans h.f1⟩
theorem Apart.push {W : World} {v v' u : Value} (ha : Apart v u) (hp : v'.ownBlock = v.ownBlock ∨ v'.ownBlock = some W.heap.size) (hu : ∀ k, u.ownBlock = some k → k < W.heap.size) : Apart v' u := by
  intro k hk hku
  rcases hp with e | e
  · exact ha k (e ▸ hk) hku
  · rw [e] at hk
    have := hu k hku
    simp only [Option.some.injEq] at hk
    omega
/-- left = append(left, x). -/
theorem SB.pushL {v' : Value} {x : Int} (h : SB B w wr vr vf vl nr nf nl fr ff fl) (ho : w'.ownsRow (B + 2) 3 1 v' (nl + 1) (vals fl nl ++ [.int .i64 x])) (hx : x = fl nl) (hg : wr.grownBy w' vl.ownBlock) (hp : v'.ownBlock = vl.ownBlock ∨ v'.ownBlock = some wr.heap.size) :
    SB B w w' vr vf v' nr nf (nl + 1) fr ff fl := by
  obtain ⟨⟨r0, r1, g0, g1⟩, c0, c1, f0, f1⟩ := h.cells hg (fun k hk => (h.ol.lt k hk).1)
  refine ⟨r0, r1, g0, g1, c0, c1, f0, f1, ?_, h.of.grown hg h.a1.symm, h.or.grown hg h.a2.symm, h.a1.push hp (fun k hk => (h.of.lt k hk).2), h.a2.push hp (fun k hk => (h.or.lt k hk).2), h.a3, h.bl.grown hg (by have := h.sz; omega) (fun k hk => by have := (h.ol.lt k hk).1; omega), Nat.le_trans h.sz hg.size⟩
  unfold OwnI
  rw [vals_succ, ← hx]
  exact ho
/-- s.Finish = append(s.Finish, x). -/
theorem SB.pushF {v' : Value} {x : Int} (h : SB B w wr vr vf vl nr nf nl fr ff fl) (ho : w'.ownsRow (B + 2) 3 1 v' (nf + 1) (vals ff nf ++ [.int .i64 x])) (hx : x = ff nf) (hg : wr.grownBy w' vf.ownBlock) (hp : v'.ownBlock = vf.ownBlock ∨ v'.ownBlock = some wr.heap.size) :
    SB B w (w'.setCell ⟨B + 1, 1, none⟩ v') vr v' vl nr (nf + 1) nl fr ff fl := by
  obtain ⟨⟨r0, r1, g0, g1⟩, c0, c1, f0, f1⟩ := h.cells hg (fun k hk => (h.of.lt k hk).1)
  have ol := h.ol.grown hg h.a1
  have or := h.or.grown hg h.a3.symm
  have of : OwnI w' (B + 2) v' (nf + 1) ff := by
    unfold OwnI
    rw [vals_succ, ← hx]
    exact ho
  refine ⟨by simp [go_sem, r0], by simp [go_sem, r1], by simp [go_sem, g0], by simp [go_sem, g1], by simp [go_sem, c0], by simp [go_sem, c1], by simp [go_sem, f0], by simp [go_sem, f1], ol.other fun e => ?_, of.other fun e => ?_, or.other fun e => ?_, (h.a1.symm.push hp (fun k hk => (h.ol.lt k hk).2)).symm, h.a2, h.a3.push hp (fun k hk => (h.or.lt k hk).2),
    (h.bl.grown hg (by have := h.sz; omega) (fun k hk => by have := (h.of.lt k hk).1; omega)).setCell (by simp) _, by have := h.sz; have := hg.size; simp [World.setCell]; omega⟩
  · have := (ol.lt _ e).1; simp at this
  · have := (of.lt _ e).1; simp at this
  · have := (or.lt _ e).1; simp at this
/-- s.Run = append(s.Run, x). -/
theorem SB.pushR {v' : Value} {x : Int} (h : SB B w wr vr vf vl nr nf nl fr ff fl) (ho : w'.ownsRow (B + 2) 3 1 v' (nr + 1) (vals fr nr ++ [.int .i64 x])) (hx : x = fr nr) (hg : wr.grownBy w' vr.ownBlock) (hp : v'.ownBlock = vr.ownBlock ∨ v'.ownBlock = some wr.heap.size) :
    SB B w (w'.setCell ⟨B + 1, 0, none⟩ v') v' vf vl (nr + 1) nf nl fr ff fl := by
  obtain ⟨⟨r0, r1, g0, g1⟩, c0, c1, f0, f1⟩ := h.cells hg (fun k hk => (h.or.lt k hk).1)
  have ol := h.ol.grown hg h.a2
  have of := h.of.grown hg h.a3
  have or : OwnI w' (B + 2) v' (nr + 1) fr := by
    unfold OwnI
    rw [vals_succ, ← hx]
    exact ho
  refine ⟨by simp [go_sem, r0], by simp [go_sem, r1], by simp [go_sem, g0], by simp [go_sem, g1], by simp [go_sem, c0], by simp [go_sem, c1], by simp [go_sem, f0], by simp [go_sem, f1], ol.other fun e => ?_, of.other fun e => ?_, or.other fun e => ?_, h.a1, (h.a2.symm.push hp (fun k hk => (h.ol.lt k hk).2)).symm, (h.a3.symm.push hp (fun k hk => (h.of.lt k hk).2)).symm,
    (h.bl.grown hg (by have := h.sz; omega) (fun k hk => by have := (h.or.lt k hk).1; omega)).setCell (by simp) _, by have := h.sz; have := hg.size; simp [World.setCell]; omega⟩
  · have := (ol.lt _ e).1; simp at this
  · have := (of.lt _ e).1; simp at this
  · have := (or.lt _ e).1; simp at this
/-- left[k] = x. -/
theorem SB.setL {g cap k : Nat} (h : SB B w wr vr vf (.slice (some ⟨g, 0, none⟩) nl cap) nr nf nl fr ff fl) (hk : k < nl) (x : Int) :
    SB B w (wr.setCell ⟨g, k, none⟩ (.int .i64 x)) vr vf (.slice (some ⟨g, 0, none⟩) nl cap) nr nf nl fr ff (fun j => if j = k then x else fl j) := by
  have hg := (h.ol.lt g rfl).1
  have hne : ∀ b j, b < B + 2 → (wr.setCell ⟨g, k, none⟩ (.int .i64 x)).cell? ⟨b, j, none⟩ = wr.cell? ⟨b, j, none⟩ ∧ (wr.setCell ⟨g, k, none⟩ (.int .i64 x)).frozen? ⟨b, j, none⟩ = wr.frozen? ⟨b, j, none⟩ := fun b j hb =>
    have e := Below.heap_setCell wr ⟨g, k, none⟩ (.int .i64 x) b (by simp; omega)
    ⟨World.cell?_of_block (a := ⟨b, j, none⟩) e, World.frozen?_of_block (a := ⟨b, j, none⟩) e⟩
  exact ⟨(hne B 0 (by omega)).1.trans h.r0, (hne B 1 (by omega)).1.trans h.r1, (hne B 0 (by omega)).2.trans h.g0, (hne B 1 (by omega)).2.trans h.g1, (hne (B + 1) 0 (by omega)).1.trans h.c0, (hne (B + 1) 1 (by omega)).1.trans h.c1, (hne (B + 1) 0 (by omega)).2.trans h.f0, (hne (B + 1) 1 (by omega)).2.trans h.f1,
    h.ol.set hk x, h.of.other (h.a1 g rfl), h.or.other (h.a2 g rfl), h.a1, h.a2, h.a3, h.bl.setCell (by simp; omega) _, by have := h.sz; simpa [World.setCell] using this⟩
/-- s.Finish[k] = x. -/
theorem SB.setF {g cap k : Nat} (h : SB B w wr vr (.slice (some ⟨g, 0, none⟩) nf cap) vl nr nf nl fr ff fl) (hk : k < nf) (x : Int) :
    SB B w (wr.setCell ⟨g, k, none⟩ (.int .i64 x)) vr (.slice (some ⟨g, 0, none⟩) nf cap) vl nr nf nl fr (fun j => if j = k then x else ff j) fl := by
  have hg := (h.of.lt g rfl).1
  have hne : ∀ b j, b < B + 2 → (wr.setCell ⟨g, k, none⟩ (.int .i64 x)).cell? ⟨b, j, none⟩ = wr.cell? ⟨b, j, none⟩ ∧ (wr.setCell ⟨g, k, none⟩ (.int .i64 x)).frozen? ⟨b, j, none⟩ = wr.frozen? ⟨b, j, none⟩ := fun b j hb =>
    have e := Below.heap_setCell wr ⟨g, k, none⟩ (.int .i64 x) b (by simp; omega)
    ⟨World.cell?_of_block (a := ⟨b, j, none⟩) e, World.frozen?_of_block (a := ⟨b, j, none⟩) e⟩
  exact ⟨(hne B 0 (by omega)).1.trans h.r0, (hne B 1 (by omega)).1.trans h.r1, (hne B 0 (by omega)).2.trans h.g0, (hne B 1 (by omega)).2.trans h.g1, (hne (B + 1) 0 (by omega)).1.trans h.c0, (hne (B + 1) 1 (by omega)).1.trans h.c1, (hne (B + 1) 0 (by omega)).2.trans h.f0, (hne (B + 1) 1 (by omega)).2.trans h.f1,
    h.ol.other (h.a1.symm g rfl), h.of.set hk x, h.or.other (h.a3 g rfl), h.a1, h.a2, h.a3, h.bl.setCell (by simp; omega) _, by have := h.sz; simpa [World.setCell] using this⟩
theorem SB.congr {fr' ff' fl' : Nat → Int} (h : SB B w wr vr vf vl nr nf nl fr ff fl) (e1 : ∀ k, k < nr → fr k = fr' k) (e2 : ∀ k, k < nf → ff k = ff' k) (e3 : ∀ k, k < nl → fl k = fl' k) : SB B w wr vr vf vl nr nf nl fr' ff' fl' :=
  { h with ol := h.ol.congr e3, of := h.of.congr e2, or := h.or.congr e1 }

end Go.Proofs.Ytocppoobcanhiab
