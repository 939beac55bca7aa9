/- The simulation of impl.simulated in memory: the schedule under way, the work that is left, the heap; and what is ready at a time. -/
import Derived.Test.YtdhdodmpfbgliaaDoorHeaps
import Derived.Test.YtdhdodmpfbgliaaDoorRepeat
import Derived.Test.YtdhdodmpfbgliaaDoorRunAll
namespace Go.Proofs.YtdhdodmpfbgliaaDoor
open Go.RowKit Go.Deep

/-- The blocks lie in this order: the result (w's end), s.Run, s.Finish, the schedule S, the work left, the heap R, its slice. -/
structure ST (w : World) (s1 S R : Nat) (cb : Value) (n : Nat) (wr : World) (vr vf vl vh : Value) (m : Nat) (fr ff fl : Nat → Int) (f : Nat → Nat) : Prop where
  r0 : wr.cell? ⟨w.heap.size, 0, none⟩ = some (.slice none 0 0)
  r1 : wr.cell? ⟨w.heap.size, 1, none⟩ = some (.slice none 0 0)
  g0 : wr.frozen? ⟨w.heap.size, 0, none⟩ = false
  g1 : wr.frozen? ⟨w.heap.size, 1, none⟩ = false
  c0 : wr.cell? ⟨S, 0, none⟩ = some vr
  c1 : wr.cell? ⟨S, 1, none⟩ = some vf
  or : OwnI wr w.heap.size vr 120 fr
  of : OwnI wr w.heap.size vf n ff
  ol : OwnI wr w.heap.size vl n fl
  hs : HS w R cb n wr vh m f
  lr : ∀ k, vr.ownBlock = some k → w.heap.size < k ∧ k < s1
  lf : ∀ k, vf.ownBlock = some k → s1 ≤ k ∧ k < S
  ll : ∀ k, vl.ownBlock = some k → S < k ∧ k < R
  lh : ∀ k, vh.ownBlock = some k → R < k
  o1 : w.heap.size < s1
  o2 : s1 ≤ S
  o3 : S < R
variable {w wr w' : World} {s1 S R n m m' : Nat} {cb vr vf vl vh vh' : Value} {fr ff fl : Nat → Int} {f f' : Nat → Nat}
theorem ST.R_lt (h : ST w s1 S R cb n wr vr vf vl vh m fr ff fl f) : R < wr.heap.size := h.hs.R_lt
/-- The heap has turned, nothing else. -/
theorem ST.heap (h : ST w s1 S R cb n wr vr vf vl vh m fr ff fl f) (hc : Chg R vh.ownBlock wr w') (hs : HS w R cb n w' vh' m' f') (hp : vh'.ownBlock = vh.ownBlock ∨ ∃ k, vh'.ownBlock = some k ∧ wr.heap.size ≤ k) :
    ST w s1 S R cb n w' vr vf vl vh' m' fr ff fl f' := by
  have hR := h.R_lt
  have o1 := h.o1
  have o2 := h.o2
  have o3 := h.o3
  have hc' : ∀ b j, b < R → w'.cell? ⟨b, j, none⟩ = wr.cell? ⟨b, j, none⟩ ∧ w'.frozen? ⟨b, j, none⟩ = wr.frozen? ⟨b, j, none⟩ := fun b j hb =>
    hc.cell (p := ⟨b, j, none⟩) (show b < _ by omega) (show b ≠ R by omega) (fun e => by have := h.lh b e.symm; omega)
  have far : ∀ {v : Value}, (∀ k, v.ownBlock = some k → k < R) → v.ownBlock ≠ some R ∧ ∀ k, v.ownBlock = some k → vh.ownBlock ≠ some k := fun hv =>
    ⟨fun e => by have := hv R e; omega, fun k hk e => by have := hv k hk; have := h.lh k e; omega⟩
  have fr1 := far (v := vr) fun k hk => by have := h.lr k hk; omega
  have ff1 := far (v := vf) fun k hk => by have := h.lf k hk; omega
  have fl1 := far (v := vl) fun k hk => by have := h.ll k hk; omega
  exact ⟨(hc' _ 0 (by omega)).1.trans h.r0, (hc' _ 1 (by omega)).1.trans h.r1, (hc' _ 0 (by omega)).2.trans h.g0, (hc' _ 1 (by omega)).2.trans h.g1,
    (hc' _ 0 (by omega)).1.trans h.c0, (hc' _ 1 (by omega)).1.trans h.c1, h.or.chg hc fr1.1 fr1.2, h.of.chg hc ff1.1 ff1.2, h.ol.chg hc fl1.1 fl1.2, hs, h.lr, h.lf, h.ll,
    fun k hk => hp.elim (fun e => h.lh k (e ▸ hk)) (fun ⟨k', e, hk'⟩ => by rw [e] at hk; cases hk; omega), o1, o2, o3⟩
/-- A store into one of the slices s.Run, s.Finish, left (block g, below R, and neither the result nor the schedule). -/
theorem ST.store (h : ST w s1 S R cb n wr vr vf vl vh m fr ff fl f) {g : Nat} (k : Nat) (x : Value) (hg : w.heap.size < g) (hgR : g < R) (hgS : g ≠ S) :
    (∀ b j, b = w.heap.size ∨ b = S → (wr.setCell ⟨g, k, none⟩ x).cell? ⟨b, j, none⟩ = wr.cell? ⟨b, j, none⟩ ∧ (wr.setCell ⟨g, k, none⟩ x).frozen? ⟨b, j, none⟩ = wr.frozen? ⟨b, j, none⟩) ∧ HS w R cb n (wr.setCell ⟨g, k, none⟩ x) vh m f := by
  refine ⟨fun b j hb => ?_, h.hs.other x (show w.heap.size ≤ g by omega) (show g ≠ R by omega) (fun e => by have := h.lh g e; omega)⟩
  have e := Below.heap_setCell wr ⟨g, k, none⟩ x b (show b ≠ g by rcases hb with rfl | rfl <;> omega)
  exact ⟨World.cell?_of_block (a := ⟨b, j, none⟩) e, World.frozen?_of_block (a := ⟨b, j, none⟩) e⟩
theorem ST.setR {g cap k : Nat} (h : ST w s1 S R cb n wr (.slice (some ⟨g, 0, none⟩) 120 cap) vf vl vh m fr ff fl f) (hk : k < 120) (x : Int) :
    ST w s1 S R cb n (wr.setCell ⟨g, k, none⟩ (.int .i64 x)) (.slice (some ⟨g, 0, none⟩) 120 cap) vf vl vh m (fun j => if j = k then x else fr j) ff fl f := by
  have hg := h.lr g rfl
  have o2 := h.o2
  have o3 := h.o3
  obtain ⟨hc, hs⟩ := h.store k (.int .i64 x) hg.1 (by omega) (by omega)
  exact ⟨(hc _ 0 (.inl rfl)).1.trans h.r0, (hc _ 1 (.inl rfl)).1.trans h.r1, (hc _ 0 (.inl rfl)).2.trans h.g0, (hc _ 1 (.inl rfl)).2.trans h.g1, (hc _ 0 (.inr rfl)).1.trans h.c0, (hc _ 1 (.inr rfl)).1.trans h.c1,
    h.or.set hk x, h.of.other (fun e => by have := h.lf g e; omega), h.ol.other (fun e => by have := h.ll g e; omega), hs, h.lr, h.lf, h.ll, h.lh, h.o1, o2, o3⟩
theorem ST.setF {g cap k : Nat} (h : ST w s1 S R cb n wr vr (.slice (some ⟨g, 0, none⟩) n cap) vl vh m fr ff fl f) (hk : k < n) (x : Int) :
    ST w s1 S R cb n (wr.setCell ⟨g, k, none⟩ (.int .i64 x)) vr (.slice (some ⟨g, 0, none⟩) n cap) vl vh m fr (fun j => if j = k then x else ff j) fl f := by
  have hg := h.lf g rfl
  have o1 := h.o1
  have o3 := h.o3
  obtain ⟨hc, hs⟩ := h.store (g := g) k (.int .i64 x) (by omega) (by omega) (by omega)
  exact ⟨(hc _ 0 (.inl rfl)).1.trans h.r0, (hc _ 1 (.inl rfl)).1.trans h.r1, (hc _ 0 (.inl rfl)).2.trans h.g0, (hc _ 1 (.inl rfl)).2.trans h.g1, (hc _ 0 (.inr rfl)).1.trans h.c0, (hc _ 1 (.inr rfl)).1.trans h.c1,
    h.or.other (fun e => by have := h.lr g e; omega), h.of.set hk x, h.ol.other (fun e => by have := h.ll g e; omega), hs, h.lr, h.lf, h.ll, h.lh, o1, h.o2, o3⟩
theorem ST.setL {g cap k : Nat} (h : ST w s1 S R cb n wr vr vf (.slice (some ⟨g, 0, none⟩) n cap) vh m fr ff fl f) (hk : k < n) (x : Int) :
    ST w s1 S R cb n (wr.setCell ⟨g, k, none⟩ (.int .i64 x)) vr vf (.slice (some ⟨g, 0, none⟩) n cap) vh m fr ff (fun j => if j = k then x else fl j) f := by
  have hg := h.ll g rfl
  have o1 := h.o1
  have o2 := h.o2
  obtain ⟨hc, hs⟩ := h.store (g := g) k (.int .i64 x) (by omega) (by omega) (by omega)
  exact ⟨(hc _ 0 (.inl rfl)).1.trans h.r0, (hc _ 1 (.inl rfl)).1.trans h.r1, (hc _ 0 (.inl rfl)).2.trans h.g0, (hc _ 1 (.inl rfl)).2.trans h.g1, (hc _ 0 (.inr rfl)).1.trans h.c0, (hc _ 1 (.inr rfl)).1.trans h.c1,
    h.or.other (fun e => by have := h.lr g e; omega), h.of.other (fun e => by have := h.lf g e; omega), h.ol.set hk x, hs, h.lr, h.lf, h.ll, h.lh, o1, o2, h.o3⟩
theorem ST.congr {fr' ff' fl' : Nat → Int} (h : ST w s1 S R cb n wr vr vf vl vh m fr ff fl f) (e1 : ∀ k, k < 120 → fr k = fr' k) (e2 : ∀ k, k < n → ff k = ff' k) (e3 : ∀ k, k < n → fl k = fl' k) : ST w s1 S R cb n wr vr vf vl vh m fr' ff' fl' f :=
  { h with or := h.or.congr e1, of := h.of.congr e2, ol := h.ol.congr e3 }

/-! ### What is ready -/
/-- At time t the heap holds the released, unfinished jobs among the first nx; the others are released at t or later. -/
structure Rdy (P : Pat) (K : Nat → Nat) (t nx m : Nat) (f : Nat → Nat) : Prop where
  le : nx ≤ P.n
  mle : m ≤ nx
  past : ∀ k, k < nx → P.rel k ≤ t
  next : ∀ k, nx ≤ k → k < P.n → t ≤ P.rel k
  inj : ∀ a b, a < m → b < m → f a = f b → a = b
  mem : ∀ x, (∃ k, k < m ∧ f k = x) ↔ x < nx ∧ 0 < P.left t x
  ok : HeapOk K f m
theorem Rdy.start {P : Pat} (K f : Nat → Nat) : Rdy P K 0 0 0 f :=
  ⟨Nat.zero_le _, Nat.le_refl _, fun _ hk => absurd hk (Nat.not_lt_zero _), fun _ _ _ => Nat.zero_le _, fun _ _ ha => absurd ha (Nat.not_lt_zero _), fun _ => ⟨fun ⟨_, hk, _⟩ => absurd hk (Nat.not_lt_zero _), fun ⟨h, _⟩ => absurd h (Nat.not_lt_zero _)⟩, fun _ _ hc => absurd hc (Nat.not_lt_zero _)⟩
theorem left_unreleased (P : Pat) {t x : Nat} (h : t ≤ P.rel x) : P.left t x = P.ex x := by
  induction t with
  | zero => rfl
  | succ t ih =>
    rw [P.left_succ, if_neg]
    · exact ih (by omega)
    · intro hr
      have := (Pat.run_pos hr).2.1
      omega
variable {P : Pat} {K : Nat → Nat} {t nx : Nat}
theorem Rdy.push (h : Rdy P K t nx m f) (hn : nx < P.n) (hr : P.rel nx = t) (hx : 1 ≤ P.ex nx) (hm : Mixed (m + 1) (atEnd f m nx) f') (hk : HeapOk K f' (m + 1)) : Rdy P K t (nx + 1) (m + 1) f' := by
  have hin : ∀ k, k < m → f k < nx := fun k hk => ((h.mem (f k)).1 ⟨k, hk, rfl⟩).1
  have ea : ∀ k, k < m → atEnd f m nx k = f k := fun k hk => if_neg (by omega)
  have en : atEnd f m nx m = nx := if_pos rfl
  refine ⟨hn, by have := h.mle; omega, fun k hk => ?_, fun k hk hk' => h.next k (by omega) hk', hm.inj fun a b ha hb e => ?_, fun x => ?_, hk⟩
  · by_cases e : k = nx
    · subst e; omega
    · exact h.past k (by omega)
  · by_cases e1 : a = m
    · by_cases e2 : b = m
      · omega
      · rw [e1, en, ea b (by omega)] at e
        have := hin b (by omega)
        omega
    · by_cases e2 : b = m
      · rw [e2, en, ea a (by omega)] at e
        have := hin a (by omega)
        omega
      · rw [ea a (by omega), ea b (by omega)] at e
        exact h.inj a b (by omega) (by omega) e
  · have hl : P.left t nx = P.ex nx := left_unreleased P (by omega)
    constructor
    · rintro ⟨k, hk, rfl⟩
      obtain ⟨q, hq, e⟩ := hm.fro k hk
      by_cases e1 : q = m
      · rw [← e, e1, en]
        exact ⟨by omega, by omega⟩
      · rw [← e, ea q (by omega)]
        have := (h.mem (f q)).1 ⟨q, by omega, rfl⟩
        exact ⟨by omega, this.2⟩
    · rintro ⟨h1, h2⟩
      by_cases e : x = nx
      · subst e
        obtain ⟨q, hq, e⟩ := hm.to m (by omega)
        exact ⟨q, hq, e.trans en⟩
      · obtain ⟨k, hk, e⟩ := (h.mem x).2 ⟨by omega, h2⟩
        obtain ⟨q, hq, e'⟩ := hm.to k (by omega)
        exact ⟨q, hq, e'.trans ((ea k hk).trans e)⟩
/-- All that is released at t lies in the heap. -/
def Full (P : Pat) (t nx : Nat) : Prop := ∀ k, nx ≤ k → k < P.n → t < P.rel k
theorem Rdy.none (h : Rdy P K t nx 0 f) (hf : Full P t nx) : P.run t = none := by
  cases hr : P.run t with
  | none => rfl
  | some b =>
    obtain ⟨h1, h2, h3⟩ := Pat.run_pos hr
    have hb : b < nx := by
      rcases Nat.lt_or_ge b nx with e | e
      · exact e
      · have := hf b e h1; omega
    obtain ⟨k, hk, _⟩ := (h.mem b).2 ⟨hb, h3⟩
    exact absurd hk (Nat.not_lt_zero _)
theorem Rdy.top (h : Rdy P K t nx (m + 1) f) (hf : Full P t nx) (hK : ∀ x y, x < P.n → y < P.n → (K x < K y ↔ P.key x < P.key y ∨ (P.key x = P.key y ∧ x < y))) : P.run t = some (f 0) := by
  obtain ⟨h0, hl0⟩ := (h.mem (f 0)).1 ⟨0, by omega, rfl⟩
  have hle := h.le
  cases hr : P.run t with
  | none => exact absurd ⟨h.past _ h0, hl0⟩ (best_none hr (f 0) (by omega))
  | some b =>
    obtain ⟨h1, h2, h3, h4⟩ := best_some hr
    have hb : b < nx := by
      rcases Nat.lt_or_ge b nx with e | e
      · exact e
      · have := hf b e h1; omega
    obtain ⟨k, hk, rfl⟩ := (h.mem b).2 ⟨hb, h3⟩
    have hle' := h.ok.top k hk
    have h5 := h4 (f 0) (by omega) (h.past _ h0) hl0
    by_cases e : f k = f 0
    · rw [e]
    · exfalso
      have : K (f k) < K (f 0) := (hK _ _ h1 (by omega)).2 (h5.imp id fun ⟨e1, e2⟩ => ⟨e1, by omega⟩)
      omega
theorem Rdy.idle (h : Rdy P K t nx m f) (hf : Full P t nx) (hr : P.run t = Option.none) : Rdy P K (t + 1) nx m f :=
  ⟨h.le, h.mle, fun k hk => by have := h.past k hk; omega, fun k h1 h2 => hf k h1 h2, h.inj, fun x => by rw [P.left_succ, if_neg (by rw [hr]; simp)]; exact h.mem x, h.ok⟩
theorem Rdy.stay (h : Rdy P K t nx m f) (hf : Full P t nx) {b : Nat} (hr : P.run t = some b) (hl : 2 ≤ P.left t b) : Rdy P K (t + 1) nx m f :=
  ⟨h.le, h.mle, fun k hk => by have := h.past k hk; omega, fun k h1 h2 => hf k h1 h2, h.inj, fun x => by
    rw [h.mem x, P.left_succ]
    by_cases e : P.run t = some x
    · rw [if_pos e]
      rw [hr] at e
      cases e
      omega
    · rw [if_neg e], h.ok⟩
theorem Rdy.pop (h : Rdy P K t nx (m + 1) f) (hf : Full P t nx) (hr : P.run t = some (f 0)) (hl : P.left t (f 0) = 1) (hm : Mixed m (swp f 0 m) f') (hk : HeapOk K f' m) : Rdy P K (t + 1) nx m f' := by
  obtain ⟨i1, i2⟩ := hm.popped h.inj
  refine ⟨h.le, by have := h.mle; omega, fun k hk => by have := h.past k hk; omega, fun k h1 h2 => hf k h1 h2, i1, fun x => ?_, hk⟩
  rw [i2 x, h.mem x, P.left_succ]
  by_cases e : f 0 = x
  · subst e
    rw [if_pos hr, hl]
    simp
  · rw [if_neg (by rw [hr]; simpa using e)]
    exact ⟨fun ⟨a, _⟩ => a, fun a => ⟨a, fun e' => e e'.symm⟩⟩

end Go.Proofs.YtdhdodmpfbgliaaDoor
