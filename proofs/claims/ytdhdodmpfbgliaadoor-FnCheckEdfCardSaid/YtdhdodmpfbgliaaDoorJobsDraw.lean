/- What spec.l20Jobs keeps while it draws jobs: the reader, the jobs so far, the row of next releases; legal so far. -/
import Derived.Test.YtdhdodmpfbgliaaDoorMem
import Derived.Test.YtdhdodmpfbgliaaDoorRunAll
namespace Go.Proofs.YtdhdodmpfbgliaaDoor
open Go.RowKit Go.Deep

/-- The jobs o, drawn up to task i at time t, are legal. -/
structure LegS (ts : List T3) (t i : Nat) (o : List J4) : Prop where
  len : o.length ≤ 60
  leg : ∀ k, k < o.length → Leg1 ts o k
  last : ∀ k, k < o.length → (jb o k).2.1 < t ∨ ((jb o k).2.1 = t ∧ (jb o k).1 < i)
theorem LegS.start (ts : List T3) : LegS ts 0 0 [] := ⟨by simp, fun k hk => absurd hk (Nat.not_lt_zero _), fun k hk => absurd hk (Nat.not_lt_zero _)⟩
theorem LegS.next {ts : List T3} {t i : Nat} {o : List J4} (h : LegS ts t i o) : LegS ts (t + 1) 0 o :=
  ⟨h.len, h.leg, fun k hk => by
    rcases h.last k hk with e | ⟨e, _⟩
    · exact .inl (by omega)
    · exact .inl (by omega)⟩
theorem LegS.skip {ts : List T3} {t i : Nat} {o : List J4} (h : LegS ts t i o) : LegS ts t (i + 1) o :=
  ⟨h.len, h.leg, fun k hk => by
    rcases h.last k hk with e | ⟨e, e2⟩
    · exact .inl e
    · exact .inr ⟨e, by omega⟩⟩
theorem LegS.add {ts : List T3} {t i : Nat} {o : List J4} {e : Int} (h : LegS ts t i o) (hi : i < ts.length) (ht : t ≤ 119) (hnx : nx ts o o.length i ≤ t) (he : 1 ≤ e ∧ e ≤ (tk ts i).1) (hl : o.length < 60) :
    LegS ts t (i + 1) (o ++ [((i : Int), (t : Int), (t : Int) + (tk ts i).2.1, e)]) := by
  have hid : jid (o ++ [((i : Int), (t : Int), (t : Int) + (tk ts i).2.1, e)]) o.length = i := by simp [jid, jb_last]
  refine ⟨by simp; omega, fun k hk => ?_, fun k hk => ?_⟩
  · by_cases ek : k < o.length
    · exact leg_app ek (h.leg k ek)
    · obtain rfl : k = o.length := by simp at hk; omega
      unfold Leg1
      rw [hid, nx_app (Nat.le_refl _), jb_last]
      refine ⟨⟨by simp, by simp; omega⟩, ⟨by simp, by simp; omega⟩, by simp; omega, rfl, he, ?_⟩
      by_cases e0 : o.length = 0
      · exact .inl e0
      · rw [jb_app (by omega : o.length - 1 < o.length)]
        rcases h.last (o.length - 1) (by omega) with e | ⟨e, e2⟩
        · exact .inr (.inl e)
        · exact .inr (.inr ⟨e, e2⟩)
  · by_cases ek : k < o.length
    · rw [jb_app ek]
      rcases h.last k ek with e | ⟨e, e2⟩
      · exact .inl e
      · exact .inr ⟨e, by omega⟩
    · obtain rfl : k = o.length := by simp at hk; omega
      rw [jb_last]
      exact .inr ⟨rfl, by simp only; omega⟩
theorem nx_snoc {ts : List T3} {o : List J4} {t i : Nat} {d e Q : Int} (hQ : Q = (per (tk ts i) : Nat)) (j : Nat) :
    (if j = i then Value.int .i64 ((t : Int) + Q) else .int .i64 (nx ts o o.length j : Nat)) = .int .i64 (nx ts (o ++ [((i : Int), (t : Int), d, e)]) (o ++ [((i : Int), (t : Int), d, e)]).length j : Nat) := by
  have hid : jid (o ++ [((i : Int), (t : Int), d, e)]) o.length = i := by simp [jid, jb_last]
  have hrel : jrel (o ++ [((i : Int), (t : Int), d, e)]) o.length = t := by simp [jrel, jb_last]
  rw [List.length_append, List.length_singleton]
  simp only [nx]
  rw [hid, hrel, nx_app (Nat.le_refl _)]
  by_cases e : j = i
  · subst e
    rw [if_pos rfl, if_pos rfl, hQ]
    simp
  · rw [if_neg e, if_neg (fun h => e h.symm)]
theorem Row.grown {w w' : World} {g off rb : Nat} {ts : List T3} (h : Row w (some ⟨g, off, none⟩) ts) (hg : w.grownBy w' (some rb)) (hne : g ≠ rb) : Row w' (some ⟨g, off, none⟩) ts := by
  intro k t hk
  obtain ⟨b, o, e, hb, h0, h1, h2⟩ := h k t hk
  simp only [Option.some.injEq, Addr.mk.injEq, and_true] at e
  obtain ⟨rfl, rfl⟩ := e
  have hn : ∀ j, some (⟨g, j, none⟩ : Addr).block ≠ some rb := fun j => by simpa using hne
  exact ⟨g, off, rfl, Nat.lt_of_lt_of_le hb hg.size, hg.cell h0 (hn _), hg.cell h1 (hn _), hg.cell h2 (hn _)⟩

/-- Since w only the reader rb and new blocks have turned; the slice s of new memory holds the jobs o. -/
structure JT (rb : Nat) (w wr : World) (q : Nat) (s : Value) (o : List J4) : Prop where
  gb : w.grownBy wr (some rb)
  rd : Rd wr rb q
  ow : OwnJ wr w.heap.size s o
  rl : rb < w.heap.size
variable {rb : Nat} {w wr w' : World} {q q' : Nat} {s : Value} {o : List J4}
theorem JT.pick (h : JT rb w wr q s o) (hg : wr.grownBy w' (some rb)) (hr : Rd w' rb q') : JT rb w w' q' s o := ⟨gb_trans h.gb hg, hr, h.ow.kept hg h.rl, h.rl⟩
theorem JT.more (h : JT rb w wr q s o) (hq : q ≤ q') : JT rb w wr q' s o := { h with rd := h.rd.mono hq }
theorem JT.alloc (h : JT rb w wr q s o) (x : Obj) : JT rb w (wr.alloc x) q s o := h.pick (gb_below (below_box _ _)) (h.rd.alloc _)
theorem JT.drew (h : JT rb w wr q s o) : JT rb w wr.drew q s o := h.pick (gb_drew (gb_refl _ _)) h.rd.drew
theorem JT.row {g off : Nat} {ts : List T3} (h : JT rb w wr q s o) (hr : Row w (some ⟨g, off, none⟩) ts) (hne : g ≠ rb) : Row wr (some ⟨g, off, none⟩) ts := hr.grown h.gb hne
/-- What turns the slice's own block, or nothing old, leaves the reader. -/
theorem JT.own {row : Option Nat} (h : JT rb w wr q s o) (hg : wr.grownBy w' row) (hr : ∀ k, row = some k → w.heap.size ≤ k) : w.grownBy w' (some rb) ∧ Rd w' rb q := by
  have hl := h.rl
  have hs := h.gb.size
  refine ⟨⟨hg.os.trans h.gb.os, hg.tape.trans h.gb.tape, hg.output.trans h.gb.output, Nat.le_trans hs hg.size, fun k hk hne => ?_⟩, h.rd.kept hg.size fun i hi => hg.block i (by omega) fun e => by have := hr i e.symm; omega⟩
  exact (hg.block k (by omega) fun e => by have := hr k e.symm; omega).trans (h.gb.block k hk hne)
theorem JT.push {v' : Value} {i r d e : Int} (h : JT rb w wr q s o) (ho : w'.ownsRow w.heap.size 41 4 v' (o.length + 1) (vals (fJ o) (o.length * 4) ++ [.int .i64 i, .int .i64 r, .int .i64 d, .int .i64 e])) (hg : wr.grownBy w' s.ownBlock) :
    JT rb w w' q v' (o ++ [(i, r, d, e)]) := by
  obtain ⟨h1, h2⟩ := h.own hg (fun k hk => (h.ow.lt k hk).1)
  exact ⟨h1, h2, OwnJ.push ho, h.rl⟩
theorem JT.set {g cap k c : Nat} (h : JT rb w wr q (.slice (some ⟨g, 0, none⟩) o.length cap) o) (hk : k < o.length) (hc : c < 4) (x : Int) :
    JT rb w (wr.setCell ⟨g, k * 4 + c, none⟩ (.int .i64 x)) q (.slice (some ⟨g, 0, none⟩) (o.set k (turnJ (jb o k) c x)).length cap) (o.set k (turnJ (jb o k) c x)) := by
  have hg := (h.ow.lt g rfl).1
  exact ⟨gb_set h.gb (.inr hg) _, h.rd.set (by have := h.rl; simp; omega) _, h.ow.set hk hc x, h.rl⟩
/-- .. and the row of next releases, block nb. -/
structure JD (rb nb : Nat) (w wr : World) (q : Nat) (s : Value) (n : Nat) (o : List J4) (f : Nat → Value) : Prop extends JT rb w wr q s o where
  nr : wr.rowIs nb 3 n f
  ap : s.ownBlock ≠ some nb
  lo : w.heap.size ≤ nb
variable {nb n : Nat} {f : Nat → Value}
theorem JD.pick (h : JD rb nb w wr q s n o f) (hg : wr.grownBy w' (some rb)) (hr : Rd w' rb q') : JD rb nb w w' q' s n o f :=
  ⟨h.toJT.pick hg hr, h.nr.of_block (hg.block nb h.nr.lt (fun e => by have := h.lo; have := h.rl; simp only [Option.some.injEq] at e; omega)), h.ap, h.lo⟩
theorem JD.more (h : JD rb nb w wr q s n o f) (hq : q ≤ q') : JD rb nb w wr q' s n o f := ⟨h.toJT.more hq, h.nr, h.ap, h.lo⟩
theorem JD.alloc (h : JD rb nb w wr q s n o f) (x : Obj) : JD rb nb w (wr.alloc x) q s n o f := h.pick (gb_below (below_box _ _)) (h.rd.alloc _)
theorem JD.push {v' : Value} {i r d e : Int} (h : JD rb nb w wr q s n o f) (ho : w'.ownsRow w.heap.size 41 4 v' (o.length + 1) (vals (fJ o) (o.length * 4) ++ [.int .i64 i, .int .i64 r, .int .i64 d, .int .i64 e])) (hg : wr.grownBy w' s.ownBlock)
    (hp : v'.ownBlock = s.ownBlock ∨ v'.ownBlock = some wr.heap.size) : JD rb nb w w' q v' n (o ++ [(i, r, d, e)]) f :=
  ⟨h.toJT.push ho hg, h.nr.of_block (hg.block nb h.nr.lt h.ap.symm), by
    rcases hp with e | e
    · rw [e]; exact h.ap
    · rw [e]; have := h.nr.lt; simp only [ne_eq, Option.some.injEq]; omega, h.lo⟩
theorem JD.setN (h : JD rb nb w wr q s n o f) (i : Nat) (x : Value) : JD rb nb w (wr.setCell ⟨nb, i, none⟩ x) q s n o (fun j => if j = i then x else f j) :=
  ⟨⟨gb_set h.gb (.inr h.lo) _, h.rd.set (by have := h.rl; have := h.lo; simp; omega) _, h.ow.other h.ap, h.rl⟩, h.nr.set i x, h.ap, h.lo⟩
theorem JD.congr {f' : Nat → Value} (h : JD rb nb w wr q s n o f) (e : ∀ i, i < n → f i = f' i) : JD rb nb w wr q s n o f' := ⟨h.toJT, h.nr.congr e, h.ap, h.lo⟩

/-- What spec.l20Jobs leaves. -/
def JobsDrawn (rb p : Nat) (n : Int) (ts : List T3) (w : World) (e : Ending) (w' : World) : Prop :=
  ∃ s o, e = .returned s ∧ JT rb w w' (p + 2000) s o ∧ o.length ≤ 61 ∧ (n ≤ 0 → legB ts o = true)

end Go.Proofs.YtdhdodmpfbgliaaDoor
