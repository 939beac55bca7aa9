/- Slices of sections (three numbers each) that a function has grown by itself, or copied; the same while it reads the code's bytes. No function is walked. No condition beyond those that each theorem names. -/
import Derived.Test.YtlagghoohloklaaSec
import Derived.Test.YtlagghoohloklaaMem
import Derived.Test.YtlagghoohloklaaDrawSet
namespace Go.Proofs.Ytlagghoohloklaa
open Go.RowKit Go.Deep

theorem secInfo : (Try.prog.info? 39).map (fun i => (i.zero, i.size, i.bytes)) = some (some (.agg #[.int .i64 0, .int .i64 0, .int .i64 0]), 3, 24) := by kernel_rfl
/-- From block base on: a slice of its own, of sections. -/
def Own3 (w : World) (base : Nat) (v : Value) (ss : List T3) : Prop := w.ownsRow base 39 3 v ss.length (flat ss)
variable {w w' wr : World} {base : Nat} {v : Value} {ss : List T3}
theorem Own3.lt (h : Own3 w base v ss) : ∀ k, v.ownBlock = some k → base ≤ k ∧ k < w.heap.size := World.ownsRow.lt h
theorem Own3.shape (h : Own3 w base v ss) : ∃ a cap, v = .slice a ss.length cap := own_shape h
theorem Own3.caps {a : Option Addr} {n cap : Nat} (h : Own3 w base (.slice a n cap) ss) : ss.length ≤ cap ∧ cap ≤ maxLen := by
  obtain ⟨_, ⟨e, hn⟩ | ⟨g, cap', cur, e, _, hb, hnc, hcm, hsz, hx⟩⟩ := h
  · simp only [Value.slice.injEq] at e
    rw [e.2.2]
    exact ⟨by omega, by simp [maxLen]⟩
  · simp only [Value.slice.injEq] at e
    rw [e.2.2]
    exact ⟨hnc, hcm⟩
theorem Own3.row {a : Option Addr} {n cap : Nat} (h : Own3 w base (.slice a n cap) ss) : Row w a ss := by
  obtain ⟨_, ⟨_, hn⟩ | ⟨g, cap', cur, e, _, hb, hnc, hcm, hsz, hx⟩⟩ := h
  · intro k t hk
    rw [List.length_eq_zero_iff.1 hn] at hk
    simp at hk
  · simp only [Value.slice.injEq] at e
    intro k t hk
    have hlt : k < ss.length := (List.getElem?_eq_some_iff.1 hk).1
    obtain ⟨h0, h1, h2⟩ := flat_at ss k t hk
    have hg : g < w.heap.size := (Array.getElem?_eq_some_iff.1 hb).1
    have hcell : ∀ j, j < ss.length * 3 → w.cell? ⟨g, j, none⟩ = (flat ss)[j]? := by
      intro j hj
      rw [← hx, List.getElem?_take_of_lt hj, Array.getElem?_toList]
      simp [World.cell?, hb]
    refine ⟨g, 0, e.1, hg, ?_, ?_, ?_⟩
    · rw [Nat.zero_add, hcell _ (by omega), h0]
    · rw [Nat.zero_add, hcell _ (by omega), h1]
    · rw [Nat.zero_add, hcell _ (by omega), h2]
theorem Own3.below (h : Own3 w base v ss) (hb : Below w.heap.size w w') : Own3 w' base v ss :=
  World.ownsRow.kept h (gb_of_below hb none) (by cases e : v.ownBlock with
    | none => exact .inl rfl
    | some k => exact .inr (by simp))
theorem Own3.kept {row : Nat} (h : Own3 w base v ss) (hg : w.grownBy w' (some row)) (hr : row < base) : Own3 w' base v ss :=
  World.ownsRow.kept h hg (by cases e : v.ownBlock with
    | none => exact .inl rfl
    | some k => exact .inr (fun h2 => by have := (h.lt k e).1; simp only [Option.some.injEq] at h2; omega))
theorem Own3.mono {base' : Nat} (h : Own3 w base v ss) (hb : base' ≤ base) : Own3 w base' v ss := by
  obtain ⟨h1, h2 | ⟨g, cap, cur, h2, h3, h4⟩⟩ := h
  · exact ⟨h1, .inl h2⟩
  · exact ⟨h1, .inr ⟨g, cap, cur, h2, Nat.le_trans hb h3, h4⟩⟩
theorem Own3.empty (w : World) : Own3 (w.alloc (.cells #[] 39)) w.heap.size (.slice (some ⟨w.heap.size, 0, none⟩) 0 0) [] :=
  ⟨rfl, .inr ⟨w.heap.size, 0, #[], rfl, Nat.le_refl _, blk_alloc_new _ _, Nat.le_refl _, by simp [maxLen], rfl, rfl⟩⟩
theorem Own3.push {i r d : Int} (ho : w'.ownsRow base 39 3 v (ss.length + 1) (flat ss ++ [.int .i64 i, .int .i64 r, .int .i64 d])) : Own3 w' base v (ss ++ [(i, r, d)]) := by
  unfold Own3
  rw [flat_snoc]
  simpa using ho
theorem Own3.at {a : Option Addr} {n cap : Nat} (h : Own3 w base (.slice a n cap) ss) (hn : 0 < ss.length) : ∃ g, a = some ⟨g, 0, none⟩ ∧ base ≤ g ∧ g < w.heap.size ∧ ∀ k, w.frozen? ⟨g, k, none⟩ = false := by
  obtain ⟨_, ⟨_, e⟩ | ⟨g, cap', cur, e, h3, hb, hnc, hcm, hsz, hx⟩⟩ := h
  · omega
  · simp only [Value.slice.injEq] at e
    exact ⟨g, e.1, h3, (Array.getElem?_eq_some_iff.1 hb).1, fun k => by simp [World.frozen?, hb]⟩
theorem Own3.other {a : Addr} {x : Value} (h : Own3 w base v ss) (ha : v.ownBlock ≠ some a.block) : Own3 (w.setCell a x) base v ss := ownsRow_setCell_other h ha x
theorem flat_app3 (l r : List T3) : flat (l ++ r) = flat l ++ flat r := by simp [flat]
theorem flat_upd {i : Nat} (h : i < ss.length) {c d p : Int} (ht : (c, d, p) = tk ss i) (x : Int) :
    (flat ss).set (i * 3) (.int .i64 x) = flat (upd ss i (x, d, p)) ∧ (flat ss).set (i * 3 + 1) (.int .i64 x) = flat (upd ss i (c, x, p)) ∧ (flat ss).set (i * 3 + 2) (.int .i64 x) = flat (upd ss i (c, d, x)) := by
  have hk : tk ss i = ss[i] := by simp [tk, h]
  rw [hk] at ht
  have e := congrArg flat (split_at h)
  have hl : (flat (ss.take i)).length = i * 3 := by rw [flat_length, List.length_take, Nat.min_eq_left (by omega)]
  rw [← ht, flat_app3, flat_app3] at e
  have e1 : ∀ a b c : Int, flat [(a, b, c)] = [.int .i64 a, .int .i64 b, .int .i64 c] := fun a b c => by simp [flat]
  rw [e1] at e
  refine ⟨?_, ?_, ?_⟩
  · rw [e, upd, flat_app3, flat_app3, e1, List.append_assoc, List.append_assoc, List.set_append_right _ _ (by omega), hl]
    simp
  · rw [e, upd, flat_app3, flat_app3, e1, List.append_assoc, List.append_assoc, List.set_append_right _ _ (by omega), hl]
    simp
  · rw [e, upd, flat_app3, flat_app3, e1, List.append_assoc, List.append_assoc, List.set_append_right _ _ (by omega), hl]
    simp
theorem upd_upd {i : Nat} (h : i < ss.length) (s t : T3) : upd (upd ss i s) i t = upd ss i t := by
  have hl : (ss.take i).length = i := by simp; omega
  have e1 : (ss.take i ++ [s] ++ ss.drop (i + 1)).take i = ss.take i := by
    rw [List.append_assoc, List.take_append_of_le_length (by omega), List.take_of_length_le (by omega)]
  have e2 : (ss.take i ++ [s] ++ ss.drop (i + 1)).drop (i + 1) = ss.drop (i + 1) := by
    have hl2 : (ss.take i ++ [s]).length = i + 1 := by simp; omega
    rw [List.drop_append_of_le_length (by omega), List.drop_of_length_le (by omega)]
    rfl
  simp only [upd]
  rw [e1, e2]
theorem Own3.len {a : Option Addr} {n cap : Nat} (h : Own3 w base (.slice a n cap) ss) : n = ss.length := by
  obtain ⟨a', cap', e⟩ := h.shape
  simp only [Value.slice.injEq] at e
  exact e.2.1
theorem Own3.put0 {g n cap i : Nat} (h : Own3 w base (.slice (some ⟨g, 0, none⟩) n cap) ss) (hi : i < ss.length) {c d p : Int} (ht : (c, d, p) = tk ss i) (x : Int) :
    Own3 (w.setCell ⟨g, i * 3, none⟩ (.int .i64 x)) base (.slice (some ⟨g, 0, none⟩) n cap) (upd ss i (x, d, p)) := by
  obtain rfl := h.len
  have h1 := (World.ownsRow.stored h (i * 3) (.int .i64 x)).1
  unfold Own3
  rw [upd_len hi, ← (flat_upd hi ht x).1]
  exact h1
theorem Own3.put1 {g n cap i : Nat} (h : Own3 w base (.slice (some ⟨g, 0, none⟩) n cap) ss) (hi : i < ss.length) {c d p : Int} (ht : (c, d, p) = tk ss i) (x : Int) :
    Own3 (w.setCell ⟨g, i * 3 + 1, none⟩ (.int .i64 x)) base (.slice (some ⟨g, 0, none⟩) n cap) (upd ss i (c, x, p)) := by
  obtain rfl := h.len
  have h1 := (World.ownsRow.stored h (i * 3 + 1) (.int .i64 x)).1
  unfold Own3
  rw [upd_len hi, ← (flat_upd hi ht x).2.1]
  exact h1
theorem Own3.put2 {g n cap i : Nat} (h : Own3 w base (.slice (some ⟨g, 0, none⟩) n cap) ss) (hi : i < ss.length) {c d p : Int} (ht : (c, d, p) = tk ss i) (x : Int) :
    Own3 (w.setCell ⟨g, i * 3 + 2, none⟩ (.int .i64 x)) base (.slice (some ⟨g, 0, none⟩) n cap) (upd ss i (c, d, x)) := by
  obtain rfl := h.len
  have h1 := (World.ownsRow.stored h (i * 3 + 2) (.int .i64 x)).1
  unfold Own3
  rw [upd_len hi, ← (flat_upd hi ht x).2.2]
  exact h1
/-- All three. -/
theorem Own3.put {g n cap i : Nat} (h : Own3 w base (.slice (some ⟨g, 0, none⟩) n cap) ss) (hi : i < ss.length) (x y z : Int) :
    Own3 (((w.setCell ⟨g, i * 3, none⟩ (.int .i64 x)).setCell ⟨g, i * 3 + 1, none⟩ (.int .i64 y)).setCell ⟨g, i * 3 + 2, none⟩ (.int .i64 z)) base (.slice (some ⟨g, 0, none⟩) n cap) (upd ss i (x, y, z)) := by
  obtain ⟨⟨c, d, p⟩, ht⟩ : ∃ t, t = tk ss i := ⟨_, rfl⟩
  have h1 := h.put0 hi ht x
  have h2 := h1.put1 (by rw [upd_len hi]; exact hi) (c := x) (d := d) (p := p) (by rw [tk_upd hi, if_pos rfl]) y
  rw [upd_upd hi] at h2
  have h3 := h2.put2 (by rw [upd_len hi]; exact hi) (c := x) (d := y) (p := p) (by rw [tk_upd hi, if_pos rfl]) z
  rw [upd_upd hi] at h3
  exact h3
theorem Row.tk {a : Option Addr} {ts : List T3} (h : Row w a ts) {k : Nat} (hk : k < ts.length) : ∃ b off, a = some ⟨b, off, none⟩ ∧ b < w.heap.size ∧
    w.cell? ⟨b, off + k * 3, none⟩ = some (.int .i64 (tk ts k).1) ∧ w.cell? ⟨b, off + k * 3 + 1, none⟩ = some (.int .i64 (tk ts k).2.1) ∧ w.cell? ⟨b, off + k * 3 + 2, none⟩ = some (.int .i64 (tk ts k).2.2) := by
  have e : Go.Proofs.Ytlagghoohloklaa.tk ts k = ts[k] := by simp [Go.Proofs.Ytlagghoohloklaa.tk, hk]
  rw [e]
  exact h k _ (List.getElem?_eq_getElem hk)
/-- Since w only the reader rb and new blocks have turned; the slice s of new memory holds the sections o. -/
structure ZT (rb : Nat) (w wr : World) (q : Nat) (s : Value) (o : List T3) : Prop where
  gb : w.grownBy wr (some rb)
  rd : Rd wr rb q
  ow : Own3 wr w.heap.size s o
  rl : rb < w.heap.size
variable {rb q q' : Nat} {s : Value} {o : List T3}
theorem ZT.pick (h : ZT rb w wr q s o) (hg : wr.grownBy w' (some rb)) (hr : Rd w' rb q') : ZT rb w w' q' s o := ⟨gb_trans h.gb hg, hr, h.ow.kept hg h.rl, h.rl⟩
theorem ZT.more (h : ZT rb w wr q s o) (hq : q ≤ q') : ZT rb w wr q' s o := { h with rd := h.rd.mono hq }
theorem ZT.alloc (h : ZT rb w wr q s o) (x : Obj) : ZT rb w (wr.alloc x) q s o := h.pick (gb_below (below_box _ _)) (h.rd.alloc _)
theorem ZT.start (hr : Rd w rb q) : ZT rb w (w.alloc (.cells #[] 39)) q (.slice (some ⟨w.heap.size, 0, none⟩) 0 0) [] := ⟨gb_below (below_box _ _), hr.alloc _, Own3.empty w, hr.lt⟩
theorem ZT.own {row : Option Nat} (h : ZT rb w wr q s o) (hg : wr.grownBy w' row) (hr : ∀ k, row = some k → w.heap.size ≤ k) : w.grownBy w' (some rb) ∧ Rd w' rb q := by
  have hl := h.rl
  have hs := h.gb.size
  refine ⟨⟨hg.os.trans h.gb.os, hg.tape.trans h.gb.tape, hg.output.trans h.gb.output, Nat.le_trans hs hg.size, fun k hk hne => ?_⟩, h.rd.kept hg.size fun i hi => hg.block i (by omega) fun e => by have := hr i e.symm; omega⟩
  exact (hg.block k (by omega) fun e => by have := hr k e.symm; omega).trans (h.gb.block k hk hne)
theorem ZT.push {v' : Value} {i r d : Int} (h : ZT rb w wr q s o) (ho : w'.ownsRow w.heap.size 39 3 v' (o.length + 1) (flat o ++ [.int .i64 i, .int .i64 r, .int .i64 d])) (hg : wr.grownBy w' s.ownBlock) :
    ZT rb w w' q v' (o ++ [(i, r, d)]) := by
  obtain ⟨h1, h2⟩ := h.own hg (fun k hk => (h.ow.lt k hk).1)
  exact ⟨h1, h2, Own3.push ho, h.rl⟩
/-- A store into a new block that is not the slice's. -/
theorem ZT.side {a : Addr} (h : ZT rb w wr q s o) (x : Value) (h0 : w.heap.size ≤ a.block) (h1 : s.ownBlock ≠ some a.block) : ZT rb w (wr.setCell a x) q s o :=
  ⟨gb_set h.gb (.inr h0) _, h.rd.set (by have := h.rl; omega) _, h.ow.other h1, h.rl⟩
theorem ZT.put {g cap i : Nat} (h : ZT rb w wr q (.slice (some ⟨g, 0, none⟩) o.length cap) o) (hi : i < o.length) (x y z : Int) :
    ZT rb w (((wr.setCell ⟨g, i * 3, none⟩ (.int .i64 x)).setCell ⟨g, i * 3 + 1, none⟩ (.int .i64 y)).setCell ⟨g, i * 3 + 2, none⟩ (.int .i64 z)) q (.slice (some ⟨g, 0, none⟩) o.length cap) (upd o i (x, y, z)) := by
  have hg := (h.ow.lt g rfl).1
  have hl := h.rl
  exact ⟨gb_set (gb_set (gb_set h.gb (.inr hg) _) (.inr hg) _) (.inr hg) _, ((h.rd.set (by simp; omega) _).set (by simp; omega) _).set (by simp; omega) _, h.ow.put hi x y z, h.rl⟩
theorem newsS (w : World) (i r d : Int) : ∀ (j : Nat) (u : Value), [Value.int .i64 i, .int .i64 r, .int .i64 d][j]? = some u → (w.alloc (.cells #[.int .i64 i, .int .i64 r, .int .i64 d] 39)).cell? ((⟨w.heap.size, 0, none⟩ : Addr).add j) = some u := news3 w i r d _

end Go.Proofs.Ytlagghoohloklaa
