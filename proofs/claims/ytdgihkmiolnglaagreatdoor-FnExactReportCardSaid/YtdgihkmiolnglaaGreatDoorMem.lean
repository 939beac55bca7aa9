/- Slices of numbers and of jobs in memory: what it means that such a slice is held, owned, appended to, stored into, and that it survives other steps; small facts of the simulation's memory. No function is walked but append and make. No condition beyond those that each theorem names. -/
import Derived.Laws.AppendOwn
import Derived.Tactics
import Derived.Test.YtdgihkmiolnglaaGreatDoorJobs
import Derived.Test.YtdgihkmiolnglaaGreatDoorDrawSet
import Derived.OneCell
import Derived.Test.YtdgihkmiolnglaaGreatDoorPlain
import Derived.Laws.MakeOwn
namespace Go.Proofs.YtdgihkmiolnglaaGreatDoor

theorem append_at {P : Program} (w : World) (base : Nat) (t ty e : TypeId) (i : TypeInfo) (z : Value) (size bytes : Nat) (ht : P.underlying t = some (.slice e)) (hi : P.info? e = some i) (hz : i.zero = some z)
    (hsize : i.size = size) (hby : i.bytes = bytes) (hzs : z.cells.size = size) (hsz : 0 < size)
    (v : Value) (n : Nat) (xs : List Value) (hown : w.ownsRow base e size v n xs)
    (a : Addr) (m c : Nat) (news : List Value) (hl : news.length = m * size) (hnews : ∀ j u, news[j]? = some u → w.cell? (a.add j) = some u) (h1 : ∀ u ∈ news, u.oneCell' = true)
    (h63 : n + m ≤ maxLen) (hbytes : (n + m) * bytes ≤ 140737488355328) (hbase : base ≤ w.heap.size) (hm : 0 < m) :
    ∃ v' w', (Builtin.append_ #[t, t] ty #[v, .slice (some a) m c]).run P w = .ok v' w' ∧ w'.ownsRow base e size v' (n + m) (xs ++ news) ∧ w.grownBy w' v.ownBlock ∧
      (v'.ownBlock = v.ownBlock ∨ v'.ownBlock = some w.heap.size) ∧ v' ≠ .slice none 0 0 := by
  obtain ⟨v', w', hr, h2, h3, h4⟩ := run_append_own (P := P) w base t ty e i z size bytes ht hi hz hsize hby hzs hsz v n xs hown a m c news hl hnews h1 h63 hbytes hbase
  refine ⟨v', w', hr, h2, h3, ?_, fun e => by have := (h4.1 e).2; omega⟩
  subst hsize
  subst hby
  have hsmall : n + m ≤ 9223372036854775807 := by simp only [maxLen] at h63; omega
  rcases hown.2 with ⟨rfl, rfl⟩ | ⟨g, cap, cur, rfl, hbg, hg, hnc, hcm, hcs, htake⟩
  · have hr2 := run_append_nil (P := P) w t ty e i z ht hi hz a m c news hl hnews hm (by omega) (by have hb := hbytes; simp only [Nat.zero_add] at hb; omega)
    rw [hr] at hr2
    injection hr2 with e1 _
    right
    rw [e1]
    rfl
  · by_cases hroom : n + m ≤ cap
    · have hfit : n * i.size + news.length ≤ cur.size := by rw [hl, hcs, ← Nat.add_mul]; exact Nat.mul_le_mul_right _ hroom
      have hr2 := run_append_room (P := P) w t ty e i ht hi g n cap cur hg a m c news hl hnews h1 hroom hfit
      rw [hr] at hr2
      injection hr2 with e1 _
      left
      rw [e1]
      rfl
    · have hr2 := run_append_grow (P := P) w t ty e i z ht hi hz ⟨g, 0, none⟩ n cap xs hown.1 (hown.cells (g := g) rfl) a m c news hl hnews (by omega) (by omega) (growslice_fits (by omega) hbytes)
      rw [hr] at hr2
      injection hr2 with e1 _
      right
      rw [e1]
      rfl
theorem wpList_append_at {P : Program} (w : World) {ops : Array Oper} {rest : List Oper} {o : Oper} {a : Act} {Q : Exit → Act → World → Prop} (hgd : o.guard = none) (s x : Operand) (t : TypeId)
    (ho : o.op = .call { callee := .builtin .append, args := #[s, x], argTypes := #[t, t] })
    (base : Nat) (e : TypeId) (i : TypeInfo) (z : Value) (size bytes : Nat) (ht : P.underlying t = some (.slice e)) (hi : P.info? e = some i) (hz : i.zero = some z)
    (hsize : i.size = size) (hby : i.bytes = bytes) (hzs : z.cells.size = size) (hsz : 0 < size)
    (v : Value) (n : Nat) (xs : List Value) (hs : a.eval s = v) (hown : w.ownsRow base e size v n xs)
    (ad : Addr) (m c : Nat) (news : List Value) (hx : a.eval x = .slice (some ad) m c) (hl : news.length = m * size) (hnews : ∀ j u, news[j]? = some u → w.cell? (ad.add j) = some u) (h1 : ∀ u ∈ news, u.oneCell' = true)
    (h63 : n + m ≤ maxLen) (hbytes : (n + m) * bytes ≤ 140737488355328) (hbase : base ≤ w.heap.size) (hm : 0 < m)
    (h : ∀ v' w', w'.ownsRow base e size v' (n + m) (xs ++ news) → w.grownBy w' v.ownBlock → (v'.ownBlock = v.ownBlock ∨ v'.ownBlock = some w.heap.size) → v' ≠ .slice none 0 0 → wpList P ops Q rest (a.put o.dst v') w') : wpList P ops Q (o :: rest) a w := by
  refine wpList_plain hgd fun K hK => ?_
  obtain ⟨v', w', hr, h2, h3, h4, h5⟩ := append_at (P := P) w base t o.type e i z size bytes ht hi hz hsize hby hzs hsz v n xs hown ad m c news hl hnews h1 h63 hbytes hbase hm
  unfold Oper.wp execOp
  simp only [ho, resolve, invoke, builtin, Sem.run_bind, Sem.run_pure, Result.andThen_ok, List.map_toArray, List.map_cons, List.map_nil, hs, hx, hr]
  exact hK _ _ (h v' w' h2 h3 h4 h5)

end Go.Proofs.YtdgihkmiolnglaaGreatDoor

namespace Go.Proofs.YtdgihkmiolnglaaGreatDoor
open Go.RowKit Go.Deep

theorem intInfo : (Tryz.prog.info? 3).map (fun i => (i.zero, i.size, i.bytes)) = some (some (.int .i64 0), 1, 8) := by kernel_rfl
def vals (f : Nat → Int) (n : Nat) : List Value := (List.range n).map fun k => .int .i64 (f k)
theorem vals_len (f : Nat → Int) (n : Nat) : (vals f n).length = n := by simp [vals]
theorem vals_succ (f : Nat → Int) (n : Nat) : vals f (n + 1) = vals f n ++ [.int .i64 (f n)] := by simp [vals, List.range_succ]
theorem vals_at (f : Nat → Int) {n k : Nat} (h : k < n) : (vals f n)[k]? = some (.int .i64 (f k)) := by simp [vals, h]
/-- From block base on: a slice of its own that holds the first n values of f. -/
def OwnI (w : World) (base : Nat) (v : Value) (n : Nat) (f : Nat → Int) : Prop := w.ownsRow base 3 1 v n (vals f n)
theorem OwnI.intF {w : World} {base : Nat} {v : Value} {n : Nat} {f : Nat → Int} (h : OwnI w base v n f) : ∃ a cap, v = .slice a n cap ∧ IntF w a n f ∧ n ≤ cap ∧ cap ≤ maxLen := by
  obtain ⟨_, ⟨rfl, hn⟩ | ⟨g, cap, cur, rfl, _, hb, hnc, hcm, hsz, hx⟩⟩ := h
  · exact ⟨none, 0, by rw [hn], fun k hk => by omega, by omega, by simp [maxLen]⟩
  · refine ⟨some ⟨g, 0, none⟩, cap, rfl, fun k hk => ?_, hnc, hcm⟩
    have hg : g < w.heap.size := (Array.getElem?_eq_some_iff.1 hb).1
    refine ⟨g, 0, rfl, hg, ?_⟩
    rw [Nat.zero_add, ← vals_at f hk, ← hx, List.getElem?_take_of_lt (by omega), Array.getElem?_toList]
    simp [World.cell?, hb]
theorem OwnI.from {w : World} {base : Nat} {v : Value} {n : Nat} {f : Nat → Int} (h : OwnI w base v n f) : ∀ k, v.ownBlock = some k → base ≤ k := by
  intro k hk
  obtain ⟨_, ⟨rfl, _⟩ | ⟨g, cap, cur, rfl, hb, _⟩⟩ := h
  · simp [Value.ownBlock] at hk
  · simp only [Value.ownBlock, Option.some.injEq] at hk
    omega
theorem OwnI.empty (w : World) (f : Nat → Int) : OwnI (w.alloc (.cells #[] 3)) w.heap.size (.slice (some ⟨w.heap.size, 0, none⟩) 0 0) 0 f :=
  ⟨rfl, .inr ⟨w.heap.size, 0, #[], rfl, Nat.le_refl _, blk_alloc_new _ _, Nat.le_refl _, by simp [maxLen], rfl, rfl⟩⟩
theorem OwnI.nil (w : World) (base : Nat) (f : Nat → Int) : OwnI w base (.slice none 0 0) 0 f := ⟨rfl, .inl ⟨rfl, rfl⟩⟩
theorem OwnI.congr {w : World} {base : Nat} {v : Value} {n : Nat} {f f' : Nat → Int} (h : OwnI w base v n f) (e : ∀ k, k < n → f k = f' k) : OwnI w base v n f' := by
  have : vals f n = vals f' n := by
    simp only [vals]
    exact List.map_congr_left fun k hk => by rw [e k (List.mem_range.1 hk)]
  unfold OwnI at h ⊢
  rwa [← this]
theorem news1 (w : World) (c : Int) (t : TypeId) : ∀ (j : Nat) (u : Value), [Value.int .i64 c][j]? = some u → (w.alloc (.cells #[.int .i64 c] t)).cell? ((⟨w.heap.size, 0, none⟩ : Addr).add j) = some u := by
  intro j u hj
  match j, hj with
  | 0, hj => simp at hj; subst hj; simp [Addr.add, go_sem]
  | j + 1, hj => simp at hj
theorem one1 (c : Int) : ∀ u ∈ [Value.int .i64 c], u.oneCell' = true := by
  intro u hu
  simp at hu
  subst hu
  rfl

end Go.Proofs.YtdgihkmiolnglaaGreatDoor

namespace Go.Proofs.YtdgihkmiolnglaaGreatDoor
open Go.RowKit Go.Deep

/-- Two values do not lie in the same block. -/
def Apart (u v : Value) : Prop := ∀ k, u.ownBlock = some k → v.ownBlock ≠ some k
theorem Apart.symm {u v : Value} (h : Apart u v) : Apart v u := fun k hv hu => h k hu hv
theorem Apart.nil (v : Value) : Apart (.slice none 0 0) v := fun k h => by simp [Value.ownBlock] at h
theorem gb_of_below {w w' : World} (hb : Below w.heap.size w w') (r : Option Nat) : w.grownBy w' r := ⟨hb.os, hb.tape, hb.output, hb.size, fun k hk _ => hb.block k hk⟩
theorem OwnI.lt {w : World} {base : Nat} {v : Value} {n : Nat} {f : Nat → Int} (h : OwnI w base v n f) : ∀ k, v.ownBlock = some k → base ≤ k ∧ k < w.heap.size := World.ownsRow.lt h
theorem OwnI.below {w w' : World} {base : Nat} {v : Value} {n : Nat} {f : Nat → Int} (h : OwnI w base v n f) (hb : Below w.heap.size w w') : OwnI w' base v n f :=
  World.ownsRow.kept h (gb_of_below hb none) (by cases e : v.ownBlock with
    | none => exact .inl rfl
    | some k => exact .inr (by simp))
theorem OwnI.alloc {w : World} {base : Nat} {v : Value} {n : Nat} {f : Nat → Int} (h : OwnI w base v n f) (o : Obj) : OwnI (w.alloc o) base v n f := h.below (below_box _ _)
theorem OwnI.drew {w : World} {base : Nat} {v : Value} {n : Nat} {f : Nat → Int} (h : OwnI w base v n f) : OwnI w.drew base v n f := h.below (Below.refl _ _).drew
theorem OwnI.grown {w w' : World} {base : Nat} {u v : Value} {n : Nat} {f : Nat → Int} (h : OwnI w base v n f) (hg : w.grownBy w' u.ownBlock) (ha : Apart v u) : OwnI w' base v n f :=
  World.ownsRow.kept h hg (by cases e : v.ownBlock with
    | none => exact .inl rfl
    | some k => exact .inr (fun h => ha k e h.symm))
theorem OwnI.other {w : World} {base : Nat} {v x : Value} {n : Nat} {f : Nat → Int} {a : Addr} (h : OwnI w base v n f) (ha : v.ownBlock ≠ some a.block) : OwnI (w.setCell a x) base v n f :=
  ownsRow_setCell_other h ha x
theorem OwnI.mono {w : World} {base base' : Nat} {v : Value} {n : Nat} {f : Nat → Int} (h : OwnI w base v n f) (hb : base' ≤ base) : OwnI w base' v n f := by
  obtain ⟨h1, h2 | ⟨g, cap, cur, h2, h3, h4⟩⟩ := h
  · exact ⟨h1, .inl h2⟩
  · exact ⟨h1, .inr ⟨g, cap, cur, h2, Nat.le_trans hb h3, h4⟩⟩
/-- Where it is not empty it has a block. -/
theorem OwnI.at {w : World} {base : Nat} {v : Value} {n : Nat} {f : Nat → Int} (h : OwnI w base v n f) (hn : 0 < n) : ∃ g cap, v = .slice (some ⟨g, 0, none⟩) n cap ∧ base ≤ g ∧ g < w.heap.size ∧ n ≤ cap ∧ (∀ k, w.frozen? ⟨g, k, none⟩ = false) ∧
    ∀ k, k < n → w.cell? ⟨g, k, none⟩ = some (.int .i64 (f k)) := by
  obtain ⟨_, ⟨_, rfl⟩ | ⟨g, cap, cur, rfl, h3, hb, hnc, hcm, hsz, hx⟩⟩ := h
  · omega
  · have hg : g < w.heap.size := (Array.getElem?_eq_some_iff.1 hb).1
    refine ⟨g, cap, rfl, h3, hg, hnc, fun k => by simp [World.frozen?, hb], fun k hk => ?_⟩
    rw [← vals_at f hk, ← hx, List.getElem?_take_of_lt (by omega), Array.getElem?_toList]
    simp [World.cell?, hb]
theorem vals_set (f : Nat → Int) (n k : Nat) (x : Int) (hk : k < n) : (vals f n).set k (.int .i64 x) = vals (fun j => if j = k then x else f j) n := by
  apply List.ext_getElem?
  intro j
  rw [List.getElem?_set, vals_len]
  by_cases hj : j < n
  · rw [vals_at _ hj, vals_at _ hj]
    by_cases e : k = j
    · subst e
      simp [hk]
    · simp [e, show ¬ j = k from fun h => e h.symm]
  · have h1 : (vals f n)[j]? = none := by rw [List.getElem?_eq_none_iff, vals_len]; omega
    have h2 : (vals (fun j => if j = k then x else f j) n)[j]? = none := by rw [List.getElem?_eq_none_iff, vals_len]; omega
    rw [h1, h2, if_neg (by omega)]
/-- A store into it. -/
theorem OwnI.set {w : World} {base g n cap k : Nat} {f : Nat → Int} (h : OwnI w base (.slice (some ⟨g, 0, none⟩) n cap) n f) (hk : k < n) (x : Int) :
    OwnI (w.setCell ⟨g, k, none⟩ (.int .i64 x)) base (.slice (some ⟨g, 0, none⟩) n cap) n (fun j => if j = k then x else f j) := by
  obtain ⟨h1, ⟨e, _⟩ | ⟨g', cap', cur, e, h3, hb, hnc, hcm, hsz, hx⟩⟩ := h
  · simp at e
  · simp only [Value.slice.injEq, Option.some.injEq, Addr.mk.injEq, and_true, true_and] at e
    obtain ⟨rfl, rfl⟩ := e
    refine ⟨by rw [vals_len, Nat.mul_one], .inr ⟨g, cap, cur.setIfInBounds k (.int .i64 x), rfl, h3, ?_, hnc, hcm, by simpa using hsz, ?_⟩⟩
    · simp [World.setCell, Array.getElem?_modify, hb]
    · rw [← vals_set f n k x hk, ← hx, Array.toList_setIfInBounds, List.take_set]

end Go.Proofs.YtdgihkmiolnglaaGreatDoor

namespace Go.Proofs.YtdgihkmiolnglaaGreatDoor
open Go.RowKit Go.Deep

theorem OwnI.intF' {w : World} {base : Nat} {a : Option Addr} {n cap : Nat} {f : Nat → Int} (h : OwnI w base (.slice a n cap) n f) : IntF w a n f := by
  obtain ⟨a', cap', e, h1, _⟩ := h.intF
  simp only [Value.slice.injEq] at e
  rw [e.1]
  exact h1
theorem own_shape {w : World} {base e size n : Nat} {v : Value} {xs : List Value} (h : w.ownsRow base e size v n xs) : ∃ a cap, v = .slice a n cap := by
  obtain ⟨_, ⟨rfl, rfl⟩ | ⟨g, cap, cur, rfl, _⟩⟩ := h
  · exact ⟨none, 0, rfl⟩
  · exact ⟨_, _, rfl⟩
theorem OwnI.cellAt {w : World} {base g n cap k : Nat} {f : Nat → Int} (h : OwnI w base (.slice (some ⟨g, 0, none⟩) n cap) n f) (hk : k < n) : w.cell? ⟨g, k, none⟩ = some (.int .i64 (f k)) ∧ w.frozen? ⟨g, k, none⟩ = false ∧ g < w.heap.size ∧ base ≤ g := by
  obtain ⟨g', cap', e, h1, h2, _, h3, h4⟩ := h.at (by omega)
  simp only [Value.slice.injEq, Option.some.injEq, Addr.mk.injEq, and_true, true_and] at e
  obtain ⟨rfl, _⟩ := e
  exact ⟨h4 k hk, h3 k, h2, h1⟩
theorem Row.at {w : World} {a : Option Addr} {ts : List T3} {i : Nat} (h : Row w a ts) (hi : i < ts.length) : ∃ b off, a = some ⟨b, off, none⟩ ∧ b < w.heap.size ∧
    w.cell? ⟨b, off + i * 3, none⟩ = some (.int .i64 (tk ts i).1) ∧ w.cell? ⟨b, off + i * 3 + 1, none⟩ = some (.int .i64 (tk ts i).2.1) ∧ w.cell? ⟨b, off + i * 3 + 2, none⟩ = some (.int .i64 (tk ts i).2.2) := by
  have e : tk ts i = ts[i] := by simp [tk, hi]
  rw [e]
  exact h i _ (List.getElem?_eq_getElem hi)
theorem run_make_ints (n : Nat) (hn : n ≤ 1099511627776) (w : World) :
    (Instr.makeSlice 52 (.int .i64 (n : Int)) (.int .i64 (n : Int))).run Tryz.prog w = .ok (.slice (some ⟨w.heap.size, 0, none⟩) n n) (w.alloc (.cells (madeCells #[.int .i64 0] n) 3)) := by
  obtain ⟨i, hi, hz, hs, hb⟩ := info_parts intInfo
  have h := run_make (P := Tryz.prog) w 52 3 i _ Tryz.underlying52 hi hz .i64 .i64 (n : Int) (n : Int) (by omega) (by omega) (by rw [hb]; omega) (by omega)
  rw [hs] at h
  simpa [Value.cells] using h
theorem IntF.congr {w : World} {a : Option Addr} {n : Nat} {f g : Nat → Int} (h : IntF w a n f) (e : ∀ k, k < n → f k = g k) : IntF w a n g := fun k hk => by
  obtain ⟨b, off, ha, hb, hc⟩ := h k hk
  exact ⟨b, off, ha, hb, by rw [hc, e k hk]⟩

theorem rowIs_ownI {w : World} {base b n : Nat} {f : Nat → Int} (h : w.rowIs b 3 n (fun k => .int .i64 (f k))) (hb : base ≤ b) (hn : n ≤ maxLen) : OwnI w base (.slice (some ⟨b, 0, none⟩) n n) n f := by
  obtain ⟨cur, hc, hsz, hat⟩ := h
  refine ⟨by rw [vals_len, Nat.mul_one], .inr ⟨b, n, cur, rfl, hb, hc, Nat.le_refl _, hn, by omega, ?_⟩⟩
  apply List.ext_getElem?
  intro k
  by_cases hk : k < n
  · rw [vals_at f hk, List.getElem?_take_of_lt (by omega), Array.getElem?_toList]
    exact hat k hk
  · rw [List.getElem?_eq_none (by rw [List.length_take]; omega), List.getElem?_eq_none (by rw [vals_len]; omega)]

end Go.Proofs.YtdgihkmiolnglaaGreatDoor

namespace Go.Proofs.YtdgihkmiolnglaaGreatDoor
open Go.RowKit Go.Deep

end Go.Proofs.YtdgihkmiolnglaaGreatDoor

namespace Go.Proofs.YtdgihkmiolnglaaGreatDoor
open Go.RowKit Go.Deep

/-- The schedule under way: block B is the result, B + 1 the schedule; its slices and the work that is left lie above. -/
structure SB (B : Nat) (w wr : World) (vr vf vl : Value) (nr nf nl : Nat) (fr ff fl : Nat → Int) : Prop where
  r0 : wr.cell? ⟨B, 0, none⟩ = some (.slice none 0 0)
  r1 : wr.cell? ⟨B, 1, none⟩ = some (.slice none 0 0)
  g0 : wr.frozen? ⟨B, 0, none⟩ = false
  g1 : wr.frozen? ⟨B, 1, none⟩ = false
  c0 : wr.cell? ⟨B + 1, 0, none⟩ = some vr
  c1 : wr.cell? ⟨B + 1, 1, none⟩ = some vf
  f0 : wr.frozen? ⟨B + 1, 0, none⟩ = false
  f1 : wr.frozen? ⟨B + 1, 1, none⟩ = false
  ol : OwnI wr (B + 2) vl nl fl
  of : OwnI wr (B + 2) vf nf ff
  or : OwnI wr (B + 2) vr nr fr
  a1 : Apart vl vf
  a2 : Apart vl vr
  a3 : Apart vf vr
  bl : Below B w wr
  sz : B + 2 ≤ wr.heap.size
variable {B : Nat} {w wr w' : World} {vr vf vl : Value} {nr nf nl : Nat} {fr ff fl : Nat → Int}
theorem SB.below (h : SB B w wr vr vf vl nr nf nl fr ff fl) (hb : Below wr.heap.size wr w') : SB B w w' vr vf vl nr nf nl fr ff fl := by
  have hs := h.sz
  have hc : ∀ j, (w'.cell? ⟨B, j, none⟩ = wr.cell? ⟨B, j, none⟩ ∧ w'.frozen? ⟨B, j, none⟩ = wr.frozen? ⟨B, j, none⟩) ∧ w'.cell? ⟨B + 1, j, none⟩ = wr.cell? ⟨B + 1, j, none⟩ ∧ w'.frozen? ⟨B + 1, j, none⟩ = wr.frozen? ⟨B + 1, j, none⟩ := fun j =>
    ⟨⟨hb.cell (p := ⟨B, j, none⟩) (by simp; omega), hb.frozen (p := ⟨B, j, none⟩) (by simp; omega)⟩, hb.cell (p := ⟨B + 1, j, none⟩) (by simp; omega), hb.frozen (p := ⟨B + 1, j, none⟩) (by simp; omega)⟩
  exact ⟨(hc 0).1.1.trans h.r0, (hc 1).1.1.trans h.r1, (hc 0).1.2.trans h.g0, (hc 1).1.2.trans h.g1, (hc 0).2.1.trans h.c0, (hc 1).2.1.trans h.c1, (hc 0).2.2.trans h.f0, (hc 1).2.2.trans h.f1,
    h.ol.below hb, h.of.below hb, h.or.below hb, h.a1, h.a2, h.a3, h.bl.trans (hb.mono (by omega)), Nat.le_trans hs hb.size⟩
/-- What turns only a block above leaves the two struct blocks as they are. -/
theorem SB.cells (h : SB B w wr vr vf vl nr nf nl fr ff fl) {row : Option Nat} (hg : wr.grownBy w' row) (hr : ∀ k, row = some k → B + 2 ≤ k) :
    (w'.cell? ⟨B, 0, none⟩ = some (.slice none 0 0) ∧ w'.cell? ⟨B, 1, none⟩ = some (.slice none 0 0) ∧ w'.frozen? ⟨B, 0, none⟩ = false ∧ w'.frozen? ⟨B, 1, none⟩ = false) ∧
    w'.cell? ⟨B + 1, 0, none⟩ = some vr ∧ w'.cell? ⟨B + 1, 1, none⟩ = some vf ∧ w'.frozen? ⟨B + 1, 0, none⟩ = false ∧ w'.frozen? ⟨B + 1, 1, none⟩ = false := by
  have hs := h.sz
  have hn : ∀ b, b < B + 2 → w'.heap[b]? = wr.heap[b]? := fun b hb => hg.block b (by omega) (fun e => by have := hr b e.symm; omega)
  have hc : ∀ b j, b < B + 2 → w'.cell? ⟨b, j, none⟩ = wr.cell? ⟨b, j, none⟩ ∧ w'.frozen? ⟨b, j, none⟩ = wr.frozen? ⟨b, j, none⟩ := fun b j hb => ⟨World.cell?_of_block (a := ⟨b, j, none⟩) (hn b hb), World.frozen?_of_block (a := ⟨b, j, none⟩) (hn b hb)⟩
  exact ⟨⟨(hc B 0 (by omega)).1.trans h.r0, (hc B 1 (by omega)).1.trans h.r1, (hc B 0 (by omega)).2.trans h.g0, (hc B 1 (by omega)).2.trans h.g1⟩,
    (hc (B + 1) 0 (by omega)).1.trans h.c0, (hc (B + 1) 1 (by omega)).1.trans h.c1, (hc (B + 1) 0 (by omega)).2.trans h.f0, (hc (B + 1) 1 (by omega)).2.trans h.f1⟩
theorem Apart.push {W : World} {v v' u : Value} (ha : Apart v u) (hp : v'.ownBlock = v.ownBlock ∨ v'.ownBlock = some W.heap.size) (hu : ∀ k, u.ownBlock = some k → k < W.heap.size) : Apart v' u := by
  intro k hk hku
  rcases hp with e | e
  · exact ha k (e ▸ hk) hku
  · rw [e] at hk
    have := hu k hku
    simp only [Option.some.injEq] at hk
    omega
/-- left = append(left, x). -/
theorem SB.pushL {v' : Value} {x : Int} (h : SB B w wr vr vf vl nr nf nl fr ff fl) (ho : w'.ownsRow (B + 2) 3 1 v' (nl + 1) (vals fl nl ++ [.int .i64 x])) (hx : x = fl nl) (hg : wr.grownBy w' vl.ownBlock) (hp : v'.ownBlock = vl.ownBlock ∨ v'.ownBlock = some wr.heap.size) :
    SB B w w' vr vf v' nr nf (nl + 1) fr ff fl := by
  obtain ⟨⟨r0, r1, g0, g1⟩, c0, c1, f0, f1⟩ := h.cells hg (fun k hk => (h.ol.lt k hk).1)
  refine ⟨r0, r1, g0, g1, c0, c1, f0, f1, ?_, h.of.grown hg h.a1.symm, h.or.grown hg h.a2.symm, h.a1.push hp (fun k hk => (h.of.lt k hk).2), h.a2.push hp (fun k hk => (h.or.lt k hk).2), h.a3, h.bl.grown hg (by have := h.sz; omega) (fun k hk => by have := (h.ol.lt k hk).1; omega), Nat.le_trans h.sz hg.size⟩
  unfold OwnI
  rw [vals_succ, ← hx]
  exact ho
/-- s.Finish = append(s.Finish, x). -/
theorem SB.pushF {v' : Value} {x : Int} (h : SB B w wr vr vf vl nr nf nl fr ff fl) (ho : w'.ownsRow (B + 2) 3 1 v' (nf + 1) (vals ff nf ++ [.int .i64 x])) (hx : x = ff nf) (hg : wr.grownBy w' vf.ownBlock) (hp : v'.ownBlock = vf.ownBlock ∨ v'.ownBlock = some wr.heap.size) :
    SB B w (w'.setCell ⟨B + 1, 1, none⟩ v') vr v' vl nr (nf + 1) nl fr ff fl := by
  obtain ⟨⟨r0, r1, g0, g1⟩, c0, c1, f0, f1⟩ := h.cells hg (fun k hk => (h.of.lt k hk).1)
  have ol := h.ol.grown hg h.a1
  have or := h.or.grown hg h.a3.symm
  have of : OwnI w' (B + 2) v' (nf + 1) ff := by
    unfold OwnI
    rw [vals_succ, ← hx]
    exact ho
  refine ⟨by simp [go_sem, r0], by simp [go_sem, r1], by simp [go_sem, g0], by simp [go_sem, g1], by simp [go_sem, c0], by simp [go_sem, c1], by simp [go_sem, f0], by simp [go_sem, f1], ol.other fun e => ?_, of.other fun e => ?_, or.other fun e => ?_, (h.a1.symm.push hp (fun k hk => (h.ol.lt k hk).2)).symm, h.a2, h.a3.push hp (fun k hk => (h.or.lt k hk).2),
    (h.bl.grown hg (by have := h.sz; omega) (fun k hk => by have := (h.of.lt k hk).1; omega)).setCell (by simp) _, by have := h.sz; have := hg.size; simp [World.setCell]; omega⟩
  · have := (ol.lt _ e).1; simp at this
  · have := (of.lt _ e).1; simp at this
  · have := (or.lt _ e).1; simp at this
/-- s.Run = append(s.Run, x). -/
theorem SB.pushR {v' : Value} {x : Int} (h : SB B w wr vr vf vl nr nf nl fr ff fl) (ho : w'.ownsRow (B + 2) 3 1 v' (nr + 1) (vals fr nr ++ [.int .i64 x])) (hx : x = fr nr) (hg : wr.grownBy w' vr.ownBlock) (hp : v'.ownBlock = vr.ownBlock ∨ v'.ownBlock = some wr.heap.size) :
    SB B w (w'.setCell ⟨B + 1, 0, none⟩ v') v' vf vl (nr + 1) nf nl fr ff fl := by
  obtain ⟨⟨r0, r1, g0, g1⟩, c0, c1, f0, f1⟩ := h.cells hg (fun k hk => (h.or.lt k hk).1)
  have ol := h.ol.grown hg h.a2
  have of := h.of.grown hg h.a3
  have or : OwnI w' (B + 2) v' (nr + 1) fr := by
    unfold OwnI
    rw [vals_succ, ← hx]
    exact ho
  refine ⟨by simp [go_sem, r0], by simp [go_sem, r1], by simp [go_sem, g0], by simp [go_sem, g1], by simp [go_sem, c0], by simp [go_sem, c1], by simp [go_sem, f0], by simp [go_sem, f1], ol.other fun e => ?_, of.other fun e => ?_, or.other fun e => ?_, h.a1, (h.a2.symm.push hp (fun k hk => (h.ol.lt k hk).2)).symm, (h.a3.symm.push hp (fun k hk => (h.of.lt k hk).2)).symm,
    (h.bl.grown hg (by have := h.sz; omega) (fun k hk => by have := (h.or.lt k hk).1; omega)).setCell (by simp) _, by have := h.sz; have := hg.size; simp [World.setCell]; omega⟩
  · have := (ol.lt _ e).1; simp at this
  · have := (of.lt _ e).1; simp at this
  · have := (or.lt _ e).1; simp at this
/-- left[k] = x. -/
theorem SB.setL {g cap k : Nat} (h : SB B w wr vr vf (.slice (some ⟨g, 0, none⟩) nl cap) nr nf nl fr ff fl) (hk : k < nl) (x : Int) :
    SB B w (wr.setCell ⟨g, k, none⟩ (.int .i64 x)) vr vf (.slice (some ⟨g, 0, none⟩) nl cap) nr nf nl fr ff (fun j => if j = k then x else fl j) := by
  have hg := (h.ol.lt g rfl).1
  have hne : ∀ b j, b < B + 2 → (wr.setCell ⟨g, k, none⟩ (.int .i64 x)).cell? ⟨b, j, none⟩ = wr.cell? ⟨b, j, none⟩ ∧ (wr.setCell ⟨g, k, none⟩ (.int .i64 x)).frozen? ⟨b, j, none⟩ = wr.frozen? ⟨b, j, none⟩ := fun b j hb =>
    have e := Below.heap_setCell wr ⟨g, k, none⟩ (.int .i64 x) b (by simp; omega)
    ⟨World.cell?_of_block (a := ⟨b, j, none⟩) e, World.frozen?_of_block (a := ⟨b, j, none⟩) e⟩
  exact ⟨(hne B 0 (by omega)).1.trans h.r0, (hne B 1 (by omega)).1.trans h.r1, (hne B 0 (by omega)).2.trans h.g0, (hne B 1 (by omega)).2.trans h.g1, (hne (B + 1) 0 (by omega)).1.trans h.c0, (hne (B + 1) 1 (by omega)).1.trans h.c1, (hne (B + 1) 0 (by omega)).2.trans h.f0, (hne (B + 1) 1 (by omega)).2.trans h.f1,
    h.ol.set hk x, h.of.other (h.a1 g rfl), h.or.other (h.a2 g rfl), h.a1, h.a2, h.a3, h.bl.setCell (by simp; omega) _, by have := h.sz; simpa [World.setCell] using this⟩
/-- s.Finish[k] = x. -/
theorem SB.setF {g cap k : Nat} (h : SB B w wr vr (.slice (some ⟨g, 0, none⟩) nf cap) vl nr nf nl fr ff fl) (hk : k < nf) (x : Int) :
    SB B w (wr.setCell ⟨g, k, none⟩ (.int .i64 x)) vr (.slice (some ⟨g, 0, none⟩) nf cap) vl nr nf nl fr (fun j => if j = k then x else ff j) fl := by
  have hg := (h.of.lt g rfl).1
  have hne : ∀ b j, b < B + 2 → (wr.setCell ⟨g, k, none⟩ (.int .i64 x)).cell? ⟨b, j, none⟩ = wr.cell? ⟨b, j, none⟩ ∧ (wr.setCell ⟨g, k, none⟩ (.int .i64 x)).frozen? ⟨b, j, none⟩ = wr.frozen? ⟨b, j, none⟩ := fun b j hb =>
    have e := Below.heap_setCell wr ⟨g, k, none⟩ (.int .i64 x) b (by simp; omega)
    ⟨World.cell?_of_block (a := ⟨b, j, none⟩) e, World.frozen?_of_block (a := ⟨b, j, none⟩) e⟩
  exact ⟨(hne B 0 (by omega)).1.trans h.r0, (hne B 1 (by omega)).1.trans h.r1, (hne B 0 (by omega)).2.trans h.g0, (hne B 1 (by omega)).2.trans h.g1, (hne (B + 1) 0 (by omega)).1.trans h.c0, (hne (B + 1) 1 (by omega)).1.trans h.c1, (hne (B + 1) 0 (by omega)).2.trans h.f0, (hne (B + 1) 1 (by omega)).2.trans h.f1,
    h.ol.other (h.a1.symm g rfl), h.of.set hk x, h.or.other (h.a3 g rfl), h.a1, h.a2, h.a3, h.bl.setCell (by simp; omega) _, by have := h.sz; simpa [World.setCell] using this⟩
theorem SB.congr {fr' ff' fl' : Nat → Int} (h : SB B w wr vr vf vl nr nf nl fr ff fl) (e1 : ∀ k, k < nr → fr k = fr' k) (e2 : ∀ k, k < nf → ff k = ff' k) (e3 : ∀ k, k < nl → fl k = fl' k) : SB B w wr vr vf vl nr nf nl fr' ff' fl' :=
  { h with ol := h.ol.congr e3, of := h.of.congr e2, or := h.or.congr e1 }

end Go.Proofs.YtdgihkmiolnglaaGreatDoor
