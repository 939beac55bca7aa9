/- Contracts of the program's functions of chapter 2: the closures of Task.demand and Task.released, summed and its closure, Demand, FirstOverload, EdfFeasible. Conditions: the slice's cells hold tasks; its length is at most 2^40. -/
import Derived.Test.YtdgihkmiolnglaaGreatDoorDemSpec
import Derived.Test.YtdgihkmiolnglaaGreatDoorBase
import Derived.Test.YtdgihkmiolnglaaGreatDoorCopy
import Derived.Test.YtdgihkmiolnglaaGreatDoorDraw
import Derived.Laws.AppendOwn
import Derived.OwnWalk
import Derived.OneCell
namespace Go.Proofs.YtdgihkmiolnglaaGreatDoor
open Go.RowKit Go.Deep

/-- A closure of function g over a boxed task. -/
def PartOf (g lo : Nat) (w : World) (u : Value) (t : T3) : Prop :=
  ∃ tb, u = .func (.func g) #[] #[.pointer (some ⟨tb, 0, none⟩)] ∧ lo ≤ tb ∧ tb < w.heap.size ∧
    w.cell? ⟨tb, 0, none⟩ = some (.int .i64 t.1) ∧ w.cell? ⟨tb, 1, none⟩ = some (.int .i64 t.2.1) ∧ w.cell? ⟨tb, 2, none⟩ = some (.int .i64 t.2.2)
def PartsOf (g lo : Nat) (w : World) (xs : List Value) (ts : List T3) : Prop :=
  xs.length = ts.length ∧ ∀ (k : Nat) (t : T3), ts[k]? = some t → ∃ u, xs[k]? = some u ∧ PartOf g lo w u t
/-- A closure of 'summed' over the closures of all tasks. -/
def Summed (g lo : Nat) (w : World) (v : Value) (ts : List T3) : Prop :=
  ∃ pb qb cap xs, v = .func (.func 99) #[] #[.pointer (some ⟨pb, 0, none⟩)] ∧ (lo ≤ pb ∧ pb < w.heap.size) ∧ (lo ≤ qb ∧ qb < w.heap.size) ∧
    w.cell? ⟨pb, 0, none⟩ = some (.slice (some ⟨qb, 0, none⟩) ts.length cap) ∧ PartsOf g lo w xs ts ∧ ∀ (j : Nat) (u : Value), xs[j]? = some u → w.cell? ⟨qb, j, none⟩ = some u
theorem PartOf.below {g lo : Nat} {w w' : World} {u : Value} {t : T3} (h : PartOf g lo w u t) (hb : Below w.heap.size w w') : PartOf g lo w' u t := by
  obtain ⟨tb, e, h0, h1, c0, c1, c2⟩ := h
  exact ⟨tb, e, h0, Nat.lt_of_lt_of_le h1 hb.size, (hb.cell (p := ⟨tb, 0, none⟩) h1).trans c0, (hb.cell (p := ⟨tb, 1, none⟩) h1).trans c1, (hb.cell (p := ⟨tb, 2, none⟩) h1).trans c2⟩
theorem PartsOf.below {g lo : Nat} {w w' : World} {xs : List Value} {ts : List T3} (h : PartsOf g lo w xs ts) (hb : Below w.heap.size w w') : PartsOf g lo w' xs ts :=
  ⟨h.1, fun k t hk => by obtain ⟨u, hu, hp⟩ := h.2 k t hk; exact ⟨u, hu, hp.below hb⟩⟩
theorem PartOf.keep {g lo : Nat} {w w' : World} {u : Value} {t : T3} (h : PartOf g lo w u t) (hs : w.heap.size ≤ w'.heap.size) (hk : ∀ k, lo ≤ k → k < w.heap.size → w'.heap[k]? = w.heap[k]?) : PartOf g lo w' u t := by
  obtain ⟨tb, e, h0, h1, c0, c1, c2⟩ := h
  have := hk tb h0 h1
  exact ⟨tb, e, h0, Nat.lt_of_lt_of_le h1 hs, (World.cell?_of_block (a := ⟨tb, 0, none⟩) this).trans c0, (World.cell?_of_block (a := ⟨tb, 1, none⟩) this).trans c1, (World.cell?_of_block (a := ⟨tb, 2, none⟩) this).trans c2⟩
/-- Blocks below lo may turn, and new ones. -/
theorem Summed.keep {g lo : Nat} {w w' : World} {v : Value} {ts : List T3} (h : Summed g lo w v ts) (hs : w.heap.size ≤ w'.heap.size) (hk : ∀ k, lo ≤ k → k < w.heap.size → w'.heap[k]? = w.heap[k]?) : Summed g lo w' v ts := by
  obtain ⟨pb, qb, cap, xs, e, ⟨l1, h1⟩, ⟨l2, h2⟩, c, hp, hx⟩ := h
  exact ⟨pb, qb, cap, xs, e, ⟨l1, Nat.lt_of_lt_of_le h1 hs⟩, ⟨l2, Nat.lt_of_lt_of_le h2 hs⟩, (World.cell?_of_block (a := ⟨pb, 0, none⟩) (hk pb l1 h1)).trans c,
    ⟨hp.1, fun k t hk' => by obtain ⟨u, hu, hp'⟩ := hp.2 k t hk'; exact ⟨u, hu, hp'.keep hs hk⟩⟩, fun j u hj => (World.cell?_of_block (a := ⟨qb, j, none⟩) (hk qb l2 h2)).trans (hx j u hj)⟩
theorem Summed.below {g lo : Nat} {w w' : World} {v : Value} {ts : List T3} (h : Summed g lo w v ts) (hb : Below w.heap.size w w') : Summed g lo w' v ts := h.keep hb.size fun k _ hk => hb.block k hk
/-- Only block row turned, and it is not among the tasks' boxes. -/
theorem PartOf.grown {g lo row : Nat} {w w' : World} {u : Value} {t : T3} (h : PartOf g lo w u t) (hg : w.grownBy w' (some row)) (hr : row < lo) : PartOf g lo w' u t := by
  obtain ⟨tb, e, h0, h1, c0, c1, c2⟩ := h
  have hne : ∀ k, some (⟨tb, k, none⟩ : Addr).block ≠ some row := fun k => by simp; omega
  exact ⟨tb, e, h0, Nat.lt_of_lt_of_le h1 hg.size, hg.cell c0 (hne 0), hg.cell c1 (hne 1), hg.cell c2 (hne 2)⟩
theorem PartsOf.grown {g lo row : Nat} {w w' : World} {xs : List Value} {ts : List T3} (h : PartsOf g lo w xs ts) (hg : w.grownBy w' (some row)) (hr : row < lo) : PartsOf g lo w' xs ts :=
  ⟨h.1, fun k t hk => by obtain ⟨u, hu, hp⟩ := h.2 k t hk; exact ⟨u, hu, hp.grown hg hr⟩⟩
theorem PartOf.set {g lo row i : Nat} {w : World} {u v : Value} {t : T3} (h : PartOf g lo w u t) (hr : row < lo) : PartOf g lo (w.setCell ⟨row, i, none⟩ v) u t := by
  obtain ⟨tb, e, h0, h1, c0, c1, c2⟩ := h
  have hne : ∀ k, (⟨row, i, none⟩ : Addr).block ≠ (⟨tb, k, none⟩ : Addr).block := fun k => by simp; omega
  exact ⟨tb, e, h0, by simpa [World.setCell] using h1, (World.cell?_setCell_far _ _ _ _ (hne 0)).trans c0, (World.cell?_setCell_far _ _ _ _ (hne 1)).trans c1, (World.cell?_setCell_far _ _ _ _ (hne 2)).trans c2⟩
theorem PartsOf.set {g lo row i : Nat} {w : World} {xs : List Value} {v : Value} {ts : List T3} (h : PartsOf g lo w xs ts) (hr : row < lo) : PartsOf g lo (w.setCell ⟨row, i, none⟩ v) xs ts :=
  ⟨h.1, fun k t hk => by obtain ⟨u, hu, hp⟩ := h.2 k t hk; exact ⟨u, hu, hp.set hr⟩⟩
theorem PartOf.weaken {g lo lo' : Nat} {w : World} {u : Value} {t : T3} (h : PartOf g lo w u t) (hl : lo' ≤ lo) : PartOf g lo' w u t := by
  obtain ⟨tb, e, h0, r⟩ := h
  exact ⟨tb, e, Nat.le_trans hl h0, r⟩
theorem PartsOf.snoc {g lo k : Nat} {w : World} {xs : List Value} {ts : List T3} {t : T3} {u : Value} (h : PartsOf g lo w xs (ts.take k)) (hlt : k < ts.length) (ht : t = ts[k]) (hp : PartOf g lo w u t) : PartsOf g lo w (xs ++ [u]) (ts.take (k + 1)) := by
  have hl : (ts.take k).length = k := by rw [List.length_take]; omega
  have hx : xs.length = k := h.1.trans hl
  rw [take_succ hlt ht]
  refine ⟨by simp [hx, hl], fun j s hj => ?_⟩
  by_cases e : j < k
  · rw [List.getElem?_append_left (by omega)] at hj
    rw [List.getElem?_append_left (by omega)]
    exact h.2 j s hj
  · have hj2 := (List.getElem?_eq_some_iff.1 hj).1
    rw [List.length_append, hl] at hj2
    simp at hj2
    obtain rfl : j = k := by omega
    rw [List.getElem?_append_right (by omega), hl, Nat.sub_self] at hj
    simp at hj
    subst hj
    exact ⟨u, by rw [List.getElem?_append_right (by omega), hx, Nat.sub_self]; rfl, hp⟩

theorem partInfo : (Tryz.prog.info? 88).map (fun i => (i.zero, i.size, i.bytes)) = some (some .nilFunc, 1, 8) := by kernel_rfl
theorem run_make_parts (n : Nat) (hn : n ≤ 1099511627776) (w : World) :
    (Instr.makeSlice 113 (.int .i64 0) (.int .i64 (n : Int))).run Tryz.prog w = .ok (.slice (some ⟨w.heap.size, 0, none⟩) 0 n) (w.alloc (.cells (madeCells #[.nilFunc] n) 88)) := by
  obtain ⟨i, hi, hz, hs, hb⟩ := info_parts partInfo
  have h := run_make (P := Tryz.prog) w 113 88 i _ Tryz.underlying113 hi hz .i64 .i64 0 (n : Int) (by omega) (by omega) (by rw [hb]; omega) (by omega)
  rw [hs] at h
  simpa [Value.cells] using h

theorem own_parts (w : World) (n : Nat) (hn : n ≤ 1048576) : (w.alloc (.cells (madeCells #[.nilFunc] n) 88)).ownsRow w.heap.size 88 1 (.slice (some ⟨w.heap.size, 0, none⟩) 0 n) 0 [] :=
  ⟨rfl, .inr ⟨w.heap.size, n, _, rfl, Nat.le_refl _, blk_alloc_new _ _, Nat.zero_le _, by unfold maxLen; omega, by rw [size_madeCells, Nat.mul_one], by simp⟩⟩
theorem summed_end {g : Nat} {w wr : World} {ts : List T3} {xs : List Value} (ho : wr.ownsRow w.heap.size 88 1 (.slice (some ⟨w.heap.size, 0, none⟩) ts.length ts.length) ts.length xs)
    (hp : PartsOf g (w.heap.size + 2) wr xs (ts.take ts.length)) (hs : w.heap.size + 2 ≤ wr.heap.size) (cp : wr.cell? ⟨w.heap.size + 1, 0, none⟩ = some (.slice (some ⟨w.heap.size, 0, none⟩) ts.length ts.length)) :
    Summed g w.heap.size wr (.func (.func 99) #[] #[.pointer (some ⟨w.heap.size + 1, 0, none⟩)]) ts := by
  rw [List.take_length] at hp
  refine ⟨w.heap.size + 1, w.heap.size, ts.length, xs, rfl, by omega, by omega, cp, ⟨hp.1, fun k t hk => ?_⟩, fun j u hj => ?_⟩
  · obtain ⟨u, hu, h⟩ := hp.2 k t hk
    exact ⟨u, hu, h.weaken (by omega)⟩
  · have h := ho.cells (g := w.heap.size) rfl j u hj
    rw [Addr.add_lit, Nat.zero_add] at h
    exact h

/-- append within the capacity, in a region that draws. -/
theorem wp_append_fits {P : Program} (w : World) {o : Oper} {a : Act} {K : Act → World → Prop} {Q : Exit → Act → World → Prop} (s x : Operand) (t : TypeId)
    (hop : o.op = Op.call { callee := Callee.builtin Builtin.append, args := #[s, x], argTypes := #[t, t] })
    (base : Nat) (e : TypeId) (i : TypeInfo) (size : Nat) (h1 : P.underlying t = some (.slice e)) (h2 : P.info? e = some i) (h4 : i.size = size)
    (g k cap : Nat) (xs : List Value) (hs : a.eval s = .slice (some ⟨g, 0, none⟩) k cap) (hown : w.ownsRow base e size (.slice (some ⟨g, 0, none⟩) k cap) k xs) (ad : Addr) (m c : Nat) (news : List Value) (hx : a.eval x = .slice (some ad) m c) (hn : news.length = m * size)
    (hc : ∀ j u, news[j]? = some u → w.cell? (ad.add j) = some u) (h1c : ∀ u ∈ news, u.oneCell' = true) (b1 : k + m ≤ cap)
    (hK : ∀ w', w'.ownsRow base e size (.slice (some ⟨g, 0, none⟩) (k + m) cap) (k + m) (xs ++ news) → w.grownBy w' (some g) → K (a.put o.dst (.slice (some ⟨g, 0, none⟩) (k + m) cap)) w') : o.wp P a w K Q := by
  obtain ⟨w', hrun, r1, r2⟩ := run_append_fits (P := P) w base t o.type e i size h1 h2 h4 g k cap xs hown ad m c news hn hc h1c b1
  unfold Oper.wp execOp
  simp only [hop, resolve, invoke, builtin, Sem.run_bind, Sem.run_pure, Result.andThen_ok, List.map_toArray, List.map_cons, List.map_nil, hs, hx, hrun]
  exact hK w' r1 r2
theorem fn_news (w : World) (u : Value) (t : TypeId) (b : Nat) (hb : b = w.heap.size) : ∀ (j : Nat) (v : Value), [u][j]? = some v → (w.alloc (.cells #[u] t)).drew.cell? ((⟨b, 0, none⟩ : Addr).add j) = some v := by
  intro j v hj
  subst hb
  match j, hj with
  | 0, hj => simp at hj; subst hj; simp [Addr.add, go_sem]
  | j + 1, hj => simp at hj
theorem fn_one (g : Nat) (xs : Array Value) : ∀ v ∈ [Value.func (.func g) #[] xs], v.oneCell' = true := by
  intro v hv
  simp at hv
  subst hv
  rfl
/-- Three cells of a block. -/
abbrev Tri (w : World) (b : Nat) (c d p : Int) : Prop := w.cell? ⟨b, 0, none⟩ = some (.int .i64 c) ∧ w.cell? ⟨b, 1, none⟩ = some (.int .i64 d) ∧ w.cell? ⟨b, 2, none⟩ = some (.int .i64 p)
theorem Tri.new (w : World) (c d p : Int) (t : TypeId) : Tri (w.alloc (.cells #[.int .i64 c, .int .i64 d, .int .i64 p] t)) w.heap.size c d p := ⟨by go_simp, by go_simp, by go_simp⟩
theorem Tri.newAt (w : World) (b : Nat) (hb : b = w.heap.size) (c d p : Int) (t : TypeId) : Tri (w.alloc (.cells #[.int .i64 c, .int .i64 d, .int .i64 p] t)) b c d p := by rw [hb]; exact Tri.new w c d p t
theorem Tri.alloc {w : World} {b : Nat} {c d p : Int} (h : Tri w b c d p) (o : Obj) : Tri (w.alloc o) b c d p :=
  ⟨by rw [World.cell?_alloc_some _ _ _ (by rw [h.1]; rfl)]; exact h.1, by rw [World.cell?_alloc_some _ _ _ (by rw [h.2.1]; rfl)]; exact h.2.1, by rw [World.cell?_alloc_some _ _ _ (by rw [h.2.2]; rfl)]; exact h.2.2⟩
theorem Tri.grown {w w' : World} {b r : Nat} {c d p : Int} (h : Tri w b c d p) (hg : w.grownBy w' (some r)) (hr : r ≠ b) : Tri w' b c d p :=
  have hne : ∀ k, some (⟨b, k, none⟩ : Addr).block ≠ some r := fun k => by simp; omega
  ⟨hg.cell h.1 (hne 0), hg.cell h.2.1 (hne 1), hg.cell h.2.2 (hne 2)⟩
theorem Tri.set {w : World} {b r i : Nat} {c d p : Int} {v : Value} (h : Tri w b c d p) (hr : r ≠ b) : Tri (w.setCell ⟨r, i, none⟩ v) b c d p :=
  have hne : ∀ k, (⟨r, i, none⟩ : Addr).block ≠ (⟨b, k, none⟩ : Addr).block := fun k => by simp; omega
  ⟨(World.cell?_setCell_far _ _ _ _ (hne 0)).trans h.1, (World.cell?_setCell_far _ _ _ _ (hne 1)).trans h.2.1, (World.cell?_setCell_far _ _ _ _ (hne 2)).trans h.2.2⟩
theorem Tri.part {g lo b : Nat} {w : World} {c d p : Int} (h : Tri w b c d p) (hl : lo ≤ b) : PartOf g lo w (.func (.func g) #[] #[.pointer (some ⟨b, 0, none⟩)]) (c, d, p) :=
  ⟨b, rfl, hl, World.block_lt_of_cell? w ⟨b, 0, none⟩ h.1, h.1, h.2.1, h.2.2⟩
theorem summed_step {g k n : Nat} {w wr w3 w5 : World} {ts : List T3} {xs : List Value} {t : T3} {u v0 : Value} (hlt : k < ts.length) (ht : t = ts[k]) (hp : PartsOf g (w.heap.size + 2) wr xs (ts.take k)) (hsz : w.heap.size + 2 ≤ wr.heap.size)
    (cp : wr.cell? ⟨w.heap.size + 1, 0, none⟩ = some v0) (fp : wr.frozen? ⟨w.heap.size + 1, 0, none⟩ = false) (B : Below w.heap.size w wr) (b3 : Below wr.heap.size wr w3) (pt : PartOf g (w.heap.size + 2) w3 u t)
    (ho : w5.ownsRow w.heap.size 88 1 (.slice (some ⟨w.heap.size, 0, none⟩) (k + 1) n) (k + 1) (xs ++ [u])) (hg : w3.grownBy w5 (some w.heap.size)) (v : Value) :
    (w5.setCell ⟨w.heap.size + 1, 0, none⟩ v).ownsRow w.heap.size 88 1 (.slice (some ⟨w.heap.size, 0, none⟩) (k + 1) n) (k + 1) (xs ++ [u]) ∧
    PartsOf g (w.heap.size + 2) (w5.setCell ⟨w.heap.size + 1, 0, none⟩ v) (xs ++ [u]) (ts.take (k + 1)) ∧ w.heap.size + 2 ≤ (w5.setCell ⟨w.heap.size + 1, 0, none⟩ v).heap.size ∧
    (w5.setCell ⟨w.heap.size + 1, 0, none⟩ v).cell? ⟨w.heap.size + 1, 0, none⟩ = some v ∧ (w5.setCell ⟨w.heap.size + 1, 0, none⟩ v).frozen? ⟨w.heap.size + 1, 0, none⟩ = false ∧ Below w.heap.size w (w5.setCell ⟨w.heap.size + 1, 0, none⟩ v) := by
  have hlt1 : w.heap.size + 1 < wr.heap.size := by omega
  have c3 := (b3.cell (p := ⟨w.heap.size + 1, 0, none⟩) hlt1).trans cp
  have f3 := (b3.frozen (p := ⟨w.heap.size + 1, 0, none⟩) hlt1).trans fp
  have c5 := hg.cell c3 (by simp)
  have f5 : w5.frozen? ⟨w.heap.size + 1, 0, none⟩ = false := (World.frozen?_of_block (hg.block (w.heap.size + 1) (Nat.lt_of_lt_of_le hlt1 b3.size) (by simp))).trans f3
  have h35 := hg.size
  have h13 := b3.size
  refine ⟨ownsRow_setCell_other ho (by simp [Value.ownBlock]) _, (((hp.below b3).snoc hlt ht pt).grown hg (by omega)).set (by omega), by simp [World.setCell]; omega, by simp [go_sem, c5], by simp [go_sem, f5], ?_⟩
  exact (((B.trans (b3.mono B.size)).grown hg (by omega) (fun j hj => by simp at hj; omega))).setCell (by simp) _

/-- Task.demand's closure. -/
theorem demand1_any (tb : Nat) (t : T3) (x : Nat) (w : World) (hv : tv t = true) (hx : x ≤ 100000)
    (c0 : w.cell? ⟨tb, 0, none⟩ = some (.int .i64 t.1)) (c1 : w.cell? ⟨tb, 1, none⟩ = some (.int .i64 t.2.1)) (c2 : w.cell? ⟨tb, 2, none⟩ = some (.int .i64 t.2.2)) :
    Calls Tryz.prog 100 #[.int .i64 x, .pointer (some ⟨tb, 0, none⟩)] w fun e w' =>
      e = .returned (.int .i64 (dem1 t x : Nat)) ∧ ∃ n, w' = w.drewN n := by
  obtain ⟨q, hq⟩ : ∃ q, q = per t := ⟨_, rfl⟩
  obtain ⟨c, hc⟩ : ∃ c, c = cst t := ⟨_, rfl⟩
  obtain ⟨d, hd⟩ : ∃ d, d = dln t := ⟨_, rfl⟩
  have hb := tv_bd hv
  rw [← hq, ← hc, ← hd] at hb
  obtain ⟨p1, p2, p3, p4, p5, p6, p7, p8⟩ := hb
  rw [← p6] at c0
  rw [← p7] at c1
  rw [← p8] at c2
  have HQ := Lib.hid hq
  have HC := Lib.hid hc
  have HD := Lib.hid hd
  clear hq hc hd p6 p7 p8 hv
  by_cases hdx : d ≤ x
  · have hdx' : ¬ (x : Int) < d := by omega
    have hne : ((q : Int) == 0) = false := by simp; omega
    have hs0 : (0 : Int) ≤ (x : Int) - d := by omega
    have hq0 : (0 : Int) ≤ ((x : Int) - d) / q := Int.ediv_nonneg (by omega) (by omega)
    have hq1 : ((x : Int) - d) / q ≤ 100000 := Int.le_trans (Int.ediv_le_self _ hs0) (by omega)
    have hm0 : (0 : Int) ≤ (((x : Int) - d) / q + 1) * c := Int.mul_nonneg (by omega) (by omega)
    have hm1 : (((x : Int) - d) / q + 1) * c ≤ 800008 := Int.le_trans (Int.mul_le_mul (show ((x : Int) - d) / q + 1 ≤ 100001 by omega) (show (c : Int) ≤ 8 by omega) (by omega) (by omega)) (by omega)
    go_enter Tryz.func100, Tryz.ntmps100
    go_wp2
    go_quiet (fail)
    go_wp2
    go_ret
    refine ⟨ret_int ?_, nq, rfl⟩
    unfold dem1
    rw [← HD.out, if_pos hdx, ← HC.out, ← HQ.out]
    have e : (x : Int) - d = ((x - d : Nat) : Int) := by omega
    rw [e]
    simp
  · have hdx' : (x : Int) < d := by omega
    go_enter Tryz.func100, Tryz.ntmps100
    go_wp2
    go_ret
    refine ⟨ret_int ?_, 0, rfl⟩
    unfold dem1
    rw [← HD.out, if_neg hdx]
    rfl

/-- Task.released's closure. -/
theorem released1_any (tb : Nat) (t : T3) (x : Nat) (w : World) (hv : tv t = true) (hx : x ≤ 100000)
    (c0 : w.cell? ⟨tb, 0, none⟩ = some (.int .i64 t.1)) (c2 : w.cell? ⟨tb, 2, none⟩ = some (.int .i64 t.2.2)) :
    Calls Tryz.prog 131 #[.int .i64 x, .pointer (some ⟨tb, 0, none⟩)] w fun e w' =>
      e = .returned (.int .i64 (wk1 t x : Nat)) ∧ ∃ n, w' = w.drewN n := by
  obtain ⟨q, hq⟩ : ∃ q, q = per t := ⟨_, rfl⟩
  obtain ⟨c, hc⟩ : ∃ c, c = cst t := ⟨_, rfl⟩
  have hb := tv_bd hv
  rw [← hq, ← hc] at hb
  obtain ⟨p1, p2, p3, p4, p5, p6, _, p8⟩ := hb
  have p9 : 1 ≤ q := by omega
  rw [← p6] at c0
  rw [← p8] at c2
  have HQ := Lib.hid hq
  have HC := Lib.hid hc
  clear hq hc p2 p3 p6 p8 hv
  have hne : ((q : Int) == 0) = false := by simp; omega
  have hs0 : (0 : Int) ≤ (x : Int) + q - 1 := by omega
  have hq0 : (0 : Int) ≤ ((x : Int) + q - 1) / q := Int.ediv_nonneg (by omega) (by omega)
  have hq1 : ((x : Int) + q - 1) / q ≤ 100012 := Int.le_trans (Int.ediv_le_self _ hs0) (by omega)
  have hm0 : (0 : Int) ≤ ((x : Int) + q - 1) / q * c := Int.mul_nonneg hq0 (by omega)
  have hm1 : ((x : Int) + q - 1) / q * c ≤ 800096 := Int.le_trans (Int.mul_le_mul hq1 (show (c : Int) ≤ 8 by omega) (by omega) (by omega)) (by omega)
  go_enter Tryz.func131, Tryz.ntmps131
  go_wp2
  go_quiet (fail)
  go_wp2
  go_ret
  refine ⟨ret_int ?_, nq, rfl⟩
  unfold wk1
  rw [← HC.out, ← HQ.out]
  have e : (x : Int) + q - 1 = ((x + q - 1 : Nat) : Int) := by omega
  rw [e]
  simp

/-- Task.demand: the task is boxed. -/
theorem demandM_any (c d p : Int) (w : World) : Calls Tryz.prog 70 #[.agg #[.int .i64 c, .int .i64 d, .int .i64 p]] w fun e w' =>
    e = .returned (.func (.func 100) #[] #[.pointer (some ⟨w.heap.size, 0, none⟩)]) ∧ w' = w.alloc (.cells #[.int .i64 c, .int .i64 d, .int .i64 p] 29) := by
  go_enter Tryz.func70, Tryz.ntmps70
  go_wp2
  go_ret
  exact ⟨rfl, rfl⟩

/-- Task.released: the task is boxed. -/
theorem releasedM_any (c d p : Int) (w : World) : Calls Tryz.prog 110 #[.agg #[.int .i64 c, .int .i64 d, .int .i64 p]] w fun e w' =>
    e = .returned (.func (.func 131) #[] #[.pointer (some ⟨w.heap.size, 0, none⟩)]) ∧ w' = w.alloc (.cells #[.int .i64 c, .int .i64 d, .int .i64 p] 29) := by
  go_enter Tryz.func110, Tryz.ntmps110
  go_wp2
  go_ret
  exact ⟨rfl, rfl⟩

set_option maxHeartbeats 1000000 in
/-- The closure of summed, over the closures of Task.demand. -/
theorem summed1_demand {lo : Nat} (v : Value) (ts : List T3) (x : Nat) (w : World) (hs : Summed 100 lo w v ts) (hv : svB ts = true) (hx : x ≤ 100000) :
    ∃ pb, v = .func (.func 99) #[] #[.pointer (some ⟨pb, 0, none⟩)] ∧
    Calls Tryz.prog 99 #[.int .i64 x, .pointer (some ⟨pb, 0, none⟩)] w fun e w' =>
      e = .returned (.int .i64 (dem ts x : Nat)) ∧ ∃ n, w' = w.drewN n := by
  obtain ⟨pb, qb, cap, xs, hv0, ⟨_, hpb⟩, ⟨_, hqb⟩, cp, hps, hxs⟩ := hs
  refine ⟨pb, hv0, ?_⟩
  clear hv0
  have hn : ts.length ≤ 5 := (sv_all hv).2
  have HV := Lib.hid hv
  have HP := Lib.hid hps
  have HX := Lib.hid hxs
  clear hv hps hxs
  go_enter Tryz.func99, Tryz.ntmps99
  go_wp2
  go_loopg [4, 9] ts.length (fun n s i wr => ∃ k : Nat, n + k = ts.length ∧ i = .int .i64 k ∧ s = .int .i64 (dem (ts.take k) x : Nat) ∧ ∃ m, wr = w.drewN m)
  case atStart => exact ⟨0, rfl, rfl, rfl, 0, rfl⟩
  case round =>
    obtain ⟨k, hk, rfl, rfl, m, hwr⟩ := hrel
    have HW := Lib.hid hwr
    have HK := Lib.hid hk
    have hk' : k ≤ ts.length := by omega
    clear hk
    obtain ⟨S, hS⟩ : ∃ S, S = dem (ts.take k) x := ⟨_, rfl⟩
    have hsb := dem_take_le HV.out x k hx
    rw [← hS] at hsb ⊢
    have HS := Lib.hid hS
    clear hS
    by_cases hlt : k < ts.length
    · obtain ⟨t, ht⟩ : ∃ t, t = ts[k] := ⟨_, rfl⟩
      obtain ⟨u, hu, tb, rfl, _, htb, c0, c1, c2⟩ := HP.out.2 k t (by rw [ht]; exact List.getElem?_eq_getElem hlt)
      have htv := all_at (sv_all HV.out).1 hlt ht
      have g0 : wr.cell? ⟨qb, k, none⟩ = some (.func (.func 100) #[] #[.pointer (some ⟨tb, 0, none⟩)]) := by rw [hwr]; exact HX.out k _ hu
      have C := Lib.hid (demand1_any tb t x wr htv hx (by rw [hwr]; exact c0) (by rw [hwr]; exact c1) (by rw [hwr]; exact c2))
      obtain ⟨y, hy⟩ : ∃ y, y = dem1 t x := ⟨_, rfl⟩
      have hyb : y ≤ 1000000 := by rw [hy]; exact Nat.le_trans (dem1_le htv x) (by omega)
      have HT := Lib.hid ht
      have HY := Lib.hid hy
      rw [← hy] at C
      clear ht hy c0 c1 c2 hwr htv hu
      have hk0 : (0 : Int) ≤ k := by omega
      have hk1 : (k : Int) < ts.length := by omega
      go_wp2_with (go_at_call 100; refine C.out.mono ?_; rintro e w1 ⟨rfl, n1, hw1⟩)
      go_roundg (gk - 1)
      case measure => have := HK.out; omega
      case rel => exact ⟨k + 1, by have := HK.out; omega, by go_num, by rw [take_succ hlt HT.out, dem_snoc, ← HS.out, ← HY.out]; go_num, m + n1, by rw [HW.out, World.drewN_drewN]⟩
    · clear hwr
      obtain rfl : k = ts.length := by omega
      go_wp2
      go_ret
      exact ⟨ret_int (by rw [HS.out, List.take_length]), m, HW.out⟩

set_option maxHeartbeats 1000000 in
/-- The closure of summed, over the closures of Task.released. -/
theorem summed1_released {lo : Nat} (v : Value) (ts : List T3) (x : Nat) (w : World) (hs : Summed 131 lo w v ts) (hv : svB ts = true) (hx : x ≤ 100000) :
    ∃ pb, v = .func (.func 99) #[] #[.pointer (some ⟨pb, 0, none⟩)] ∧
    Calls Tryz.prog 99 #[.int .i64 x, .pointer (some ⟨pb, 0, none⟩)] w fun e w' =>
      e = .returned (.int .i64 (wk ts x : Nat)) ∧ ∃ n, w' = w.drewN n := by
  obtain ⟨pb, qb, cap, xs, hv0, ⟨_, hpb⟩, ⟨_, hqb⟩, cp, hps, hxs⟩ := hs
  refine ⟨pb, hv0, ?_⟩
  clear hv0
  have hn : ts.length ≤ 5 := (sv_all hv).2
  have HV := Lib.hid hv
  have HP := Lib.hid hps
  have HX := Lib.hid hxs
  clear hv hps hxs
  go_enter Tryz.func99, Tryz.ntmps99
  go_wp2
  go_loopg [4, 9] ts.length (fun n s i wr => ∃ k : Nat, n + k = ts.length ∧ i = .int .i64 k ∧ s = .int .i64 (wk (ts.take k) x : Nat) ∧ ∃ m, wr = w.drewN m)
  case atStart => exact ⟨0, rfl, rfl, rfl, 0, rfl⟩
  case round =>
    obtain ⟨k, hk, rfl, rfl, m, hwr⟩ := hrel
    have HW := Lib.hid hwr
    have HK := Lib.hid hk
    have hk' : k ≤ ts.length := by omega
    clear hk
    obtain ⟨S, hS⟩ : ∃ S, S = wk (ts.take k) x := ⟨_, rfl⟩
    have hsb := wk_take_le HV.out x k hx
    rw [← hS] at hsb ⊢
    have HS := Lib.hid hS
    clear hS
    by_cases hlt : k < ts.length
    · obtain ⟨t, ht⟩ : ∃ t, t = ts[k] := ⟨_, rfl⟩
      obtain ⟨u, hu, tb, rfl, _, htb, c0, c1, c2⟩ := HP.out.2 k t (by rw [ht]; exact List.getElem?_eq_getElem hlt)
      have htv := all_at (sv_all HV.out).1 hlt ht
      have g0 : wr.cell? ⟨qb, k, none⟩ = some (.func (.func 131) #[] #[.pointer (some ⟨tb, 0, none⟩)]) := by rw [hwr]; exact HX.out k _ hu
      have C := Lib.hid (released1_any tb t x wr htv hx (by rw [hwr]; exact c0) (by rw [hwr]; exact c2))
      obtain ⟨y, hy⟩ : ∃ y, y = wk1 t x := ⟨_, rfl⟩
      have hyb : y ≤ 1000000 := by rw [hy]; exact Nat.le_trans (wk1_le htv x) (by omega)
      have HT := Lib.hid ht
      have HY := Lib.hid hy
      rw [← hy] at C
      clear ht hy c0 c1 c2 hwr htv hu
      have hk0 : (0 : Int) ≤ k := by omega
      have hk1 : (k : Int) < ts.length := by omega
      go_wp2_with (go_at_call 131; refine C.out.mono ?_; rintro e w1 ⟨rfl, n1, hw1⟩)
      go_roundg (gk - 1)
      case measure => have := HK.out; omega
      case rel => exact ⟨k + 1, by have := HK.out; omega, by go_num, by rw [take_succ hlt HT.out, wk_snoc, ← HS.out, ← HY.out]; go_num, m + n1, by rw [HW.out, World.drewN_drewN]⟩
    · clear hwr
      obtain rfl : k = ts.length := by omega
      go_wp2
      go_ret
      exact ⟨ret_int (by rw [HS.out, List.take_length]), m, HW.out⟩

set_option maxHeartbeats 2000000 in
/-- summed, over Task.demand. -/
theorem summed_demand (a : Option Addr) (cap : Nat) (ts : List T3) (w : World) (hr : Row w a ts) (hn : ts.length ≤ 5) :
    Calls Tryz.prog 69 #[.slice a ts.length cap, .func (.func 70) #[] #[]] w fun e w' =>
      ∃ v, e = .returned v ∧ Summed 100 w.heap.size w' v ts ∧ Below w.heap.size w w' := by
  obtain ⟨i0, hi, hz, hsz, hby⟩ := info_parts partInfo
  have HI := Lib.hid (And.intro hi (And.intro hz (And.intro hsz hby)))
  clear hi hz hsz hby
  have hmk := run_make_parts ts.length (by omega)
  have HR := Lib.hid hr
  clear hr
  go_enter Tryz.func69, Tryz.ntmps69
  go_wp2
  clear hmk
  go_loopg [13] ts.length (fun n i wr => ∃ (k : Nat) (xs : List Value), n + k = ts.length ∧ i = .int .i64 k ∧ wr.ownsRow w.heap.size 88 1 (.slice (some ⟨w.heap.size, 0, none⟩) k ts.length) k xs ∧
    PartsOf 100 (w.heap.size + 2) wr xs (ts.take k) ∧ w.heap.size + 2 ≤ wr.heap.size ∧ wr.cell? ⟨w.heap.size + 1, 0, none⟩ = some (.slice (some ⟨w.heap.size, 0, none⟩) k ts.length) ∧
    wr.frozen? ⟨w.heap.size + 1, 0, none⟩ = false ∧ Below w.heap.size w wr)
  case atStart => exact ⟨0, [], rfl, rfl, (own_parts w ts.length (by omega)).alloc _, ⟨rfl, fun k t h => by simp at h⟩, by simp, by go_simp, by go_simp, (below_box _ _).alloc (by simp) _⟩
  case round =>
    obtain ⟨k, xs, hk, rfl, hown, hps, hsz, cp, fp, B⟩ := hrel
    have HK := Lib.hid hk
    have HO := Lib.hid hown
    have HP := Lib.hid hps
    have HB := Lib.hid B
    have hkk : k ≤ ts.length := by omega
    clear hk hown hps
    by_cases hlt : k < ts.length
    · obtain ⟨b, off, rfl, hbs, hc0, hc1, hc2⟩ := HR.out k _ (List.getElem?_eq_getElem hlt)
      obtain ⟨⟨c, d, p⟩, ht⟩ : ∃ t, t = ts[k] := ⟨_, rfl⟩
      rw [← ht] at hc0 hc1 hc2
      have g0 := (B.cell (p := ⟨b, off + k * 3, none⟩) hbs).trans hc0
      have g1 := (B.cell (p := ⟨b, off + k * 3 + 1, none⟩) hbs).trans hc1
      have g2 := (B.cell (p := ⟨b, off + k * 3 + 2, none⟩) hbs).trans hc2
      have HT := Lib.hid ht
      clear ht hc0 hc1 hc2 B
      simp only at g0 g1 g2
      have hk0 : (0 : Int) ≤ k := by omega
      have hk1 : (k : Int) < ts.length := by omega
      have hne : w.heap.size + 1 ≠ wr.heap.size := by omega
      have hlt1 : w.heap.size + 1 < wr.heap.size := by omega
      have cpB : ∀ o1 o2, ((wr.alloc o1).alloc o2).cell? ⟨w.heap.size + 1, 0, none⟩ = some (.slice (some ⟨w.heap.size, 0, none⟩) k ts.length) := fun o1 o2 => (((below_box wr o1).alloc (by simp) o2).cell (p := ⟨w.heap.size + 1, 0, none⟩) hlt1).trans cp
      have cpC : ∀ o1 o2 o3, (((wr.alloc o1).alloc o2).alloc o3).cell? ⟨w.heap.size + 1, 0, none⟩ = some (.slice (some ⟨w.heap.size, 0, none⟩) k ts.length) := fun o1 o2 o3 => ((((below_box wr o1).alloc (by simp) o2).alloc (by simp <;> omega) o3).cell (p := ⟨w.heap.size + 1, 0, none⟩) hlt1).trans cp
      have fpC : ∀ o1 o2 o3, (((wr.alloc o1).alloc o2).alloc o3).frozen? ⟨w.heap.size + 1, 0, none⟩ = false := fun o1 o2 o3 => ((((below_box wr o1).alloc (by simp) o2).alloc (by simp <;> omega) o3).frozen (p := ⟨w.heap.size + 1, 0, none⟩) hlt1).trans fp
      have hne2 : w.heap.size ≠ wr.heap.size := by omega
      have hne3 : w.heap.size ≠ wr.heap.size + 1 := by omega
      go_wp2
      refine wp_region_noPanic ?_
      refine wp_region_held_drew (S := fun w' => Tri w' wr.heap.size c d p) (by kernel_rfl) ?_ (fun hHeld => ?_)
      · (try dsimp only)
        first | exact Tri.new _ _ _ _ _ | exact hHeld | exact Tri.alloc hHeld _ | exact Tri.grown hHeld HG5.out (by omega) | exact Tri.set hHeld (by omega)
      refine wpAnyH_take (i := 1) (v := ?_) (toArr_get _ 1 _ rfl) (by kernel_rfl) (by kernel_rfl) (by kernel_rfl) (fun _ _ _ h => h) (Or.inl ⟨by rfl, ?_⟩) (by assumption) ?_
      rotate_left
      · (intro w hSw; (try dsimp only at hSw); go_simp; (try with_reducible rfl))
      (try simp only [Act.put, List.setIfInBounds_toArray, List.set_cons_zero, List.set_cons_succ])
      refine wpAnyH_take (i := 2) (v := ?_) (toArr_get _ 2 _ rfl) (by kernel_rfl) (by kernel_rfl) (by kernel_rfl) (fun _ _ _ h => h) (Or.inl ⟨by rfl, ?_⟩) (by assumption) ?_
      rotate_left
      · (intro w hSw; (try dsimp only at hSw); go_simp; (try with_reducible rfl))
      (try simp only [Act.put, List.setIfInBounds_toArray, List.set_cons_zero, List.set_cons_succ])
      refine wpAnyH_ready (rs := [0, 3]) (by kernel_rfl) (by simp) ?_
      refine AllReadyH.cons (toArr_get _ 0 _ rfl) (fun K hK => ?_) ?_
      · go_simp
        refine hK.out _ _ ?_ (fun hHeld2 => ?_)
        · (try dsimp only)
          first | exact Tri.new _ _ _ _ _ | exact hHeld | exact Tri.alloc hHeld _ | exact Tri.grown hHeld HG5.out (by omega) | exact Tri.set hHeld (by omega)
        clear hK K hHeld
        have hHeld := hHeld2
        clear hHeld2
        (try simp only [Act.put, List.setIfInBounds_toArray, List.set_cons_zero, List.set_cons_succ])
        refine wpAnyH_ready (rs := [3]) (by kernel_rfl) (by simp) ?_
        refine AllReadyH.cons (toArr_get _ 3 _ rfl) (fun K hK => ?_) ?_
        · go_simp
          refine (demandM_any _ _ _ _).mono ?_
          rintro e w1 ⟨rfl, rfl⟩
          go_wp2_with fail
          refine hK.out _ _ ?_ (fun hHeld2 => ?_)
          · (try dsimp only)
            first | exact Tri.new _ _ _ _ _ | exact hHeld | exact Tri.alloc hHeld _ | exact Tri.grown hHeld HG5.out (by omega) | exact Tri.set hHeld (by omega)
          clear hK K hHeld
          have hHeld := hHeld2
          clear hHeld2
          (try simp only [Act.put, List.setIfInBounds_toArray, List.set_cons_zero, List.set_cons_succ])
          refine wpAnyH_ready (rs := [4]) (by kernel_rfl) (by simp) ?_
          refine AllReadyH.cons (toArr_get _ 4 _ rfl) (fun K hK => ?_) ?_
          · go_simp
            refine hK.out _ _ ?_ (fun hHeld2 => ?_)
            · (try dsimp only)
              first | exact Tri.new _ _ _ _ _ | exact hHeld | exact Tri.alloc hHeld _ | exact Tri.grown hHeld HG5.out (by omega) | exact Tri.set hHeld (by omega)
            clear hK K hHeld
            have hHeld := hHeld2
            clear hHeld2
            (try simp only [Act.put, List.setIfInBounds_toArray, List.set_cons_zero, List.set_cons_succ])
            refine wpAnyH_ready (rs := [5]) (by kernel_rfl) (by simp) ?_
            refine AllReadyH.cons (toArr_get _ 5 _ rfl) (fun K hK => ?_) ?_
            · rw [if_pos (by rfl)]
              refine wp_append_fits _ (.tmp 17) (.tmp 21) 113 rfl w.heap.size 88 i0 1 Tryz.underlying113 HI.out.1 HI.out.2.2.1 w.heap.size k ts.length xs rfl (World.ownsRow.drew (World.ownsRow.alloc (World.ownsRow.alloc (World.ownsRow.alloc HO.out _) _) _)) ⟨wr.heap.size + 1 + 1, 0, none⟩ 1 1 [.func (.func 100) #[] #[.pointer (some ⟨wr.heap.size + 1, 0, none⟩)]] rfl rfl (fn_news ((wr.alloc _).alloc _) _ _ _ (by simp)) (fn_one _ _) (by omega) ?_
              intro w5 hown5 hgrow5
              have HO5 := Lib.hid hown5
              have HG5 := Lib.hid hgrow5
              clear hown5 hgrow5
              have cp5 : w5.cell? ⟨w.heap.size + 1, 0, none⟩ = some (.slice (some ⟨w.heap.size, 0, none⟩) k ts.length) := HG5.out.cell (cpC _ _ _) (by simp)
              have fp5 : w5.frozen? ⟨w.heap.size + 1, 0, none⟩ = false := (World.frozen?_of_block (HG5.out.block (w.heap.size + 1) (by simp; omega) (by simp))).trans (fpC _ _ _)
              refine hK.out _ _ ?_ (fun hHeld2 => ?_)
              · (try dsimp only)
                first | exact Tri.new _ _ _ _ _ | exact hHeld | exact Tri.alloc hHeld _ | exact Tri.grown hHeld HG5.out (by omega) | exact Tri.set hHeld (by omega)
              clear hK K hHeld
              have hHeld := hHeld2
              clear hHeld2
              (try simp only [Act.put, List.setIfInBounds_toArray, List.set_cons_zero, List.set_cons_succ])
              refine wpAnyH_ready (rs := [6]) (by kernel_rfl) (by simp) ?_
              refine AllReadyH.cons (toArr_get _ 6 _ rfl) (fun K hK => ?_) ?_
              · go_simp
                refine hK.out _ _ ?_ (fun hHeld2 => ?_)
                · (try dsimp only)
                  first | exact Tri.new _ _ _ _ _ | exact hHeld | exact Tri.alloc hHeld _ | exact Tri.grown hHeld HG5.out (by omega) | exact Tri.set hHeld (by omega)
                clear hK K hHeld
                have hHeld := hHeld2
                clear hHeld2
                (try simp only [Act.put, List.setIfInBounds_toArray, List.set_cons_zero, List.set_cons_succ])
                refine wpAnyH_done (by kernel_rfl) ?_ _
                refine NoPanic.normal ?_
                go_wp2
                go_roundg (gk - 1)
                case measure => have := HK.out; omega
                case rel => exact ⟨k + 1, _, by have := HK.out; omega, by go_num, summed_step hlt HT.out HP.out hsz cp fp HB.out ((((below_box _ _).alloc (by simp) _).alloc (by simp <;> omega) _).drew) (Tri.part (show Tri (((wr.alloc _).alloc _).alloc _).drew (wr.heap.size + 1) c d p from Tri.alloc (Tri.newAt (wr.alloc _) (wr.heap.size + 1) (by simp) c d p _) _) (by omega)) HO5.out HG5.out _⟩
              exact AllReadyH.nil
            exact AllReadyH.nil
          exact AllReadyH.nil
        exact AllReadyH.nil
      refine AllReadyH.cons (toArr_get _ 3 _ rfl) (fun K hK => ?_) ?_
      · go_simp
        refine (demandM_any _ _ _ _).mono ?_
        rintro e w1 ⟨rfl, rfl⟩
        go_wp2_with fail
        refine hK.out _ _ ?_ (fun hHeld2 => ?_)
        · (try dsimp only)
          first | exact Tri.new _ _ _ _ _ | exact hHeld | exact Tri.alloc hHeld _ | exact Tri.grown hHeld HG5.out (by omega) | exact Tri.set hHeld (by omega)
        clear hK K hHeld
        have hHeld := hHeld2
        clear hHeld2
        (try simp only [Act.put, List.setIfInBounds_toArray, List.set_cons_zero, List.set_cons_succ])
        refine wpAnyH_ready (rs := [0, 4]) (by kernel_rfl) (by simp) ?_
        refine AllReadyH.cons (toArr_get _ 0 _ rfl) (fun K hK => ?_) ?_
        · go_simp
          refine hK.out _ _ ?_ (fun hHeld2 => ?_)
          · (try dsimp only)
            first | exact Tri.new _ _ _ _ _ | exact hHeld | exact Tri.alloc hHeld _ | exact Tri.grown hHeld HG5.out (by omega) | exact Tri.set hHeld (by omega)
          clear hK K hHeld
          have hHeld := hHeld2
          clear hHeld2
          (try simp only [Act.put, List.setIfInBounds_toArray, List.set_cons_zero, List.set_cons_succ])
          refine wpAnyH_ready (rs := [4]) (by kernel_rfl) (by simp) ?_
          refine AllReadyH.cons (toArr_get _ 4 _ rfl) (fun K hK => ?_) ?_
          · go_simp
            refine hK.out _ _ ?_ (fun hHeld2 => ?_)
            · (try dsimp only)
              first | exact Tri.new _ _ _ _ _ | exact hHeld | exact Tri.alloc hHeld _ | exact Tri.grown hHeld HG5.out (by omega) | exact Tri.set hHeld (by omega)
            clear hK K hHeld
            have hHeld := hHeld2
            clear hHeld2
            (try simp only [Act.put, List.setIfInBounds_toArray, List.set_cons_zero, List.set_cons_succ])
            refine wpAnyH_ready (rs := [5]) (by kernel_rfl) (by simp) ?_
            refine AllReadyH.cons (toArr_get _ 5 _ rfl) (fun K hK => ?_) ?_
            · rw [if_pos (by rfl)]
              refine wp_append_fits _ (.tmp 17) (.tmp 21) 113 rfl w.heap.size 88 i0 1 Tryz.underlying113 HI.out.1 HI.out.2.2.1 w.heap.size k ts.length xs rfl (World.ownsRow.drew (World.ownsRow.alloc (World.ownsRow.alloc (World.ownsRow.alloc HO.out _) _) _)) ⟨wr.heap.size + 1 + 1, 0, none⟩ 1 1 [.func (.func 100) #[] #[.pointer (some ⟨wr.heap.size + 1, 0, none⟩)]] rfl rfl (fn_news ((wr.alloc _).alloc _) _ _ _ (by simp)) (fn_one _ _) (by omega) ?_
              intro w5 hown5 hgrow5
              have HO5 := Lib.hid hown5
              have HG5 := Lib.hid hgrow5
              clear hown5 hgrow5
              have cp5 : w5.cell? ⟨w.heap.size + 1, 0, none⟩ = some (.slice (some ⟨w.heap.size, 0, none⟩) k ts.length) := HG5.out.cell (cpC _ _ _) (by simp)
              have fp5 : w5.frozen? ⟨w.heap.size + 1, 0, none⟩ = false := (World.frozen?_of_block (HG5.out.block (w.heap.size + 1) (by simp; omega) (by simp))).trans (fpC _ _ _)
              refine hK.out _ _ ?_ (fun hHeld2 => ?_)
              · (try dsimp only)
                first | exact Tri.new _ _ _ _ _ | exact hHeld | exact Tri.alloc hHeld _ | exact Tri.grown hHeld HG5.out (by omega) | exact Tri.set hHeld (by omega)
              clear hK K hHeld
              have hHeld := hHeld2
              clear hHeld2
              (try simp only [Act.put, List.setIfInBounds_toArray, List.set_cons_zero, List.set_cons_succ])
              refine wpAnyH_ready (rs := [6]) (by kernel_rfl) (by simp) ?_
              refine AllReadyH.cons (toArr_get _ 6 _ rfl) (fun K hK => ?_) ?_
              · go_simp
                refine hK.out _ _ ?_ (fun hHeld2 => ?_)
                · (try dsimp only)
                  first | exact Tri.new _ _ _ _ _ | exact hHeld | exact Tri.alloc hHeld _ | exact Tri.grown hHeld HG5.out (by omega) | exact Tri.set hHeld (by omega)
                clear hK K hHeld
                have hHeld := hHeld2
                clear hHeld2
                (try simp only [Act.put, List.setIfInBounds_toArray, List.set_cons_zero, List.set_cons_succ])
                refine wpAnyH_done (by kernel_rfl) ?_ _
                refine NoPanic.normal ?_
                go_wp2
                go_roundg (gk - 1)
                case measure => have := HK.out; omega
                case rel => exact ⟨k + 1, _, by have := HK.out; omega, by go_num, summed_step hlt HT.out HP.out hsz cp fp HB.out ((((below_box _ _).alloc (by simp) _).alloc (by simp <;> omega) _).drew) (Tri.part (show Tri (((wr.alloc _).alloc _).alloc _).drew (wr.heap.size + 1) c d p from Tri.alloc (Tri.newAt (wr.alloc _) (wr.heap.size + 1) (by simp) c d p _) _) (by omega)) HO5.out HG5.out _⟩
              exact AllReadyH.nil
            exact AllReadyH.nil
          exact AllReadyH.nil
        refine AllReadyH.cons (toArr_get _ 4 _ rfl) (fun K hK => ?_) ?_
        · go_simp
          refine hK.out _ _ ?_ (fun hHeld2 => ?_)
          · (try dsimp only)
            first | exact Tri.new _ _ _ _ _ | exact hHeld | exact Tri.alloc hHeld _ | exact Tri.grown hHeld HG5.out (by omega) | exact Tri.set hHeld (by omega)
          clear hK K hHeld
          have hHeld := hHeld2
          clear hHeld2
          (try simp only [Act.put, List.setIfInBounds_toArray, List.set_cons_zero, List.set_cons_succ])
          refine wpAnyH_ready (rs := [0]) (by kernel_rfl) (by simp) ?_
          refine AllReadyH.cons (toArr_get _ 0 _ rfl) (fun K hK => ?_) ?_
          · go_simp
            refine hK.out _ _ ?_ (fun hHeld2 => ?_)
            · (try dsimp only)
              first | exact Tri.new _ _ _ _ _ | exact hHeld | exact Tri.alloc hHeld _ | exact Tri.grown hHeld HG5.out (by omega) | exact Tri.set hHeld (by omega)
            clear hK K hHeld
            have hHeld := hHeld2
            clear hHeld2
            (try simp only [Act.put, List.setIfInBounds_toArray, List.set_cons_zero, List.set_cons_succ])
            refine wpAnyH_ready (rs := [5]) (by kernel_rfl) (by simp) ?_
            refine AllReadyH.cons (toArr_get _ 5 _ rfl) (fun K hK => ?_) ?_
            · rw [if_pos (by rfl)]
              refine wp_append_fits _ (.tmp 17) (.tmp 21) 113 rfl w.heap.size 88 i0 1 Tryz.underlying113 HI.out.1 HI.out.2.2.1 w.heap.size k ts.length xs rfl (World.ownsRow.drew (World.ownsRow.alloc (World.ownsRow.alloc (World.ownsRow.alloc HO.out _) _) _)) ⟨wr.heap.size + 1 + 1, 0, none⟩ 1 1 [.func (.func 100) #[] #[.pointer (some ⟨wr.heap.size + 1, 0, none⟩)]] rfl rfl (fn_news ((wr.alloc _).alloc _) _ _ _ (by simp)) (fn_one _ _) (by omega) ?_
              intro w5 hown5 hgrow5
              have HO5 := Lib.hid hown5
              have HG5 := Lib.hid hgrow5
              clear hown5 hgrow5
              have cp5 : w5.cell? ⟨w.heap.size + 1, 0, none⟩ = some (.slice (some ⟨w.heap.size, 0, none⟩) k ts.length) := HG5.out.cell (cpC _ _ _) (by simp)
              have fp5 : w5.frozen? ⟨w.heap.size + 1, 0, none⟩ = false := (World.frozen?_of_block (HG5.out.block (w.heap.size + 1) (by simp; omega) (by simp))).trans (fpC _ _ _)
              refine hK.out _ _ ?_ (fun hHeld2 => ?_)
              · (try dsimp only)
                first | exact Tri.new _ _ _ _ _ | exact hHeld | exact Tri.alloc hHeld _ | exact Tri.grown hHeld HG5.out (by omega) | exact Tri.set hHeld (by omega)
              clear hK K hHeld
              have hHeld := hHeld2
              clear hHeld2
              (try simp only [Act.put, List.setIfInBounds_toArray, List.set_cons_zero, List.set_cons_succ])
              refine wpAnyH_ready (rs := [6]) (by kernel_rfl) (by simp) ?_
              refine AllReadyH.cons (toArr_get _ 6 _ rfl) (fun K hK => ?_) ?_
              · go_simp
                refine hK.out _ _ ?_ (fun hHeld2 => ?_)
                · (try dsimp only)
                  first | exact Tri.new _ _ _ _ _ | exact hHeld | exact Tri.alloc hHeld _ | exact Tri.grown hHeld HG5.out (by omega) | exact Tri.set hHeld (by omega)
                clear hK K hHeld
                have hHeld := hHeld2
                clear hHeld2
                (try simp only [Act.put, List.setIfInBounds_toArray, List.set_cons_zero, List.set_cons_succ])
                refine wpAnyH_done (by kernel_rfl) ?_ _
                refine NoPanic.normal ?_
                go_wp2
                go_roundg (gk - 1)
                case measure => have := HK.out; omega
                case rel => exact ⟨k + 1, _, by have := HK.out; omega, by go_num, summed_step hlt HT.out HP.out hsz cp fp HB.out ((((below_box _ _).alloc (by simp) _).alloc (by simp <;> omega) _).drew) (Tri.part (show Tri (((wr.alloc _).alloc _).alloc _).drew (wr.heap.size + 1) c d p from Tri.alloc (Tri.newAt (wr.alloc _) (wr.heap.size + 1) (by simp) c d p _) _) (by omega)) HO5.out HG5.out _⟩
              exact AllReadyH.nil
            exact AllReadyH.nil
          exact AllReadyH.nil
        exact AllReadyH.nil
      exact AllReadyH.nil
    · obtain rfl : k = ts.length := by omega
      go_wp2
      go_ret
      exact ⟨_, rfl, summed_end HO.out HP.out hsz cp, B⟩

set_option maxHeartbeats 2000000 in
/-- summed, over Task.released. -/
theorem summed_released (a : Option Addr) (cap : Nat) (ts : List T3) (w : World) (hr : Row w a ts) (hn : ts.length ≤ 5) :
    Calls Tryz.prog 69 #[.slice a ts.length cap, .func (.func 110) #[] #[]] w fun e w' =>
      ∃ v, e = .returned v ∧ Summed 131 w.heap.size w' v ts ∧ Below w.heap.size w w' := by
  obtain ⟨i0, hi, hz, hsz, hby⟩ := info_parts partInfo
  have HI := Lib.hid (And.intro hi (And.intro hz (And.intro hsz hby)))
  clear hi hz hsz hby
  have hmk := run_make_parts ts.length (by omega)
  have HR := Lib.hid hr
  clear hr
  go_enter Tryz.func69, Tryz.ntmps69
  go_wp2
  clear hmk
  go_loopg [13] ts.length (fun n i wr => ∃ (k : Nat) (xs : List Value), n + k = ts.length ∧ i = .int .i64 k ∧ wr.ownsRow w.heap.size 88 1 (.slice (some ⟨w.heap.size, 0, none⟩) k ts.length) k xs ∧
    PartsOf 131 (w.heap.size + 2) wr xs (ts.take k) ∧ w.heap.size + 2 ≤ wr.heap.size ∧ wr.cell? ⟨w.heap.size + 1, 0, none⟩ = some (.slice (some ⟨w.heap.size, 0, none⟩) k ts.length) ∧
    wr.frozen? ⟨w.heap.size + 1, 0, none⟩ = false ∧ Below w.heap.size w wr)
  case atStart => exact ⟨0, [], rfl, rfl, (own_parts w ts.length (by omega)).alloc _, ⟨rfl, fun k t h => by simp at h⟩, by simp, by go_simp, by go_simp, (below_box _ _).alloc (by simp) _⟩
  case round =>
    obtain ⟨k, xs, hk, rfl, hown, hps, hsz, cp, fp, B⟩ := hrel
    have HK := Lib.hid hk
    have HO := Lib.hid hown
    have HP := Lib.hid hps
    have HB := Lib.hid B
    have hkk : k ≤ ts.length := by omega
    clear hk hown hps
    by_cases hlt : k < ts.length
    · obtain ⟨b, off, rfl, hbs, hc0, hc1, hc2⟩ := HR.out k _ (List.getElem?_eq_getElem hlt)
      obtain ⟨⟨c, d, p⟩, ht⟩ : ∃ t, t = ts[k] := ⟨_, rfl⟩
      rw [← ht] at hc0 hc1 hc2
      have g0 := (B.cell (p := ⟨b, off + k * 3, none⟩) hbs).trans hc0
      have g1 := (B.cell (p := ⟨b, off + k * 3 + 1, none⟩) hbs).trans hc1
      have g2 := (B.cell (p := ⟨b, off + k * 3 + 2, none⟩) hbs).trans hc2
      have HT := Lib.hid ht
      clear ht hc0 hc1 hc2 B
      simp only at g0 g1 g2
      have hk0 : (0 : Int) ≤ k := by omega
      have hk1 : (k : Int) < ts.length := by omega
      have hne : w.heap.size + 1 ≠ wr.heap.size := by omega
      have hlt1 : w.heap.size + 1 < wr.heap.size := by omega
      have cpB : ∀ o1 o2, ((wr.alloc o1).alloc o2).cell? ⟨w.heap.size + 1, 0, none⟩ = some (.slice (some ⟨w.heap.size, 0, none⟩) k ts.length) := fun o1 o2 => (((below_box wr o1).alloc (by simp) o2).cell (p := ⟨w.heap.size + 1, 0, none⟩) hlt1).trans cp
      have cpC : ∀ o1 o2 o3, (((wr.alloc o1).alloc o2).alloc o3).cell? ⟨w.heap.size + 1, 0, none⟩ = some (.slice (some ⟨w.heap.size, 0, none⟩) k ts.length) := fun o1 o2 o3 => ((((below_box wr o1).alloc (by simp) o2).alloc (by simp <;> omega) o3).cell (p := ⟨w.heap.size + 1, 0, none⟩) hlt1).trans cp
      have fpC : ∀ o1 o2 o3, (((wr.alloc o1).alloc o2).alloc o3).frozen? ⟨w.heap.size + 1, 0, none⟩ = false := fun o1 o2 o3 => ((((below_box wr o1).alloc (by simp) o2).alloc (by simp <;> omega) o3).frozen (p := ⟨w.heap.size + 1, 0, none⟩) hlt1).trans fp
      have hne2 : w.heap.size ≠ wr.heap.size := by omega
      have hne3 : w.heap.size ≠ wr.heap.size + 1 := by omega
      go_wp2
      refine wp_region_noPanic ?_
      refine wp_region_held_drew (S := fun w' => Tri w' wr.heap.size c d p) (by kernel_rfl) ?_ (fun hHeld => ?_)
      · (try dsimp only)
        first | exact Tri.new _ _ _ _ _ | exact hHeld | exact Tri.alloc hHeld _ | exact Tri.grown hHeld HG5.out (by omega) | exact Tri.set hHeld (by omega)
      refine wpAnyH_take (i := 1) (v := ?_) (toArr_get _ 1 _ rfl) (by kernel_rfl) (by kernel_rfl) (by kernel_rfl) (fun _ _ _ h => h) (Or.inl ⟨by rfl, ?_⟩) (by assumption) ?_
      rotate_left
      · (intro w hSw; (try dsimp only at hSw); go_simp; (try with_reducible rfl))
      (try simp only [Act.put, List.setIfInBounds_toArray, List.set_cons_zero, List.set_cons_succ])
      refine wpAnyH_take (i := 2) (v := ?_) (toArr_get _ 2 _ rfl) (by kernel_rfl) (by kernel_rfl) (by kernel_rfl) (fun _ _ _ h => h) (Or.inl ⟨by rfl, ?_⟩) (by assumption) ?_
      rotate_left
      · (intro w hSw; (try dsimp only at hSw); go_simp; (try with_reducible rfl))
      (try simp only [Act.put, List.setIfInBounds_toArray, List.set_cons_zero, List.set_cons_succ])
      refine wpAnyH_ready (rs := [0, 3]) (by kernel_rfl) (by simp) ?_
      refine AllReadyH.cons (toArr_get _ 0 _ rfl) (fun K hK => ?_) ?_
      · go_simp
        refine hK.out _ _ ?_ (fun hHeld2 => ?_)
        · (try dsimp only)
          first | exact Tri.new _ _ _ _ _ | exact hHeld | exact Tri.alloc hHeld _ | exact Tri.grown hHeld HG5.out (by omega) | exact Tri.set hHeld (by omega)
        clear hK K hHeld
        have hHeld := hHeld2
        clear hHeld2
        (try simp only [Act.put, List.setIfInBounds_toArray, List.set_cons_zero, List.set_cons_succ])
        refine wpAnyH_ready (rs := [3]) (by kernel_rfl) (by simp) ?_
        refine AllReadyH.cons (toArr_get _ 3 _ rfl) (fun K hK => ?_) ?_
        · go_simp
          refine (releasedM_any _ _ _ _).mono ?_
          rintro e w1 ⟨rfl, rfl⟩
          go_wp2_with fail
          refine hK.out _ _ ?_ (fun hHeld2 => ?_)
          · (try dsimp only)
            first | exact Tri.new _ _ _ _ _ | exact hHeld | exact Tri.alloc hHeld _ | exact Tri.grown hHeld HG5.out (by omega) | exact Tri.set hHeld (by omega)
          clear hK K hHeld
          have hHeld := hHeld2
          clear hHeld2
          (try simp only [Act.put, List.setIfInBounds_toArray, List.set_cons_zero, List.set_cons_succ])
          refine wpAnyH_ready (rs := [4]) (by kernel_rfl) (by simp) ?_
          refine AllReadyH.cons (toArr_get _ 4 _ rfl) (fun K hK => ?_) ?_
          · go_simp
            refine hK.out _ _ ?_ (fun hHeld2 => ?_)
            · (try dsimp only)
              first | exact Tri.new _ _ _ _ _ | exact hHeld | exact Tri.alloc hHeld _ | exact Tri.grown hHeld HG5.out (by omega) | exact Tri.set hHeld (by omega)
            clear hK K hHeld
            have hHeld := hHeld2
            clear hHeld2
            (try simp only [Act.put, List.setIfInBounds_toArray, List.set_cons_zero, List.set_cons_succ])
            refine wpAnyH_ready (rs := [5]) (by kernel_rfl) (by simp) ?_
            refine AllReadyH.cons (toArr_get _ 5 _ rfl) (fun K hK => ?_) ?_
            · rw [if_pos (by rfl)]
              refine wp_append_fits _ (.tmp 17) (.tmp 21) 113 rfl w.heap.size 88 i0 1 Tryz.underlying113 HI.out.1 HI.out.2.2.1 w.heap.size k ts.length xs rfl (World.ownsRow.drew (World.ownsRow.alloc (World.ownsRow.alloc (World.ownsRow.alloc HO.out _) _) _)) ⟨wr.heap.size + 1 + 1, 0, none⟩ 1 1 [.func (.func 131) #[] #[.pointer (some ⟨wr.heap.size + 1, 0, none⟩)]] rfl rfl (fn_news ((wr.alloc _).alloc _) _ _ _ (by simp)) (fn_one _ _) (by omega) ?_
              intro w5 hown5 hgrow5
              have HO5 := Lib.hid hown5
              have HG5 := Lib.hid hgrow5
              clear hown5 hgrow5
              have cp5 : w5.cell? ⟨w.heap.size + 1, 0, none⟩ = some (.slice (some ⟨w.heap.size, 0, none⟩) k ts.length) := HG5.out.cell (cpC _ _ _) (by simp)
              have fp5 : w5.frozen? ⟨w.heap.size + 1, 0, none⟩ = false := (World.frozen?_of_block (HG5.out.block (w.heap.size + 1) (by simp; omega) (by simp))).trans (fpC _ _ _)
              refine hK.out _ _ ?_ (fun hHeld2 => ?_)
              · (try dsimp only)
                first | exact Tri.new _ _ _ _ _ | exact hHeld | exact Tri.alloc hHeld _ | exact Tri.grown hHeld HG5.out (by omega) | exact Tri.set hHeld (by omega)
              clear hK K hHeld
              have hHeld := hHeld2
              clear hHeld2
              (try simp only [Act.put, List.setIfInBounds_toArray, List.set_cons_zero, List.set_cons_succ])
              refine wpAnyH_ready (rs := [6]) (by kernel_rfl) (by simp) ?_
              refine AllReadyH.cons (toArr_get _ 6 _ rfl) (fun K hK => ?_) ?_
              · go_simp
                refine hK.out _ _ ?_ (fun hHeld2 => ?_)
                · (try dsimp only)
                  first | exact Tri.new _ _ _ _ _ | exact hHeld | exact Tri.alloc hHeld _ | exact Tri.grown hHeld HG5.out (by omega) | exact Tri.set hHeld (by omega)
                clear hK K hHeld
                have hHeld := hHeld2
                clear hHeld2
                (try simp only [Act.put, List.setIfInBounds_toArray, List.set_cons_zero, List.set_cons_succ])
                refine wpAnyH_done (by kernel_rfl) ?_ _
                refine NoPanic.normal ?_
                go_wp2
                go_roundg (gk - 1)
                case measure => have := HK.out; omega
                case rel => exact ⟨k + 1, _, by have := HK.out; omega, by go_num, summed_step hlt HT.out HP.out hsz cp fp HB.out ((((below_box _ _).alloc (by simp) _).alloc (by simp <;> omega) _).drew) (Tri.part (show Tri (((wr.alloc _).alloc _).alloc _).drew (wr.heap.size + 1) c d p from Tri.alloc (Tri.newAt (wr.alloc _) (wr.heap.size + 1) (by simp) c d p _) _) (by omega)) HO5.out HG5.out _⟩
              exact AllReadyH.nil
            exact AllReadyH.nil
          exact AllReadyH.nil
        exact AllReadyH.nil
      refine AllReadyH.cons (toArr_get _ 3 _ rfl) (fun K hK => ?_) ?_
      · go_simp
        refine (releasedM_any _ _ _ _).mono ?_
        rintro e w1 ⟨rfl, rfl⟩
        go_wp2_with fail
        refine hK.out _ _ ?_ (fun hHeld2 => ?_)
        · (try dsimp only)
          first | exact Tri.new _ _ _ _ _ | exact hHeld | exact Tri.alloc hHeld _ | exact Tri.grown hHeld HG5.out (by omega) | exact Tri.set hHeld (by omega)
        clear hK K hHeld
        have hHeld := hHeld2
        clear hHeld2
        (try simp only [Act.put, List.setIfInBounds_toArray, List.set_cons_zero, List.set_cons_succ])
        refine wpAnyH_ready (rs := [0, 4]) (by kernel_rfl) (by simp) ?_
        refine AllReadyH.cons (toArr_get _ 0 _ rfl) (fun K hK => ?_) ?_
        · go_simp
          refine hK.out _ _ ?_ (fun hHeld2 => ?_)
          · (try dsimp only)
            first | exact Tri.new _ _ _ _ _ | exact hHeld | exact Tri.alloc hHeld _ | exact Tri.grown hHeld HG5.out (by omega) | exact Tri.set hHeld (by omega)
          clear hK K hHeld
          have hHeld := hHeld2
          clear hHeld2
          (try simp only [Act.put, List.setIfInBounds_toArray, List.set_cons_zero, List.set_cons_succ])
          refine wpAnyH_ready (rs := [4]) (by kernel_rfl) (by simp) ?_
          refine AllReadyH.cons (toArr_get _ 4 _ rfl) (fun K hK => ?_) ?_
          · go_simp
            refine hK.out _ _ ?_ (fun hHeld2 => ?_)
            · (try dsimp only)
              first | exact Tri.new _ _ _ _ _ | exact hHeld | exact Tri.alloc hHeld _ | exact Tri.grown hHeld HG5.out (by omega) | exact Tri.set hHeld (by omega)
            clear hK K hHeld
            have hHeld := hHeld2
            clear hHeld2
            (try simp only [Act.put, List.setIfInBounds_toArray, List.set_cons_zero, List.set_cons_succ])
            refine wpAnyH_ready (rs := [5]) (by kernel_rfl) (by simp) ?_
            refine AllReadyH.cons (toArr_get _ 5 _ rfl) (fun K hK => ?_) ?_
            · rw [if_pos (by rfl)]
              refine wp_append_fits _ (.tmp 17) (.tmp 21) 113 rfl w.heap.size 88 i0 1 Tryz.underlying113 HI.out.1 HI.out.2.2.1 w.heap.size k ts.length xs rfl (World.ownsRow.drew (World.ownsRow.alloc (World.ownsRow.alloc (World.ownsRow.alloc HO.out _) _) _)) ⟨wr.heap.size + 1 + 1, 0, none⟩ 1 1 [.func (.func 131) #[] #[.pointer (some ⟨wr.heap.size + 1, 0, none⟩)]] rfl rfl (fn_news ((wr.alloc _).alloc _) _ _ _ (by simp)) (fn_one _ _) (by omega) ?_
              intro w5 hown5 hgrow5
              have HO5 := Lib.hid hown5
              have HG5 := Lib.hid hgrow5
              clear hown5 hgrow5
              have cp5 : w5.cell? ⟨w.heap.size + 1, 0, none⟩ = some (.slice (some ⟨w.heap.size, 0, none⟩) k ts.length) := HG5.out.cell (cpC _ _ _) (by simp)
              have fp5 : w5.frozen? ⟨w.heap.size + 1, 0, none⟩ = false := (World.frozen?_of_block (HG5.out.block (w.heap.size + 1) (by simp; omega) (by simp))).trans (fpC _ _ _)
              refine hK.out _ _ ?_ (fun hHeld2 => ?_)
              · (try dsimp only)
                first | exact Tri.new _ _ _ _ _ | exact hHeld | exact Tri.alloc hHeld _ | exact Tri.grown hHeld HG5.out (by omega) | exact Tri.set hHeld (by omega)
              clear hK K hHeld
              have hHeld := hHeld2
              clear hHeld2
              (try simp only [Act.put, List.setIfInBounds_toArray, List.set_cons_zero, List.set_cons_succ])
              refine wpAnyH_ready (rs := [6]) (by kernel_rfl) (by simp) ?_
              refine AllReadyH.cons (toArr_get _ 6 _ rfl) (fun K hK => ?_) ?_
              · go_simp
                refine hK.out _ _ ?_ (fun hHeld2 => ?_)
                · (try dsimp only)
                  first | exact Tri.new _ _ _ _ _ | exact hHeld | exact Tri.alloc hHeld _ | exact Tri.grown hHeld HG5.out (by omega) | exact Tri.set hHeld (by omega)
                clear hK K hHeld
                have hHeld := hHeld2
                clear hHeld2
                (try simp only [Act.put, List.setIfInBounds_toArray, List.set_cons_zero, List.set_cons_succ])
                refine wpAnyH_done (by kernel_rfl) ?_ _
                refine NoPanic.normal ?_
                go_wp2
                go_roundg (gk - 1)
                case measure => have := HK.out; omega
                case rel => exact ⟨k + 1, _, by have := HK.out; omega, by go_num, summed_step hlt HT.out HP.out hsz cp fp HB.out ((((below_box _ _).alloc (by simp) _).alloc (by simp <;> omega) _).drew) (Tri.part (show Tri (((wr.alloc _).alloc _).alloc _).drew (wr.heap.size + 1) c d p from Tri.alloc (Tri.newAt (wr.alloc _) (wr.heap.size + 1) (by simp) c d p _) _) (by omega)) HO5.out HG5.out _⟩
              exact AllReadyH.nil
            exact AllReadyH.nil
          exact AllReadyH.nil
        refine AllReadyH.cons (toArr_get _ 4 _ rfl) (fun K hK => ?_) ?_
        · go_simp
          refine hK.out _ _ ?_ (fun hHeld2 => ?_)
          · (try dsimp only)
            first | exact Tri.new _ _ _ _ _ | exact hHeld | exact Tri.alloc hHeld _ | exact Tri.grown hHeld HG5.out (by omega) | exact Tri.set hHeld (by omega)
          clear hK K hHeld
          have hHeld := hHeld2
          clear hHeld2
          (try simp only [Act.put, List.setIfInBounds_toArray, List.set_cons_zero, List.set_cons_succ])
          refine wpAnyH_ready (rs := [0]) (by kernel_rfl) (by simp) ?_
          refine AllReadyH.cons (toArr_get _ 0 _ rfl) (fun K hK => ?_) ?_
          · go_simp
            refine hK.out _ _ ?_ (fun hHeld2 => ?_)
            · (try dsimp only)
              first | exact Tri.new _ _ _ _ _ | exact hHeld | exact Tri.alloc hHeld _ | exact Tri.grown hHeld HG5.out (by omega) | exact Tri.set hHeld (by omega)
            clear hK K hHeld
            have hHeld := hHeld2
            clear hHeld2
            (try simp only [Act.put, List.setIfInBounds_toArray, List.set_cons_zero, List.set_cons_succ])
            refine wpAnyH_ready (rs := [5]) (by kernel_rfl) (by simp) ?_
            refine AllReadyH.cons (toArr_get _ 5 _ rfl) (fun K hK => ?_) ?_
            · rw [if_pos (by rfl)]
              refine wp_append_fits _ (.tmp 17) (.tmp 21) 113 rfl w.heap.size 88 i0 1 Tryz.underlying113 HI.out.1 HI.out.2.2.1 w.heap.size k ts.length xs rfl (World.ownsRow.drew (World.ownsRow.alloc (World.ownsRow.alloc (World.ownsRow.alloc HO.out _) _) _)) ⟨wr.heap.size + 1 + 1, 0, none⟩ 1 1 [.func (.func 131) #[] #[.pointer (some ⟨wr.heap.size + 1, 0, none⟩)]] rfl rfl (fn_news ((wr.alloc _).alloc _) _ _ _ (by simp)) (fn_one _ _) (by omega) ?_
              intro w5 hown5 hgrow5
              have HO5 := Lib.hid hown5
              have HG5 := Lib.hid hgrow5
              clear hown5 hgrow5
              have cp5 : w5.cell? ⟨w.heap.size + 1, 0, none⟩ = some (.slice (some ⟨w.heap.size, 0, none⟩) k ts.length) := HG5.out.cell (cpC _ _ _) (by simp)
              have fp5 : w5.frozen? ⟨w.heap.size + 1, 0, none⟩ = false := (World.frozen?_of_block (HG5.out.block (w.heap.size + 1) (by simp; omega) (by simp))).trans (fpC _ _ _)
              refine hK.out _ _ ?_ (fun hHeld2 => ?_)
              · (try dsimp only)
                first | exact Tri.new _ _ _ _ _ | exact hHeld | exact Tri.alloc hHeld _ | exact Tri.grown hHeld HG5.out (by omega) | exact Tri.set hHeld (by omega)
              clear hK K hHeld
              have hHeld := hHeld2
              clear hHeld2
              (try simp only [Act.put, List.setIfInBounds_toArray, List.set_cons_zero, List.set_cons_succ])
              refine wpAnyH_ready (rs := [6]) (by kernel_rfl) (by simp) ?_
              refine AllReadyH.cons (toArr_get _ 6 _ rfl) (fun K hK => ?_) ?_
              · go_simp
                refine hK.out _ _ ?_ (fun hHeld2 => ?_)
                · (try dsimp only)
                  first | exact Tri.new _ _ _ _ _ | exact hHeld | exact Tri.alloc hHeld _ | exact Tri.grown hHeld HG5.out (by omega) | exact Tri.set hHeld (by omega)
                clear hK K hHeld
                have hHeld := hHeld2
                clear hHeld2
                (try simp only [Act.put, List.setIfInBounds_toArray, List.set_cons_zero, List.set_cons_succ])
                refine wpAnyH_done (by kernel_rfl) ?_ _
                refine NoPanic.normal ?_
                go_wp2
                go_roundg (gk - 1)
                case measure => have := HK.out; omega
                case rel => exact ⟨k + 1, _, by have := HK.out; omega, by go_num, summed_step hlt HT.out HP.out hsz cp fp HB.out ((((below_box _ _).alloc (by simp) _).alloc (by simp <;> omega) _).drew) (Tri.part (show Tri (((wr.alloc _).alloc _).alloc _).drew (wr.heap.size + 1) c d p from Tri.alloc (Tri.newAt (wr.alloc _) (wr.heap.size + 1) (by simp) c d p _) _) (by omega)) HO5.out HG5.out _⟩
              exact AllReadyH.nil
            exact AllReadyH.nil
          exact AllReadyH.nil
        exact AllReadyH.nil
      exact AllReadyH.nil
    · obtain rfl : k = ts.length := by omega
      go_wp2
      go_ret
      exact ⟨_, rfl, summed_end HO.out HP.out hsz cp, B⟩

/-- impl.FirstOverload. -/
theorem firstOverload_any (a : Option Addr) (cap : Nat) (ts : List T3) (w : World) (hr : Row w a ts) (hn : ts.length ≤ 1099511627776) :
    Calls Tryz.prog 43 #[.slice a ts.length cap] w fun e w' =>
      e = .returned (.int .i64 (fo ts)) ∧ Below w.heap.size w w' := by
  have HR := Lib.hid hr
  clear hr
  by_cases hv : svB ts = true
  · have hbd := hyp_bd ts (sv_all hv).1
    obtain ⟨H, hH⟩ : ∃ H, H = hyp ts := ⟨_, rfl⟩
    rw [← hH] at hbd
    have HH := Lib.hid hH
    clear hH
    go_enter Tryz.func43, Tryz.ntmps43
    go_wp2_with fail
    refine (setValid_any _ _ _ _ HR.out hn).mono ?_
    rintro e w1 ⟨rfl, b1⟩
    have R1 := Lib.hid (HR.out.below b1)
    go_wp2_with fail
    refine (summed_demand _ _ _ _ R1.out (sv_all hv).2).mono ?_
    rintro e w2 ⟨v, rfl, hs, b2⟩
    have R2 := Lib.hid (R1.out.below b2)
    have HS := Lib.hid hs
    clear hs
    go_wp2_with fail
    refine (hyperperiod_any _ _ _ _ R2.out hn).mono ?_
    rintro e w3 ⟨rfl, b3⟩
    rw [hyB_yes hv, ← HH.out]
    have S3 := Lib.hid (HS.out.below b3)
    have B3 := b1.trans ((b2.trans (b3.mono b2.size)).mono b1.size)
    obtain ⟨hb1, hb2⟩ := hbd
    have HV := Lib.hid hv
    clear hv b1 b2 b3 R1 R2 HS
    go_wp2
    go_loopg [5] H (fun m i wr => ∃ n : Nat, m + n = H + 1 ∧ 1 ≤ n ∧ i = .int .i64 n ∧ (∀ t, 1 ≤ t → t < n → dem ts t ≤ t) ∧ Below w3.heap.size w3 wr)
    case atStart => exact ⟨1, by omega, Nat.le_refl _, rfl, fun t a b => by omega, Below.refl _ _⟩
    case round =>
      obtain ⟨n, hk, hn1, rfl, hd, B⟩ := hrel
      have HK := Lib.hid hk
      have hk' : n ≤ H + 1 := by omega
      have HD := Lib.hid hd
      clear hk hd
      by_cases hlt : n ≤ H
      · have hlt' : (n : Int) ≤ H := by omega
        obtain ⟨pb, rfl, C⟩ := summed1_demand v ts n wr (S3.out.below B) HV.out (by omega)
        have HC := Lib.hid C
        clear C
        by_cases ho : n < dem ts n
        · have ho' : (n : Int) < (dem ts n : Nat) := by omega
          go_wp2_with (go_at_call 99; refine HC.out.mono ?_; rintro e w4 ⟨rfl, n4, hw4⟩)
          go_ret
          exact ⟨ret_int (fo_some HV.out hn1 (by rw [← HH.out]; exact hlt) ho HD.out).symm, below_drewN' (B3.trans (B.mono B3.size)) _⟩
        · have ho' : ¬ (n : Int) < (dem ts n : Nat) := by omega
          go_wp2_with (go_at_call 99; refine HC.out.mono ?_; rintro e w4 ⟨rfl, n4, hw4⟩)
          go_roundg (gk - 1)
          case measure => have := HK.out; omega
          case rel => exact ⟨n + 1, by have := HK.out; omega, by omega, by go_num, fun t a b => by
            by_cases e : t = n
            · subst e; omega
            · exact HD.out t a (by omega), below_drewN' B _⟩
      · have hlt' : ¬ (n : Int) ≤ H := by omega
        go_wp2
        go_ret
        exact ⟨ret_int (fo_none HV.out fun t a b => HD.out t a (by have := HH.out; omega)).symm, B3.trans (B.mono B3.size)⟩
  · have hv' : svB ts = false := by simpa using hv
    clear hv
    go_enter Tryz.func43, Tryz.ntmps43
    go_wp2_with fail
    refine (setValid_any _ _ _ _ HR.out hn).mono ?_
    rintro e w1 ⟨rfl, b1⟩
    go_wp2
    go_ret
    exact ⟨ret_int (fo_no hv').symm, b1⟩

/-- impl.EdfFeasible. -/
theorem edfFeasible_any (a : Option Addr) (cap : Nat) (ts : List T3) (w : World) (hr : Row w a ts) (hn : ts.length ≤ 1099511627776) :
    Calls Tryz.prog 11 #[.slice a ts.length cap] w fun e w' =>
      e = .returned (.bool (edf ts)) ∧ Below w.heap.size w w' := by
  have HR := Lib.hid hr
  clear hr
  by_cases hv : svB ts = true
  · have he := Lib.hid (edf_dec hv)
    go_enter Tryz.func11, Tryz.ntmps11
    go_wp2_with fail
    refine (setValid_any _ _ _ _ HR.out hn).mono ?_
    rintro e w1 ⟨rfl, b1⟩
    have R1 := Lib.hid (HR.out.below b1)
    go_wp2_with fail
    refine (firstOverload_any _ _ _ _ R1.out hn).mono ?_
    rintro e w2 ⟨rfl, b2⟩
    go_wp2
    go_ret
    exact ⟨ret_bool he.out, b1.trans (b2.mono b1.size)⟩
  · have hv' : svB ts = false := by simpa using hv
    clear hv
    have he := Lib.hid (edf_no hv')
    go_enter Tryz.func11, Tryz.ntmps11
    go_wp2_with fail
    refine (setValid_any _ _ _ _ HR.out hn).mono ?_
    rintro e w1 ⟨rfl, b1⟩
    go_wp2
    go_ret
    exact ⟨ret_bool he.out.symm, b1⟩

end Go.Proofs.YtdgihkmiolnglaaGreatDoor
