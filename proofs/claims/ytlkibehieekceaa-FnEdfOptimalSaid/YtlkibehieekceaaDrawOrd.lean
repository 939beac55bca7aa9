/- Contracts of spec.l20Order, DrawOrderValid, DrawResponseTimes, DrawFixedFeasible: a task set and an order are drawn. What is drawn is not told, only its bounds. Condition: the argument is a slice of bytes. -/
import Derived.Test.YtlkibehieekceaaDrawSet
import Derived.Test.YtlkibehieekceaaMem
import Derived.Laws.AppendOwn
namespace Go.Proofs.Ytlkibehieekceaa
open Go.RowKit Go.Deep

/-- append to a slice of one's own, in a region that draws. -/
theorem wp_append_mine {P : Program} (w : World) {o : Oper} {a : Act} {K : Act → World → Prop} {Q : Exit → Act → World → Prop} (s x : Operand) (t : TypeId)
    (hop : o.op = Op.call { callee := Callee.builtin Builtin.append, args := #[s, x], argTypes := #[t, t] })
    (base : Nat) (e : TypeId) (i : TypeInfo) (z : Value) (size bytes : Nat) (ht : P.underlying t = some (.slice e)) (hi : P.info? e = some i) (hz : i.zero = some z)
    (hsize : i.size = size) (hby : i.bytes = bytes) (hzs : z.cells.size = size) (hsz : 0 < size)
    (v : Value) (n : Nat) (xs : List Value) (hs : a.eval s = v) (hown : w.ownsRow base e size v n xs)
    (ad : Addr) (m c : Nat) (news : List Value) (hx : a.eval x = .slice (some ad) m c) (hl : news.length = m * size) (hnews : ∀ j u, news[j]? = some u → w.cell? (ad.add j) = some u) (h1 : ∀ u ∈ news, u.oneCell' = true)
    (h63 : n + m ≤ maxLen) (hbytes : (n + m) * bytes ≤ 140737488355328) (hbase : base ≤ w.heap.size)
    (hK : ∀ v' w', w'.ownsRow base e size v' (n + m) (xs ++ news) → w.grownBy w' v.ownBlock → K (a.put o.dst v') w') : o.wp P a w K Q := by
  obtain ⟨v', w', hrun, r1, r2, _⟩ := run_append_own (P := P) w base t o.type e i z size bytes ht hi hz hsize hby hzs hsz v n xs hown ad m c news hl hnews h1 h63 hbytes hbase
  unfold Oper.wp execOp
  simp only [hop, resolve, invoke, builtin, Sem.run_bind, Sem.run_pure, Result.andThen_ok, List.map_toArray, List.map_cons, List.map_nil, hs, hx, hrun]
  exact hK v' w' r1 r2
theorem OwnI.take {w : World} {base g n cap k : Nat} {f : Nat → Int} (h : OwnI w base (.slice (some ⟨g, 0, none⟩) n cap) n f) (hk : k ≤ n) : OwnI w base (.slice (some ⟨g, 0, none⟩) k cap) k f := by
  obtain ⟨_, ⟨e, _⟩ | ⟨g', cap', cur, e, h3, hb, hnc, hcm, hsz, hx⟩⟩ := h
  · simp at e
  · simp only [Value.slice.injEq, Option.some.injEq, Addr.mk.injEq, and_true, true_and] at e
    obtain ⟨rfl, rfl⟩ := e
    refine ⟨by rw [vals_len, Nat.mul_one], .inr ⟨g, cap, cur, rfl, h3, hb, by omega, hcm, hsz, ?_⟩⟩
    have e2 : vals f k = (vals f n).take k := by
      simp only [vals]
      rw [← List.map_take, List.take_range, Nat.min_eq_left hk]
    rw [e2, ← hx, List.take_take, Nat.mul_one, Nat.mul_one, Nat.min_eq_left hk]
/-- A list of integers, as a function. -/
theorem own_fun {w : World} {base n : Nat} {v : Value} {xs : List Value} (h : w.ownsRow base 3 1 v n xs) (hx : ∀ u ∈ xs, ∃ x : Int, u = .int .i64 x) : ∃ f, OwnI w base v n f := by
  have hl : xs.length = n := by have := h.1; omega
  have hex : ∀ k : Nat, ∃ x : Int, ∀ hk : k < xs.length, xs[k] = .int .i64 x := fun k => by
    by_cases hk : k < xs.length
    · obtain ⟨x, e⟩ := hx _ (List.getElem_mem hk)
      exact ⟨x, fun _ => e⟩
    · exact ⟨0, fun h => absurd h hk⟩
  obtain ⟨f, hf⟩ := Classical.axiomOfChoice hex
  refine ⟨f, ?_⟩
  have e : vals f n = xs := by
    apply List.ext_getElem
    · rw [vals_len, hl]
    · intro k h1 h2
      have := vals_at f (n := n) (k := k) (by rwa [vals_len] at h1)
      rw [List.getElem?_eq_getElem h1] at this
      rw [hf k h2]
      simpa using this
  unfold OwnI
  rwa [e]
theorem vals_ints (f : Nat → Int) (n : Nat) : ∀ u ∈ vals f n, ∃ x : Int, u = .int .i64 x := by
  intro u hu
  simp only [vals, List.mem_map] at hu
  obtain ⟨k, _, rfl⟩ := hu
  exact ⟨_, rfl⟩
theorem vals_oneC (f : Nat → Int) (n : Nat) : ∀ u ∈ vals f n, u.oneCell' = true := by
  intro u hu
  obtain ⟨x, rfl⟩ := vals_ints f n u hu
  rfl

/-- Since w only the reader rb and new blocks have turned; a slice of new memory holds n integers. -/
structure OT (rb : Nat) (w wr : World) (q g n cap : Nat) : Prop where
  gb : w.grownBy wr (some rb)
  rd : Rd wr rb q
  ow : ∃ f, OwnI wr w.heap.size (.slice (some ⟨g, 0, none⟩) n cap) n f
  rl : rb < w.heap.size
variable {rb : Nat} {w wr w' : World} {q q' g n cap : Nat}
theorem OT.pick (h : OT rb w wr q g n cap) (hg : wr.grownBy w' (some rb)) (hr : Rd w' rb q') : OT rb w w' q' g n cap := by
  obtain ⟨f, ho⟩ := h.ow
  refine ⟨gb_trans h.gb hg, hr, ⟨f, World.ownsRow.kept ho hg (.inr fun e => ?_)⟩, h.rl⟩
  have := (ho.lt g rfl).1
  have := h.rl
  simp only [Value.ownBlock, Option.some.injEq] at e
  omega
theorem OT.more (h : OT rb w wr q g n cap) (hq : q ≤ q') : OT rb w wr q' g n cap := { h with rd := h.rd.mono hq }
theorem OT.alloc (h : OT rb w wr q g n cap) (x : Obj) : OT rb w (wr.alloc x) q g n cap := h.pick (gb_below (below_box _ _)) (h.rd.alloc _)
theorem OT.drew (h : OT rb w wr q g n cap) : OT rb w wr.drew q g n cap := h.pick (gb_drew (gb_refl _ _)) h.rd.drew
/-- What turns only blocks from w's end on. -/
theorem OT.turn {row : Option Nat} (h : OT rb w wr q g n cap) (hg : wr.grownBy w' row) (hr : ∀ k, row = some k → w.heap.size ≤ k) : w.grownBy w' (some rb) ∧ Rd w' rb q := by
  have hl := h.rl
  have hs := h.gb.size
  refine ⟨⟨hg.os.trans h.gb.os, hg.tape.trans h.gb.tape, hg.output.trans h.gb.output, Nat.le_trans hs hg.size, fun k hk hne => ?_⟩, h.rd.kept hg.size fun i hi => hg.block i (by omega) fun e => by have := hr i e.symm; omega⟩
  exact (hg.block k (by omega) fun e => by have := hr k e.symm; omega).trans (h.gb.block k hk hne)
theorem OT.own {row : Option Nat} {g' n' cap' : Nat} {f : Nat → Int} (h : OT rb w wr q g n cap) (hg : wr.grownBy w' row) (hr : ∀ k, row = some k → w.heap.size ≤ k) (ho : OwnI w' w.heap.size (.slice (some ⟨g', 0, none⟩) n' cap') n' f) : OT rb w w' q g' n' cap' :=
  ⟨(h.turn hg hr).1, (h.turn hg hr).2, ⟨f, ho⟩, h.rl⟩
theorem OT.set {k : Nat} (h : OT rb w wr q g n cap) (hk : k < n) (x : Int) : OT rb w (wr.setCell ⟨g, k, none⟩ (.int .i64 x)) q g n cap := by
  obtain ⟨f, ho⟩ := h.ow
  have hg := (ho.lt g rfl).1
  exact ⟨gb_set h.gb (.inr hg) _, h.rd.set (by have := h.rl; simp; omega) _, ⟨_, ho.set hk x⟩, h.rl⟩

theorem own_some {w : World} {base e size n : Nat} {a : Option Addr} {cap : Nat} {xs : List Value} (h : w.ownsRow base e size (.slice a n cap) n xs) (hn : 0 < n) : ∃ g, a = some ⟨g, 0, none⟩ := by
  obtain ⟨_, ⟨e, h0⟩ | ⟨g, c, cur, e, _⟩⟩ := h
  · omega
  · simp only [Value.slice.injEq] at e
    exact ⟨g, e.1⟩
theorem own_cap {w : World} {base e size n : Nat} {a : Option Addr} {cap : Nat} {xs : List Value} (h : w.ownsRow base e size (.slice a n cap) n xs) : n ≤ cap := by
  obtain ⟨_, ⟨e, h0⟩ | ⟨g, c, cur, e, _, _, h4, _⟩⟩ := h
  · simp only [Value.slice.injEq] at e; omega
  · simp only [Value.slice.injEq] at e; omega
theorem own_one' (w : World) (y : Int) : (w.alloc (.cells #[.int .i64 y] 3)).drew.ownsRow w.heap.size 3 1 (.slice (some ⟨w.heap.size, 0, none⟩) 1 1) 1 [.int .i64 y] :=
  ⟨rfl, .inr ⟨w.heap.size, 1, #[.int .i64 y], rfl, Nat.le_refl _, blk_alloc_new w _, Nat.le_refl _, by simp [maxLen], rfl, rfl⟩⟩
theorem addr_add2 (b off j : Nat) : (⟨b, off, none⟩ : Addr).add j = ⟨b, off + j, none⟩ := by
  unfold Addr.add
  split
  · simp_all
  · rfl
theorem news_at {w : World} {base g n cap : Nat} {f : Nat → Int} {o : Obj} (h : OwnI w base (.slice (some ⟨g, 0, none⟩) n cap) n f) (k m : Nat) (hm : k + m ≤ n) : ∀ (j : Nat) (u : Value), (vals (fun j => f (k + j)) m)[j]? = some u → (w.alloc o).drew.cell? ((⟨g, k, none⟩ : Addr).add j) = some u := by
  intro j u hj
  have hjm : j < m := by have := (List.getElem?_eq_some_iff.1 hj).1; rwa [vals_len] at this
  rw [vals_at _ hjm] at hj
  simp only [Option.some.injEq] at hj
  subst hj
  have hc := h.cellAt (k := k + j) (by omega)
  rw [addr_add2]
  exact ((below_box w o).drew.cell (p := ⟨g, k + j, none⟩) hc.2.2.1).trans hc.1
theorem own_after {w1 w8 : World} {base g n cap : Nat} {f : Nat → Int} {o : Obj} (h : OwnI w1 base (.slice (some ⟨g, 0, none⟩) n cap) n f) (hg : (w1.alloc o).drew.grownBy w8 (some w1.heap.size)) : OwnI w8 base (.slice (some ⟨g, 0, none⟩) n cap) n f :=
  World.ownsRow.kept (h.alloc o).drew hg (.inr (by have := (h.lt g rfl).2; simp only [Value.ownBlock, ne_eq, Option.some.injEq]; omega))
theorem ot_step {w1 w8 w9 : World} {i k m : Nat} {f : Nat → Int} {o : Obj} {v9 : Value} (hk : k + m = i) {xs : Nat → Int} {y : Int} (T : OT rb w w1 q g i cap) (h : OwnI w1 w.heap.size (.slice (some ⟨g, 0, none⟩) i cap) i f) (hg : (w1.alloc o).drew.grownBy w8 (some w1.heap.size))
    (h9 : w9.ownsRow w.heap.size 3 1 v9 (k + (1 + m)) (vals f k ++ ([.int .i64 y] ++ vals xs m))) (hg9 : w8.grownBy w9 (some g)) : ∃ g9 c9, v9 = .slice (some ⟨g9, 0, none⟩) (i + 1) c9 ∧ OT rb w w9 q g9 (i + 1) c9 := by
  have T8 : OT rb w w8 q g i cap := (T.alloc o).drew.own hg (fun j hj => by simp only [Option.some.injEq] at hj; have := T.gb.size; omega) (own_after h hg)
  obtain ⟨a9, c9, rfl⟩ := own_shape h9
  obtain ⟨g9, rfl⟩ := own_some h9 (by omega)
  obtain ⟨f', hf'⟩ := own_fun h9 (by
    intro u hu
    rcases List.mem_append.1 hu with h | h
    · exact vals_ints _ _ u h
    · rcases List.mem_append.1 h with h | h
      · exact ⟨y, by simpa using h⟩
      · exact vals_ints _ _ u h)
  have e : k + (1 + m) = i + 1 := by omega
  rw [e] at hf' ⊢
  exact ⟨g9, c9, rfl, T8.own hg9 (fun j hj => by simp only [Option.some.injEq] at hj; have := (h.lt g rfl).1; omega) hf'⟩

/-- An order was drawn. -/
def OrdDrawn (rb p many : Nat) (w : World) (e : Ending) (w' : World) : Prop :=
  ∃ g n cap, e = .returned (.slice (some ⟨g, 0, none⟩) n cap) ∧ OT rb w w' (p + 50) g n cap ∧ n ≤ many + 1 ∧ n ≤ cap

set_option maxRecDepth 100000 in
set_option maxHeartbeats 4000000 in
/-- spec.l20Order. -/
theorem l20Order_any (rb p many : Nat) (n : Int) (w : World) (hr : Rd w rb p) (hp : p ≤ 700000000) (hm : many ≤ 12) :
    Calls Try.prog 81 #[.pointer (some ⟨rb, 0, none⟩), .int .i64 many, .int .i64 n] w (OrdDrawn rb p many w) := by
  obtain ⟨i0, hi, hz, hsz, hby⟩ := info_parts intInfo
  have HI := Lib.hid (And.intro hi (And.intro hz (And.intro hsz hby)))
  clear hi hz hsz hby
  have hlt := hr.lt
  have HR := Lib.hid hr
  clear hr
  go_enter Try.func81, Try.ntmps81
  go_wp2
  go_loopg [7, 8] many (fun m s z wr => ∃ i g cap : Nat, m + i = many ∧ z = .int .i64 i ∧ s = .slice (some ⟨g, 0, none⟩) i cap ∧ OT rb w wr (p + i) g i cap)
  case atStart => exact ⟨0, w.heap.size, 0, rfl, rfl, rfl, gb_below (below_box _ _), HR.out.alloc _, ⟨fun _ => 0, OwnI.empty w _⟩, hlt⟩
  case round =>
    obtain ⟨i, g, cap, hi, rfl, rfl, ht⟩ := hrel
    have HK := Lib.hid hi
    have HT := Lib.hid ht
    have him : i ≤ many := by omega
    clear hi ht
    by_cases hil : i < many
    · have hil' : (i : Int) < many := by omega
      have hw1 : IntKind.i64.wrap ((i : Int) + 1) = (i : Int) + 1 := IntWalk.i64_in _ (by omega)
      go_wp2_with fail
      refine (pick_any rb (p + i) ((i : Int) + 1) _ HT.out.rd (by omega)).mono ?_
      rintro e w1 ⟨v, rfl, v0, v1, _, hg1, hr1⟩
      have v2 := v1 (by omega)
      obtain ⟨k, rfl⟩ := Int.eq_ofNat_of_zero_le v0
      have hki : k ≤ i := by omega
      have T1 := Lib.hid (HT.out.pick hg1 hr1)
      clear hg1 hr1 v1 HT
      obtain ⟨f, hf⟩ := T1.out.ow
      have HF := Lib.hid hf
      have hic : i ≤ cap := by
        obtain ⟨_, ⟨e, _⟩ | ⟨_, _, _, e, _, _, h4, _⟩⟩ := hf
        · simp at e
        · simp only [Value.slice.injEq, true_and] at e; omega
      clear hf
      have hk0 : (0 : Int) ≤ k := by omega
      have hk1 : (k : Int) ≤ cap := by omega
      have hk2 : (k : Int) ≤ i := by omega
      by_cases hck : cap = k
      · have hik : k = i := by omega
        subst hik
        subst hck
        go_wp2
        refine wp_region_held_drew (S := fun _ => True) (by kernel_rfl) ?_ (fun hHeld => ?_)
        · (try dsimp only)
          all_goals exact True.intro
        refine wpAnyH_take (i := 0) (v := ?_) (toArr_get _ 0 _ rfl) (by kernel_rfl) (by kernel_rfl) (by kernel_rfl) (fun _ _ _ h => h) (Or.inl ⟨by rfl, ?_⟩) (by assumption) ?_
        rotate_left
        · (intro w hSw; (try dsimp only at hSw); go_simp; (try with_reducible rfl))
        (try simp only [Act.put, List.setIfInBounds_toArray, List.set_cons_zero, List.set_cons_succ])
        refine wpAnyH_take (i := 1) (v := ?_) (toArr_get _ 1 _ rfl) (by kernel_rfl) (by kernel_rfl) (by kernel_rfl) (fun _ _ _ h => h) (Or.inl ⟨by rfl, ?_⟩) (by assumption) ?_
        rotate_left
        · (intro w hSw; (try dsimp only at hSw); go_simp; (try with_reducible rfl))
        (try simp only [Act.put, List.setIfInBounds_toArray, List.set_cons_zero, List.set_cons_succ])
        refine wpAnyH_take (i := 2) (v := ?_) (toArr_get _ 2 _ rfl) (by kernel_rfl) (by kernel_rfl) (by kernel_rfl) (fun _ _ _ h => h) (Or.inl ⟨by rfl, ?_⟩) (by assumption) ?_
        rotate_left
        · (intro w hSw; (try dsimp only at hSw); go_simp; (try with_reducible rfl))
        (try simp only [Act.put, List.setIfInBounds_toArray, List.set_cons_zero, List.set_cons_succ])
        refine wpAnyH_take (i := 3) (v := ?_) (toArr_get _ 3 _ rfl) (by kernel_rfl) (by kernel_rfl) (by kernel_rfl) (fun _ _ _ h => h) (Or.inl ⟨by rfl, ?_⟩) (by assumption) ?_
        rotate_left
        · (intro w hSw; (try dsimp only at hSw); go_simp; (try with_reducible rfl))
        (try simp only [Act.put, List.setIfInBounds_toArray, List.set_cons_zero, List.set_cons_succ])
        refine wpAnyH_take (i := 5) (v := ?_) (toArr_get _ 5 _ rfl) (by kernel_rfl) (by kernel_rfl) (by kernel_rfl) (fun _ _ _ h => h) (Or.inl ⟨by rfl, ?_⟩) (by assumption) ?_
        rotate_left
        · (intro w hSw; (try dsimp only at hSw); go_simp; (try with_reducible rfl))
        (try simp only [Act.put, List.setIfInBounds_toArray, List.set_cons_zero, List.set_cons_succ])
        refine wpAnyH_take (i := 6) (v := ?_) (toArr_get _ 6 _ rfl) (by kernel_rfl) (by kernel_rfl) (by kernel_rfl) (fun _ _ _ h => h) (Or.inl ⟨by rfl, ?_⟩) (by assumption) ?_
        rotate_left
        · (intro w hSw; (try dsimp only at hSw); go_simp; (try with_reducible rfl))
        (try simp only [Act.put, List.setIfInBounds_toArray, List.set_cons_zero, List.set_cons_succ])
        refine wpAnyH_take (i := 7) (v := ?_) (toArr_get _ 7 _ rfl) (by kernel_rfl) (by kernel_rfl) (by kernel_rfl) (fun _ _ _ h => h) (Or.inl ⟨by rfl, ?_⟩) (by assumption) ?_
        rotate_left
        · (intro w hSw; (try dsimp only at hSw); go_simp; (try with_reducible rfl))
        (try simp only [Act.put, List.setIfInBounds_toArray, List.set_cons_zero, List.set_cons_succ])
        refine wpAnyH_ready (rs := [4]) (by kernel_rfl) (by simp) ?_
        refine AllReadyH.cons (toArr_get _ 4 _ rfl) (fun K hK => ?_) ?_
        · go_simp
          refine hK.out _ _ ?_ (fun hHeld2 => ?_)
          · (try dsimp only)
            all_goals exact True.intro
          clear hK K hHeld
          have hHeld := hHeld2
          clear hHeld2
          (try simp only [Act.put, List.setIfInBounds_toArray, List.set_cons_zero, List.set_cons_succ])
          refine wpAnyH_ready (rs := [8]) (by kernel_rfl) (by simp) ?_
          refine AllReadyH.cons (toArr_get _ 8 _ rfl) (fun K hK => ?_) ?_
          · rw [if_pos (by rfl)]
            refine wp_append_mine _ (.tmp 24) (.tmp 27) 26 rfl w1.heap.size 3 i0 _ 1 8 Try.underlying26 HI.out.1 HI.out.2.1 HI.out.2.2.1 HI.out.2.2.2 rfl (by decide) _ 1 [.int .i64 (cap : Int)] rfl (own_one' w1 cap) ⟨g, 0, none⟩ 0 0 (vals (fun j => f (cap + j)) 0) rfl (by rw [vals_len, Nat.mul_one]) (fun j u hj => by simp [vals] at hj) (vals_oneC _ _) (by unfold maxLen; omega) (by omega) (by simp) ?_
            intro v8 w8 hown8 hgrow8
            have O8 := Lib.hid hown8
            have G8 := Lib.hid (show (w1.alloc (.cells #[.int .i64 (cap : Int)] 3)).drew.grownBy w8 (some w1.heap.size) from hgrow8)
            obtain ⟨a8, c8, rfl⟩ := own_shape hown8
            obtain ⟨g8, rfl⟩ := own_some hown8 (by omega)
            clear hown8 hgrow8
            refine hK.out _ _ ?_ (fun hHeld2 => ?_)
            · (try dsimp only)
              all_goals exact True.intro
            clear hK K hHeld
            have hHeld := hHeld2
            clear hHeld2
            (try simp only [Act.put, List.setIfInBounds_toArray, List.set_cons_zero, List.set_cons_succ])
            refine wpAnyH_ready (rs := [9]) (by kernel_rfl) (by simp) ?_
            refine AllReadyH.cons (toArr_get _ 9 _ rfl) (fun K hK => ?_) ?_
            · rw [if_pos (by rfl)]
              refine wp_append_mine _ (.tmp 22) (.tmp 28) 26 rfl w.heap.size 3 i0 _ 1 8 Try.underlying26 HI.out.1 HI.out.2.1 HI.out.2.2.1 HI.out.2.2.2 rfl (by decide) _ cap (vals f cap) rfl ((own_after HF.out G8.out).take (by omega)) ⟨g8, 0, none⟩ (1 + 0) c8 ([.int .i64 (cap : Int)] ++ vals (fun j => f (cap + j)) 0) rfl (by rw [List.length_append, vals_len, List.length_singleton, Nat.mul_one]) (fun j u hj => O8.out.cells (g := g8) rfl j u hj) (by intro u hu; rcases List.mem_append.1 hu with h | h; exact one1 _ u h; exact vals_oneC _ _ u h) (by unfold maxLen; omega) (by omega) (by have := T1.out.gb.size; have := G8.out.size; simp at this; omega) ?_
              intro v9 w9 hown9 hgrow9
              have O9 := Lib.hid hown9
              have G9 := Lib.hid (show w8.grownBy w9 (some g) from hgrow9)
              clear hown9 hgrow9
              refine hK.out _ _ ?_ (fun hHeld2 => ?_)
              · (try dsimp only)
                all_goals exact True.intro
              clear hK K hHeld
              have hHeld := hHeld2
              clear hHeld2
              (try simp only [Act.put, List.setIfInBounds_toArray, List.set_cons_zero, List.set_cons_succ])
              refine wpAnyH_ready (rs := [10]) (by kernel_rfl) (by simp) ?_
              refine AllReadyH.cons (toArr_get _ 10 _ rfl) (fun K hK => ?_) ?_
              · go_simp
                refine hK.out _ _ ?_ (fun hHeld2 => ?_)
                · (try dsimp only)
                  all_goals exact True.intro
                clear hK K hHeld
                have hHeld := hHeld2
                clear hHeld2
                (try simp only [Act.put, List.setIfInBounds_toArray, List.set_cons_zero, List.set_cons_succ])
                refine wpAnyH_done (by kernel_rfl) ?_ _
                have T9 := ot_step (i := cap) (k := cap) (m := 0) (by omega) T1.out HF.out G8.out O9.out G9.out
                obtain ⟨g9, c9, rfl, t9⟩ := T9
                have T9 := Lib.hid t9
                clear t9 hHeld
                go_wp2
                go_roundg (gk - 1)
                case measure => have := HK.out; omega
                case rel => exact ⟨cap + 1, g9, c9, by have := HK.out; omega, by go_num, rfl, T9.out⟩
              exact AllReadyH.nil
            exact AllReadyH.nil
          exact AllReadyH.nil
        exact AllReadyH.nil
      · go_wp2
        refine wp_region_held_drew (S := fun _ => True) (by kernel_rfl) ?_ (fun hHeld => ?_)
        · (try dsimp only)
          all_goals exact True.intro
        refine wpAnyH_take (i := 0) (v := ?_) (toArr_get _ 0 _ rfl) (by kernel_rfl) (by kernel_rfl) (by kernel_rfl) (fun _ _ _ h => h) (Or.inl ⟨by rfl, ?_⟩) (by assumption) ?_
        rotate_left
        · (intro w hSw; (try dsimp only at hSw); go_simp; (try with_reducible rfl))
        (try simp only [Act.put, List.setIfInBounds_toArray, List.set_cons_zero, List.set_cons_succ])
        refine wpAnyH_take (i := 1) (v := ?_) (toArr_get _ 1 _ rfl) (by kernel_rfl) (by kernel_rfl) (by kernel_rfl) (fun _ _ _ h => h) (Or.inl ⟨by rfl, ?_⟩) (by assumption) ?_
        rotate_left
        · (intro w hSw; (try dsimp only at hSw); go_simp; (try with_reducible rfl))
        (try simp only [Act.put, List.setIfInBounds_toArray, List.set_cons_zero, List.set_cons_succ])
        refine wpAnyH_take (i := 2) (v := ?_) (toArr_get _ 2 _ rfl) (by kernel_rfl) (by kernel_rfl) (by kernel_rfl) (fun _ _ _ h => h) (Or.inl ⟨by rfl, ?_⟩) (by assumption) ?_
        rotate_left
        · (intro w hSw; (try dsimp only at hSw); go_simp; (try with_reducible rfl))
        (try simp only [Act.put, List.setIfInBounds_toArray, List.set_cons_zero, List.set_cons_succ])
        refine wpAnyH_take (i := 3) (v := ?_) (toArr_get _ 3 _ rfl) (by kernel_rfl) (by kernel_rfl) (by kernel_rfl) (fun _ _ _ h => h) (Or.inl ⟨by rfl, ?_⟩) (by assumption) ?_
        rotate_left
        · (intro w hSw; (try dsimp only at hSw); go_simp; (try with_reducible rfl))
        (try simp only [Act.put, List.setIfInBounds_toArray, List.set_cons_zero, List.set_cons_succ])
        refine wpAnyH_take (i := 5) (v := ?_) (toArr_get _ 5 _ rfl) (by kernel_rfl) (by kernel_rfl) (by kernel_rfl) (fun _ _ _ h => h) (Or.inl ⟨by rfl, ?_⟩) (by assumption) ?_
        rotate_left
        · (intro w hSw; (try dsimp only at hSw); go_simp; (try with_reducible rfl))
        (try simp only [Act.put, List.setIfInBounds_toArray, List.set_cons_zero, List.set_cons_succ])
        refine wpAnyH_take (i := 6) (v := ?_) (toArr_get _ 6 _ rfl) (by kernel_rfl) (by kernel_rfl) (by kernel_rfl) (fun _ _ _ h => h) (Or.inl ⟨by rfl, ?_⟩) (by assumption) ?_
        rotate_left
        · (intro w hSw; (try dsimp only at hSw); go_simp; (try with_reducible rfl))
        (try simp only [Act.put, List.setIfInBounds_toArray, List.set_cons_zero, List.set_cons_succ])
        refine wpAnyH_take (i := 7) (v := ?_) (toArr_get _ 7 _ rfl) (by kernel_rfl) (by kernel_rfl) (by kernel_rfl) (fun _ _ _ h => h) (Or.inl ⟨by rfl, ?_⟩) (by assumption) ?_
        rotate_left
        · (intro w hSw; (try dsimp only at hSw); go_simp; (try with_reducible rfl))
        (try simp only [Act.put, List.setIfInBounds_toArray, List.set_cons_zero, List.set_cons_succ])
        refine wpAnyH_ready (rs := [4]) (by kernel_rfl) (by simp) ?_
        refine AllReadyH.cons (toArr_get _ 4 _ rfl) (fun K hK => ?_) ?_
        · go_simp
          refine hK.out _ _ ?_ (fun hHeld2 => ?_)
          · (try dsimp only)
            all_goals exact True.intro
          clear hK K hHeld
          have hHeld := hHeld2
          clear hHeld2
          (try simp only [Act.put, List.setIfInBounds_toArray, List.set_cons_zero, List.set_cons_succ])
          refine wpAnyH_ready (rs := [8]) (by kernel_rfl) (by simp) ?_
          refine AllReadyH.cons (toArr_get _ 8 _ rfl) (fun K hK => ?_) ?_
          · rw [if_pos (by rfl)]
            refine wp_append_mine _ (.tmp 24) (.tmp 27) 26 rfl w1.heap.size 3 i0 _ 1 8 Try.underlying26 HI.out.1 HI.out.2.1 HI.out.2.2.1 HI.out.2.2.2 rfl (by decide) _ 1 [.int .i64 (i : Int)] rfl (own_one' w1 i) ⟨g, k, none⟩ (i - k) (cap - k) (vals (fun j => f (k + j)) (i - k)) rfl (by rw [vals_len, Nat.mul_one]) (news_at HF.out k (i - k) (by omega)) (vals_oneC _ _) (by unfold maxLen; omega) (by omega) (by simp) ?_
            intro v8 w8 hown8 hgrow8
            have O8 := Lib.hid hown8
            have G8 := Lib.hid (show (w1.alloc (.cells #[.int .i64 (i : Int)] 3)).drew.grownBy w8 (some w1.heap.size) from hgrow8)
            obtain ⟨a8, c8, rfl⟩ := own_shape hown8
            obtain ⟨g8, rfl⟩ := own_some hown8 (by omega)
            clear hown8 hgrow8
            refine hK.out _ _ ?_ (fun hHeld2 => ?_)
            · (try dsimp only)
              all_goals exact True.intro
            clear hK K hHeld
            have hHeld := hHeld2
            clear hHeld2
            (try simp only [Act.put, List.setIfInBounds_toArray, List.set_cons_zero, List.set_cons_succ])
            refine wpAnyH_ready (rs := [9]) (by kernel_rfl) (by simp) ?_
            refine AllReadyH.cons (toArr_get _ 9 _ rfl) (fun K hK => ?_) ?_
            · rw [if_pos (by rfl)]
              refine wp_append_mine _ (.tmp 22) (.tmp 28) 26 rfl w.heap.size 3 i0 _ 1 8 Try.underlying26 HI.out.1 HI.out.2.1 HI.out.2.2.1 HI.out.2.2.2 rfl (by decide) _ k (vals f k) rfl ((own_after HF.out G8.out).take (by omega)) ⟨g8, 0, none⟩ (1 + (i - k)) c8 ([.int .i64 (i : Int)] ++ vals (fun j => f (k + j)) (i - k)) rfl (by rw [List.length_append, vals_len, List.length_singleton, Nat.mul_one]) (fun j u hj => O8.out.cells (g := g8) rfl j u hj) (by intro u hu; rcases List.mem_append.1 hu with h | h; exact one1 _ u h; exact vals_oneC _ _ u h) (by unfold maxLen; omega) (by omega) (by have := T1.out.gb.size; have := G8.out.size; simp at this; omega) ?_
              intro v9 w9 hown9 hgrow9
              have O9 := Lib.hid hown9
              have G9 := Lib.hid (show w8.grownBy w9 (some g) from hgrow9)
              clear hown9 hgrow9
              refine hK.out _ _ ?_ (fun hHeld2 => ?_)
              · (try dsimp only)
                all_goals exact True.intro
              clear hK K hHeld
              have hHeld := hHeld2
              clear hHeld2
              (try simp only [Act.put, List.setIfInBounds_toArray, List.set_cons_zero, List.set_cons_succ])
              refine wpAnyH_ready (rs := [10]) (by kernel_rfl) (by simp) ?_
              refine AllReadyH.cons (toArr_get _ 10 _ rfl) (fun K hK => ?_) ?_
              · go_simp
                refine hK.out _ _ ?_ (fun hHeld2 => ?_)
                · (try dsimp only)
                  all_goals exact True.intro
                clear hK K hHeld
                have hHeld := hHeld2
                clear hHeld2
                (try simp only [Act.put, List.setIfInBounds_toArray, List.set_cons_zero, List.set_cons_succ])
                refine wpAnyH_done (by kernel_rfl) ?_ _
                have T9 := ot_step (i := i) (k := k) (m := (i - k)) (by omega) T1.out HF.out G8.out O9.out G9.out
                obtain ⟨g9, c9, rfl, t9⟩ := T9
                have T9 := Lib.hid t9
                clear t9 hHeld
                go_wp2
                go_roundg (gk - 1)
                case measure => have := HK.out; omega
                case rel => exact ⟨i + 1, g9, c9, by have := HK.out; omega, by go_num, rfl, T9.out⟩
              exact AllReadyH.nil
            exact AllReadyH.nil
          exact AllReadyH.nil
        exact AllReadyH.nil
    · obtain rfl : i = many := by omega
      go_wp2_with fail
      refine (odd_any rb (p + i) n _ HT.out.rd (by omega)).mono ?_
      rintro e w1 ⟨b, rfl, hg1, hr1⟩
      have T1 := Lib.hid (HT.out.pick hg1 hr1)
      clear hg1 hr1 HT
      have hic : i ≤ cap := by
        obtain ⟨f, hf⟩ := T1.out.ow
        obtain ⟨_, ⟨e, _⟩ | ⟨_, _, _, e, _, _, h4, _⟩⟩ := hf
        · simp at e
        · simp only [Value.slice.injEq, true_and] at e; omega
      cases b with
      | false =>
        go_wp2
        go_ret
        exact ⟨g, i, cap, rfl, T1.out.more (by omega), by omega, hic⟩
      | true =>
        by_cases hi0 : i = 0
        · subst hi0
          go_wp2_with fail
          refine (pick_any rb (p + 0 + 1) 3 _ T1.out.rd (by omega)).mono ?_
          rintro e w2 ⟨v, rfl, v0, v1, _, hg2, hr2⟩
          have T2 := Lib.hid (T1.out.pick hg2 hr2)
          clear hg2 hr2 T1
          obtain ⟨f, hf⟩ := T2.out.ow
          have HF := Lib.hid hf
          clear hf
          have hsw : w.heap.size ≤ w2.heap.size := T2.out.gb.size
          go_wp2_with (at_builtin; refine wpList_append_own _ rfl (.tmp 41) (.tmp 44) 26 rfl w.heap.size 3 i0 _ 1 8 Try.underlying26 HI.out.1 HI.out.2.1 HI.out.2.2.1 HI.out.2.2.2 rfl (by decide) _ 0 (vals f 0) rfl (World.ownsRow.alloc HF.out _) ⟨w2.heap.size, 0, none⟩ 1 1 [.int .i64 v] rfl rfl (news1 _ _ _) (one1 _) (by unfold maxLen; omega) (by omega) (Nat.le_trans hsw (below_box _ _).size) ?_; intro v' w' hown' hgrow hnil)
          obtain ⟨a', c', rfl⟩ := own_shape hown'
          obtain ⟨g', rfl⟩ := own_some hown' (by omega)
          obtain ⟨f', hf'⟩ := own_fun hown' (by intro u hu; rcases List.mem_append.1 hu with h | h; exact vals_ints _ _ u h; exact ⟨v, by simpa using h⟩)
          have hc' : 0 + 1 ≤ c' := own_cap hown'
          have TX := Lib.hid ((T2.out.alloc (.cells #[.int .i64 v] 3)).own hgrow (fun k hk => (HF.out.lt k hk).1) hf')
          clear hown' hgrow hnil hf'
          go_wp2
          go_ret
          exact ⟨g', _, c', rfl, TX.out.more (by omega), by omega, hc'⟩
        · have hi1 : ((i : Int) == 0) = false := by simp; omega
          go_wp2_with fail
          refine (pick_any rb (p + i + 1) 2 _ T1.out.rd (by omega)).mono ?_
          rintro e w2 ⟨u, rfl, u0, u1, _, hg2, hr2⟩
          have T2 := Lib.hid (T1.out.pick hg2 hr2)
          clear hg2 hr2 T1 u1
          by_cases hu : u = 0
          · subst hu
            go_wp2_with fail
            refine (pick_any rb (p + i + 1 + 1) 3 _ T2.out.rd (by omega)).mono ?_
            rintro e w3 ⟨v, rfl, v0, v1, _, hg3, hr3⟩
            have T3 := Lib.hid (T2.out.pick hg3 hr3)
            clear hg3 hr3 T2
            obtain ⟨f, hf⟩ := T3.out.ow
            have HF := Lib.hid hf
            clear hf
            have hsw : w.heap.size ≤ w3.heap.size := T3.out.gb.size
            go_wp2_with (at_builtin; refine wpList_append_own _ rfl (.tmp 41) (.tmp 44) 26 rfl w.heap.size 3 i0 _ 1 8 Try.underlying26 HI.out.1 HI.out.2.1 HI.out.2.2.1 HI.out.2.2.2 rfl (by decide) _ i (vals f i) rfl (World.ownsRow.alloc HF.out _) ⟨w3.heap.size, 0, none⟩ 1 1 [.int .i64 v] rfl rfl (news1 _ _ _) (one1 _) (by unfold maxLen; omega) (by omega) (Nat.le_trans hsw (below_box _ _).size) ?_; intro v' w' hown' hgrow hnil)
            obtain ⟨a', c', rfl⟩ := own_shape hown'
            obtain ⟨g', rfl⟩ := own_some hown' (by omega)
            obtain ⟨f', hf'⟩ := own_fun hown' (by intro u hu; rcases List.mem_append.1 hu with h | h; exact vals_ints _ _ u h; exact ⟨v, by simpa using h⟩)
            have hc' : i + 1 ≤ c' := own_cap hown'
            have TX := Lib.hid ((T3.out.alloc (.cells #[.int .i64 v] 3)).own hgrow (fun k hk => (HF.out.lt k hk).1) hf')
            clear hown' hgrow hnil hf'
            go_wp2
            go_ret
            exact ⟨g', _, c', rfl, TX.out.more (by omega), by omega, hc'⟩
          · have hu1 : (u == 0) = false := by simpa using hu
            go_wp2_with fail
            refine (pick_any rb (p + i + 1 + 1) (i : Int) _ T2.out.rd (by omega)).mono ?_
            rintro e w3 ⟨v, rfl, v0, v1, _, hg3, hr3⟩
            have v2 := v1 (by omega)
            obtain ⟨k, rfl⟩ := Int.eq_ofNat_of_zero_le v0
            have hki : k < i := by omega
            have T3 := Lib.hid ((T2.out.pick hg3 hr3).alloc (.cells #[.int .i64 (-1), .int .i64 (i : Int), .int .i64 0] 3))
            have hs3 := hr3.lt
            clear hg3 hr3 T2 v1
            go_wp2_with fail
            refine (pick_any rb (p + i + 1 + 1 + 1) 3 _ T3.out.rd (by omega)).mono ?_
            rintro e w4 ⟨z, rfl, z0, z1, _, hg4, hr4⟩
            have z2 := z1 (by omega)
            have T4 := Lib.hid (T3.out.pick hg4 hr4)
            have c0 := hg4.cell (a := ⟨w3.heap.size, 0, none⟩) (v := .int .i64 (-1)) (by simp [go_sem]) (by simp; omega)
            have c1 := hg4.cell (a := ⟨w3.heap.size, 1, none⟩) (v := .int .i64 (i : Int)) (by simp [go_sem]) (by simp; omega)
            have c2 := hg4.cell (a := ⟨w3.heap.size, 2, none⟩) (v := .int .i64 0) (by simp [go_sem]) (by simp; omega)
            clear hg4 hr4 T3 z1
            obtain ⟨f, hf⟩ := T4.out.ow
            have hcell := hf.cellAt hki
            have y0 := hcell.1
            have y1 := hcell.2.1
            clear hcell hf
            have hk0 : (0 : Int) ≤ k := by omega
            have hk1 : (k : Int) < i := by omega
            have hzz : z = 0 ∨ z = 1 ∨ z = 2 := by omega
            rcases hzz with rfl | rfl | rfl
            · go_wp2
              go_ret
              exact ⟨g, i, cap, rfl, (T4.out.set hki _).more (by omega), by omega, hic⟩
            · go_wp2
              go_ret
              exact ⟨g, i, cap, rfl, (T4.out.set hki _).more (by omega), by omega, hic⟩
            · go_wp2
              go_ret
              exact ⟨g, i, cap, rfl, (T4.out.set hki _).more (by omega), by omega, hic⟩

/-- A task set was drawn, not nil, and an order. -/
def GotOrd (w : World) (e : Ending) (w' : World) : Prop :=
  ∃ (g cap og ocap : Nat) (ts : List T3) (os : List Int), e = .returned (.tuple #[.slice (some ⟨g, 0, none⟩) ts.length cap, .slice (some ⟨og, 0, none⟩) os.length ocap]) ∧ ts.length ≤ 12 ∧ ts.length ≤ cap ∧ cap ≤ maxLen ∧ os.length ≤ 13 ∧ os.length ≤ ocap ∧
    Row w' (some ⟨g, 0, none⟩) ts ∧ OwnI w' w.heap.size (.slice (some ⟨og, 0, none⟩) os.length ocap) os.length (fun k => os.getD k 0) ∧ Below w.heap.size w w'
theorem own_list {w : World} {base : Nat} {v : Value} {n : Nat} {f : Nat → Int} (h : OwnI w base v n f) : OwnI w base v n (fun k => ((List.range n).map f).getD k 0) :=
  h.congr fun k hk => by rw [List.getD_eq_getElem?_getD, List.getElem?_map, List.getElem?_range hk]; rfl
theorem row_grown {w w' : World} {g off rb : Nat} {ts : List T3} (h : Row w (some ⟨g, off, none⟩) ts) (hg : w.grownBy w' (some rb)) (hne : g ≠ rb) : Row w' (some ⟨g, off, none⟩) ts := by
  intro k t hk
  obtain ⟨b, o, e, hb, h0, h1, h2⟩ := h k t hk
  simp only [Option.some.injEq, Addr.mk.injEq, and_true] at e
  obtain ⟨rfl, rfl⟩ := e
  have hn : ∀ j, some (⟨g, j, none⟩ : Addr).block ≠ some rb := fun j => by simpa using hne
  exact ⟨g, off, rfl, Nat.lt_of_lt_of_le hb hg.size, hg.cell h0 (hn _), hg.cell h1 (hn _), hg.cell h2 (hn _)⟩

end Go.Proofs.Ytlkibehieekceaa
